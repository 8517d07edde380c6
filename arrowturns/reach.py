"""What turns lead to: the least name of a form, its reach, and the ways from it."""

from arrowturns.errors import TooMany
from arrowturns.forms import check_form, first_names, orders, rename, turn

MOST_BOXES_NAMED = 4
MOST_FORMS_REACHED = 20


def least(form):
    check_form(form)
    check_boxes(form)
    return least_name(form)


def reach(form):
    check_form(form)
    check_boxes(form)
    return sorted([stage[2] for stage in stages(form)])


def way(form, other):
    check_form(form)
    check_form(other)
    check_boxes(form)
    for stage in stages(form):
        if first_names(stage[1], other) is not None:
            return stage[0]
    return None


def check_boxes(form):
    if len(form) > MOST_BOXES_NAMED:
        raise TooMany("the form has too many boxes")


def least_name(form):
    boxes = list(range(len(form)))
    return min([rename(form, names) for names in orders(boxes)])


# A stage is a way, the form that stands behind it, and that form's least name.
# Alike forms lead to alike ones, so each least name is gone on from once: from the
# stage that is found first, which has the shortest way and of several the first one.
def stages(form):
    found = [([], form, least_name(form))]
    place = 0
    while place < len(found):
        behind = stages_behind(found[place])
        for stage in behind:
            if stage[2] not in [earlier[2] for earlier in found]:
                found.append(stage)
            if len(found) > MOST_FORMS_REACHED:
                raise TooMany("turns lead to too many forms")
        place = place + 1
    return found


def stages_behind(stage):
    return [stage_behind(stage, box) for box in range(len(stage[1]))]


def stage_behind(stage, box):
    form = turn(stage[1], box)
    return (stage[0] + [box], form, least_name(form))
