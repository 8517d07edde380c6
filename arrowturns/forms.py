"""Forms of boxes and arrows: what is one, turned, renamed, alike."""

from arrowturns.errors import NoBox, NoForm, NoNames

MOST_BOXES = 6
MOST_ARROWS = 99


def is_form(form):
    return has_full_rows(form) and has_matching_numbers(form)


def turned(form, box):
    check_form(form)
    if box < 0 or box >= len(form):
        raise NoBox(f"{box} is no box of the form")
    return turn(form, box)


def renamed(form, names):
    check_form(form)
    if sorted(names) != list(range(len(form))):
        raise NoNames("the names are not the numbers of all boxes, each once")
    return rename(form, names)


def alike(form, other):
    check_form(form)
    check_form(other)
    return first_names(form, other)


def check_form(form):
    if not is_form(form):
        raise NoForm("what was handed in is no form")


# The numbers are looked at behind this alone: only then is there one at each place.
def has_full_rows(form):
    if len(form) < 1 or len(form) > MOST_BOXES:
        return False
    return all([len(row) == len(form) for row in form])


# A number and its fellow come to nought; at i of the row i a number is its own
# fellow, so that only nought itself passes there.
def has_matching_numbers(form):
    for i in range(len(form)):
        for j in range(len(form)):
            if abs(form[i][j]) > MOST_ARROWS or form[i][j] + form[j][i] != 0:
                return False
    return True


# The functions from here on check nothing: numbers that come of a turn may be
# beyond those of a form that is handed in, and such forms can still be asked of.
def turn(form, box):
    return [turned_row(form, box, i) for i in range(len(form))]


def turned_row(form, box, i):
    return [turned_number(form, box, i, j) for j in range(len(form))]


def turned_number(form, box, i, j):
    if i == box or j == box:
        return -form[i][j]
    return form[i][j] + arrows_through(form, i, box, j) - arrows_through(form, j, box, i)


# Below nought stand arrows the other way: they lead to no arrow from start to end.
def arrows_through(form, start, box, end):
    return max(form[start][box], 0) * max(form[box][end], 0)


def rename(form, names):
    told = [[0] * len(form) for row in form]
    for i in range(len(form)):
        for j in range(len(form)):
            told[names[i]][names[j]] = form[i][j]
    return told


# Of boxes that rise the orders come in the order of names: the lesser one is ahead.
def orders(boxes):
    if boxes == []:
        return [[]]
    told = []
    for box in boxes:
        rest = [other for other in boxes if other != box]
        told.extend([[box] + order for order in orders(rest)])
    return told


def first_names(form, other):
    if len(form) != len(other):
        return None
    return completed_names(form, other, [])


# The lesser name is tried ahead at each place, so the first full list that is
# found is the first one in order.
def completed_names(form, other, names):
    if len(names) == len(form):
        return names
    for name in range(len(form)):
        longer = names + [name]
        if name not in names and last_name_fits(form, other, longer):
            full = completed_names(form, other, longer)
            if full is not None:
                return full
    return None


# The names ahead of the last one were held against each other before, and a
# number tells its fellow: one number for each box with the last one is enough.
def last_name_fits(form, other, names):
    last = len(names) - 1
    for i in range(last):
        if form[i][last] != other[names[i]][names[last]]:
            return False
    return True
