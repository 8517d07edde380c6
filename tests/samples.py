"""Forms to try, and the document's words carried out step by step, for the tests to compare with."""

import itertools


def form_from(size, numbers):
    """The form whose numbers above the diagonal are these, row by row."""
    form = [[0] * size for _ in range(size)]
    for (i, j), number in zip(itertools.combinations(range(size), 2), numbers, strict=True):
        form[i][j] = number
        form[j][i] = -number
    return form


def pairs(size):
    return size * (size - 1) // 2


def all_forms(size, most):
    """Every form of so many boxes with numbers from -most to most."""
    return [form_from(size, numbers)
            for numbers in itertools.product(range(-most, most + 1), repeat=pairs(size))]


def some_forms(size, many, most):
    """Forms from -most to most by a fixed rule: the same ones each time."""
    state = 7 * size + most
    forms = []
    for _ in range(many):
        numbers = []
        for _ in range(pairs(size)):
            state = (state * 1103515245 + 12345) % 2 ** 31
            numbers.append((state >> 8) % (2 * most + 1) - most)
        forms.append(form_from(size, numbers))
    return forms


def ordinary_forms():
    """Forms of 1 to 6 boxes, small and great numbers, many with several arrows at each box."""
    forms = [[[0]]] + all_forms(2, 3) + all_forms(3, 2) + all_forms(4, 1)[::5]
    for size in (2, 3, 4, 5, 6):
        forms += some_forms(size, 8, 1) + some_forms(size, 8, 4) + some_forms(size, 8, 99)
    return forms


def turned_by_arrows(form, box):
    """Turned arrow by arrow, as the document tells it."""
    size = len(form)
    others = [i for i in range(size) if i != box]
    arrows = {(i, j): max(form[i][j], 0) for i in range(size) for j in range(size)}
    more = {(i, j): arrows[i, box] * arrows[box, j] for i in others for j in others}
    for i, j in itertools.combinations(others, 2):
        there = arrows[i, j] + more[i, j]
        back = arrows[j, i] + more[j, i]
        struck = min(there, back)
        arrows[i, j] = there - struck
        arrows[j, i] = back - struck
    for i in others:
        arrows[i, box], arrows[box, i] = arrows[box, i], arrows[i, box]
    return [[arrows[i, j] - arrows[j, i] for j in range(size)] for i in range(size)]


def is_renamed(form, names, other):
    """Whether other has at the names of each two boxes the number that form has at the two."""
    size = len(form)
    return all(other[names[i]][names[j]] == form[i][j] for i in range(size) for j in range(size))


def first_names_by_trying(form, other):
    """All names in their order, until some lead from the one form to the other."""
    if len(form) != len(other):
        return None
    for names in itertools.permutations(range(len(form))):
        if is_renamed(form, names, other):
            return list(names)
    return None


def some_names(size):
    """Names of so many boxes: all for few of them, for more every so many ones."""
    return [list(names) for names in itertools.permutations(range(size))][::(1 if size < 4 else 7)]


def lists_within(value):
    """The value itself and each list at any depth in it."""
    found = []
    if isinstance(value, (list, tuple)):
        if isinstance(value, list):
            found.append(value)
        for part in value:
            found += lists_within(part)
    return found
