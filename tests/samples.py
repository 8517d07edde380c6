"""Forms to try, and the document's words carried out step by step, for the tests to compare with."""

import itertools

THIRTY_NINES = 10 ** 30 - 1


def form_from(size, numbers):
    """The form whose numbers above the diagonal are these, row by row."""
    form = [[0] * size for _ in range(size)]
    for (i, j), number in zip(itertools.combinations(range(size), 2), numbers, strict=True):
        form[i][j] = number
        form[j][i] = -number
    return form


def pairs(size):
    return size * (size - 1) // 2


def all_forms(size, most):
    """Every form of so many boxes with numbers from -most to most."""
    return [form_from(size, numbers)
            for numbers in itertools.product(range(-most, most + 1), repeat=pairs(size))]


def some_forms(size, many, most):
    """Forms from -most to most by a fixed rule: the same ones each time."""
    state = 7 * size + most
    forms = []
    for _ in range(many):
        numbers = []
        for _ in range(pairs(size)):
            state = (state * 1103515245 + 12345) % 2 ** 31
            numbers.append((state >> 8) % (2 * most + 1) - most)
        forms.append(form_from(size, numbers))
    return forms


def ordinary_forms():
    """Forms of 1 to 6 boxes, small and great numbers, many with several arrows at each box."""
    forms = [[[0]]] + all_forms(2, 3) + all_forms(3, 2) + all_forms(4, 1)[::5]
    for size in (2, 3, 4, 5, 6):
        forms += some_forms(size, 8, 1) + some_forms(size, 8, 4) + some_forms(size, 8, 99)
    return forms


def turned_by_arrows(form, box):
    """Turned arrow by arrow, as the document tells it."""
    size = len(form)
    others = [i for i in range(size) if i != box]
    arrows = {(i, j): max(form[i][j], 0) for i in range(size) for j in range(size)}
    more = {(i, j): arrows[i, box] * arrows[box, j] for i in others for j in others}
    for i, j in itertools.combinations(others, 2):
        there = arrows[i, j] + more[i, j]
        back = arrows[j, i] + more[j, i]
        struck = min(there, back)
        arrows[i, j] = there - struck
        arrows[j, i] = back - struck
    for i in others:
        arrows[i, box], arrows[box, i] = arrows[box, i], arrows[i, box]
    return [[arrows[i, j] - arrows[j, i] for j in range(size)] for i in range(size)]


def is_renamed(form, names, other):
    """Whether other has at the names of each two boxes the number that form has at the two."""
    size = len(form)
    return all(other[names[i]][names[j]] == form[i][j] for i in range(size) for j in range(size))


def first_names_by_trying(form, other):
    """All names in their order, until some lead from the one form to the other."""
    if len(form) != len(other):
        return None
    for names in itertools.permutations(range(len(form))):
        if is_renamed(form, names, other):
            return list(names)
    return None


def some_names(size):
    """Names of so many boxes: all for few of them, for more every so many ones."""
    return [list(names) for names in itertools.permutations(range(size))][::(1 if size < 4 else 7)]


def lists_within(value):
    """The value itself and each list at any depth in it."""
    found = []
    if isinstance(value, (list, tuple)):
        if isinstance(value, list):
            found.append(value)
        for part in value:
            found += lists_within(part)
    return found


def small_forms(size):
    """Forms of few arrows: many of few reached ones, some of too many."""
    if size < 4:
        return all_forms(size, 2)
    return all_forms(size, 1)[::7] + some_forms(size, 10, 2)


def determinant_by_rows(rows):
    """Along the first row, by the determinants that are one smaller."""
    if not rows:
        return 1
    return sum((-1) ** place * number * determinant_by_rows([row[:place] + row[place + 1:] for row in rows[1:]])
               for place, number in enumerate(rows[0]))


def step_by_trying(numbers):
    """The greatest number that divides all of these, tried from above."""
    for number in range(max(abs(number) for number in numbers), 0, -1):
        if all(other % number == 0 for other in numbers):
            return number
    return 0


def renamed_by_places(form, names):
    size = len(form)
    place = {name: i for i, name in enumerate(names)}
    return [[form[place[i]][place[j]] for j in range(size)] for i in range(size)]


def least_by_trying(form):
    """The first of all forms that it is renamed to."""
    return sorted(renamed_by_places(form, names) for names in itertools.permutations(range(len(form))))[0]


def reached_forms(form):
    """Every form that turns lead to, under its own boxes; None where they are too many for a reach."""
    most = 20 * 24  # no least name stands for more forms than there are names of four boxes
    found = {str(form): form}
    waiting = [form]
    while waiting and len(found) <= most:
        standing = waiting.pop(0)
        for box in range(len(form)):
            come = turned_by_arrows(standing, box)
            if str(come) not in found:
                found[str(come)] = come
                waiting.append(come)
    return None if waiting else list(found.values())


def reach_by_forms(form):
    """The least names of all reached forms, each once, in their order; None where they are more than 20."""
    forms = reached_forms(form)
    if forms is None:
        return None
    told = []
    for name in sorted(least_by_trying(reached) for reached in forms):
        if name not in told:
            told.append(name)
    return told if len(told) <= 20 else None


def way_by_trying(form, other, longest):
    """All lists of boxes, the short ones ahead, each length in order, until one leads there."""
    for length in range(longest + 1):
        for boxes in itertools.product(range(len(form)), repeat=length):
            standing = form
            for box in boxes:
                standing = turned_by_arrows(standing, box)
            if first_names_by_trying(standing, other) is not None:
                return list(boxes)
    return None


def neighbours(corners, one, other):
    return (one - other) % corners in (1, corners - 1)


def cross_round_the_ring(corners, line, other):
    """Whether one that goes round the ring meets a corner of the one and of the other by turns."""
    met = [corner in line for corner in range(corners) if (corner in line) != (corner in other)]
    return len(met) == 4 and all(met[i] != met[(i + 1) % 4] for i in range(4))


def all_lines(corners):
    return [pair for pair in itertools.combinations(range(corners), 2) if not neighbours(corners, *pair)]


def all_cuts(corners, begun=()):
    """Every list of lines that rise and don't cross, three fewer than corners."""
    if len(begun) == corners - 3:
        return [list(begun)]
    told = []
    for line in all_lines(corners):
        if all(earlier < line and not cross_round_the_ring(corners, earlier, line) for earlier in begun):
            told += all_cuts(corners, begun + (line,))
    return told


def some_cuts(corners):
    """All cuts of small rings, of greater ones every so many ones."""
    return all_cuts(corners)[::(1 if corners < 7 else 11)]


def form_of_by_triangles(corners, lines):
    form = [[0] * len(lines) for _ in lines]
    sides = set(lines) | {pair for pair in itertools.combinations(range(corners), 2) if neighbours(corners, *pair)}
    for a, b, c in itertools.combinations(range(corners), 3):
        if {(a, b), (b, c), (a, c)} <= sides:
            for start, end in (((a, b), (b, c)), ((b, c), (a, c)), ((a, c), (a, b))):
                if start in lines and end in lines:
                    form[lines.index(start)][lines.index(end)] += 1
                    form[lines.index(end)][lines.index(start)] -= 1
    return form


NO_FORMS = {
    "no box": [],
    "a row with no number": [[]],
    "seven boxes": [[0] * 7 for _ in range(7)],
    "eight boxes": [[0] * 8 for _ in range(8)],
    "sixty boxes": [[0] * 60 for _ in range(60)],
    "seven boxes with arrows": some_forms(7, 1, 3)[0],
    "100": [[0, 100], [-100, 0]],
    "-100": [[0, -100], [100, 0]],
    "100 in the last row": form_from(6, [0] * 14 + [100]),
    "-100 in the last row": form_from(6, [0] * 14 + [-100]),
    "thirty figures": [[0, THIRTY_NINES], [-THIRTY_NINES, 0]],
    "thirty figures below nought": [[0, -THIRTY_NINES], [THIRTY_NINES, 0]],
    "thirty figures, one box": [[THIRTY_NINES]],
    "first row too short": [[0], [0, 0]],
    "last row too short": [[0, 1, 0], [-1, 0, 0], [0, 0]],
    "middle row too short": [[0, 0, 0], [0, 0], [0, 0, 0]],
    "first row too long": [[0, 1, 0], [-1, 0]],
    "last row too long": [[0, 1], [-1, 0, 0]],
    "one box, two numbers": [[0, 0]],
    "a row of sixty": [[0] * 60, [0, 0]],
    "a row with no number among others": [[0, 0], []],
    "a row left out": [[0, 1, 0], [-1, 0, 1]],
    "one row more": [[0, 1], [-1, 0], [0, 0]],
    "one row more, with no number": [[0, 1], [-1, 0], []],
    "fellow of the same sign": [[0, 1], [1, 0]],
    "fellow of another size": [[0, 1], [-2, 0]],
    "fellow left at nought": [[0, 1], [0, 0]],
    "fellow beside nought": [[0, 0], [-1, 0]],
    "fellows of the last two boxes": [[0, 1, 0], [-1, 0, 3], [0, 3, 0]],
    "fellows of the outer boxes": [[0, 0, 1], [0, 0, 0], [1, 0, 0]],
    "one beside nought, one box": [[1]],
    "one below beside nought, one box": [[-1]],
    "beside nought in the first row": [[1, 0], [0, 0]],
    "beside nought in the last row": [[0, 2], [-2, 5]],
    "beside nought in the middle row": [[0, 0, 0], [0, -7, 0], [0, 0, 0]],
    "beside nought twice, taken from nought": [[1, 0], [0, -1]],
}
