"""Rings cut by lines into triangles, the forms that come of them, and rows of boxes."""

from arrowturns.errors import NoBox, NoCut
from arrowturns.forms import MOST_BOXES

FEWEST_CORNERS = 4
MOST_CORNERS = 9


def is_cut(corners, lines):
    if corners < FEWEST_CORNERS or corners > MOST_CORNERS or len(lines) != corners - 3:
        return False
    return all([is_line(corners, line) for line in lines]) and rises(lines) and not any_cross(lines)


def form_of(corners, lines):
    check_cut(corners, lines)
    told = [[0] * len(lines) for line in lines]
    for arrow in arrows(corners, lines):
        start = lines.index(arrow[0])
        end = lines.index(arrow[1])
        told[start][end] = 1
        told[end][start] = -1
    return told


def cut_turned(corners, lines, line):
    check_cut(corners, lines)
    if line not in lines:
        raise NoBox("the line is none of the cut")
    tips = [corner for corner in range(corners) if is_tip(corners, lines, line, corner)]
    others = [other for other in lines if other != line]
    return sorted(others + [(tips[0], tips[1])])


def row(boxes):
    if boxes < 1 or boxes > MOST_BOXES:
        raise NoBox(f"no row has {boxes} boxes")
    told = [[0] * boxes for box in range(boxes)]
    for box in range(boxes - 1):
        told[box][box + 1] = 1
        told[box + 1][box] = -1
    return told


def check_cut(corners, lines):
    if not is_cut(corners, lines):
        raise NoCut("what was handed in is no cut")


def is_line(corners, line):
    if line[0] < 0 or line[0] >= line[1] or line[1] >= corners:
        return False
    return not are_neighbours(corners, line)


# Of a rising pair only the first corner and the last one are this far apart.
def are_neighbours(corners, pair):
    return pair[1] - pair[0] in (1, corners - 1)


def rises(lines):
    return all([lines[i] < lines[i + 1] for i in range(len(lines) - 1)])


def any_cross(lines):
    return any([crosses_one(line, lines) for line in lines])


def crosses_one(line, lines):
    return any([cross(line, other) for other in lines])


# Asked of each two lines both ways round, so one way of standing by turns is enough.
def cross(line, other):
    return line[0] < other[0] and other[0] < line[1] and line[1] < other[1]


# An arrow is told as the side that it leads from and the side that it leads to.
def arrows(corners, lines):
    told = []
    for triangle in triangles(corners, lines):
        sides = sides_of(triangle)
        told.extend([(sides[i], sides[(i + 1) % 3]) for i in range(3)])
    return [arrow for arrow in told if arrow[0] in lines and arrow[1] in lines]


def triangles(corners, lines):
    told = []
    for a in range(corners):
        for b in range(a + 1, corners):
            told.extend([(a, b, c) for c in range(b + 1, corners)])
    return [triangle for triangle in told if is_triangle(corners, lines, triangle)]


def is_triangle(corners, lines, triangle):
    return all([is_side(corners, lines, side) for side in sides_of(triangle)])


# In the order in which one goes round: the arrows lead from each to the next one.
def sides_of(triangle):
    return [(triangle[0], triangle[1]), (triangle[1], triangle[2]), (triangle[0], triangle[2])]


def is_side(corners, lines, pair):
    return are_neighbours(corners, pair) or pair in lines


def is_tip(corners, lines, line, corner):
    if corner in line:
        return False
    return is_triangle(corners, lines, sorted([corner, line[0], line[1]]))
