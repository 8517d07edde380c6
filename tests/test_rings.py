import itertools
import unittest

from arrowturns.errors import NoBox, NoCut
from arrowturns.forms import alike, is_form, renamed, turned
from arrowturns.reach import least, reach
from arrowturns.rings import cut_turned, form_of, is_cut, row

import samples

# Spoilt in one way each.
NO_CUTS = {
    "no corner": (0, []),
    "three corners": (3, []),
    "two corners": (2, []),
    "one corner, as many lines": (1, []),
    "corners below nought": (-5, []),
    "corners below nought, with lines": (-5, [(0, 2), (0, 3)]),
    "ten corners": (10, [(0, 2), (0, 3), (0, 4), (0, 5), (0, 6), (0, 7), (0, 8)]),
    "sixty-three corners": (63, [(0, i) for i in range(2, 62)]),
    "thirty figures of corners": (samples.THIRTY_NINES, [(0, 2)]),
    "thirty figures of corners below nought": (-samples.THIRTY_NINES, [(0, 2)]),
    "no line": (4, []),
    "no line of five corners": (5, []),
    "both lines of four corners": (4, [(0, 2), (1, 3)]),
    "one line twice": (5, [(0, 2), (0, 2)]),
    "one line more, twice": (5, [(0, 2), (0, 2), (0, 3)]),
    "one line fewer": (6, [(0, 2), (0, 3)]),
    "falling": (5, [(0, 3), (0, 2)]),
    "falling by the first corner": (6, [(2, 4), (0, 2), (0, 4)]),
    "falling at the end": (6, [(0, 2), (2, 4), (0, 4)]),
    "the greater corner first": (5, [(2, 0), (3, 0)]),
    "one line the greater corner first": (5, [(0, 2), (3, 0)]),
    "neighbours": (4, [(0, 1)]),
    "neighbours at the end": (4, [(2, 3)]),
    "neighbours, the last one and the first one": (4, [(0, 3)]),
    "neighbours, the last one and the first one of six": (6, [(0, 2), (0, 3), (0, 5)]),
    "neighbours among lines": (5, [(0, 2), (2, 3)]),
    "one corner twice": (4, [(2, 2)]),
    "one corner twice among lines": (5, [(0, 2), (2, 2)]),
    "a corner that is none": (4, [(0, 4)]),
    "a corner that is none, crossing nothing": (5, [(0, 2), (2, 5)]),
    "a corner below nought": (4, [(-1, 1)]),
    "a corner below nought, crossing nothing": (5, [(-2, 2), (0, 2)]),
    "two corners below nought": (4, [(-3, -1)]),
    "two corners that are none": (4, [(5, 7)]),
    "thirty figures of a corner": (4, [(0, samples.THIRTY_NINES)]),
    "thirty figures of a corner below nought": (4, [(-samples.THIRTY_NINES, 2)]),
    "crossing": (5, [(0, 2), (1, 3)]),
    "crossing, far apart in the list": (7, [(0, 5), (1, 3), (1, 4), (3, 6)]),
    "crossing at the end": (6, [(0, 2), (2, 4), (3, 5)]),
    "crossing, the first and the last": (6, [(0, 4), (1, 3), (1, 5)]),
    "crossing, all": (6, [(0, 3), (1, 4), (2, 5)]),
}

# A ring, a cut of it, and the form by hand.
FORMS_BY_HAND = [
    (4, [(0, 2)], [[0]]),
    (4, [(1, 3)], [[0]]),
    # The triangle 0, 2, 3: from (0, 3) on to (0, 2).
    (5, [(0, 2), (0, 3)], [[0, -1], [1, 0]]),
    # The triangle 0, 2, 4: from (0, 2) on to (2, 4).
    (5, [(0, 2), (2, 4)], [[0, 1], [-1, 0]]),
    # The triangle 1, 3, 4: from (1, 4) on to (1, 3).
    (5, [(1, 3), (1, 4)], [[0, -1], [1, 0]]),
    # The triangle 0, 1, 3: from (1, 3) on to (0, 3).
    (5, [(0, 3), (1, 3)], [[0, -1], [1, 0]]),
    # The triangle 0, 1, 4 has one line; 1, 2, 4: from (2, 4) on to (1, 4).
    (5, [(1, 4), (2, 4)], [[0, -1], [1, 0]]),
    # The triangle 0, 2, 4 of lines alone: (0, 2), (2, 4), (0, 4), (0, 2).
    (6, [(0, 2), (0, 4), (2, 4)], [[0, -1, 1], [1, 0, -1], [-1, 1, 0]]),
    (6, [(0, 2), (2, 5), (3, 5)], [[0, 1, 0], [-1, 0, -1], [0, 1, 0]]),
    (6, [(0, 2), (0, 3), (0, 4)], [[0, -1, 0], [1, 0, -1], [0, 1, 0]]),
]


def names_behind(lines, line, later):
    """The place in the later cut of each line, the new one in the place of the one that was turned."""
    new = [other for other in later if other not in lines]
    return [later.index(new[0] if other == line else other) for other in lines]


class WhatACutIs(unittest.TestCase):
    def test_cuts(self):
        for corners, lines, _ in FORMS_BY_HAND:
            self.assertIs(is_cut(corners, lines), True, lines)

    def test_all_cuts_of_each_ring(self):
        for corners, many in ((4, 2), (5, 5), (6, 14), (7, 42), (8, 132), (9, 429)):
            cuts = samples.all_cuts(corners)
            self.assertEqual(len(cuts), many)
            for lines in cuts:
                self.assertIs(is_cut(corners, lines), True, (corners, lines))

    def test_each_list_of_pairs_of_small_rings(self):
        for corners in (4, 5):
            pairs = list(itertools.product(range(-1, corners + 1), repeat=2))
            cuts = samples.all_cuts(corners)
            for length in (0, 1, 2):
                for lines in itertools.product(pairs, repeat=length):
                    self.assertIs(is_cut(corners, list(lines)), list(lines) in cuts, (corners, lines))

    def test_each_list_of_lines_of_six_corners(self):
        cuts = samples.all_cuts(6)
        lines = list(itertools.combinations(range(6), 2))
        for length in (2, 3, 4):
            for some in itertools.product(lines, repeat=length) if length < 4 else itertools.combinations(lines, 4):
                self.assertIs(is_cut(6, list(some)), list(some) in cuts, some)

    def test_what_is_no_cut(self):
        for words, (corners, lines) in NO_CUTS.items():
            self.assertIs(is_cut(corners, lines), False, words)

    def test_a_cut_of_one_ring_is_none_of_another(self):
        for corners in range(4, 10):
            for lines in samples.some_cuts(corners):
                for other in (corners - 1, corners + 1, -corners, 0, 60):
                    self.assertIs(is_cut(other, lines), False, (other, lines))

    def test_cuts_spoilt_in_one_way(self):
        for corners in range(4, 10):
            for lines in samples.some_cuts(corners):
                for spoilt in self.spoilt(corners, lines):
                    self.assertIs(is_cut(corners, spoilt), False, (corners, lines, spoilt))

    def spoilt(self, corners, lines):
        for i, (low, high) in enumerate(lines):
            ahead, behind = lines[:i], lines[i + 1:]
            yield ahead + behind
            yield ahead + [(low, high)] * 2 + behind
            yield ahead + [(high, low)] + behind
            for pair in [(0, 1), (corners - 2, corners - 1), (0, corners - 1), (low, low), (low, corners),
                         (low - corners, high), (low, high + corners), (0, samples.THIRTY_NINES)]:
                yield sorted(ahead + behind + [pair])
            for pair in samples.all_lines(corners):
                if pair not in lines:
                    yield sorted(lines + [pair])
            for other in ahead:
                yield sorted(ahead + behind + [other])
            if behind:
                yield ahead + [behind[0], (low, high)] + behind[1:]
        for other in samples.all_lines(corners):
            crossed = [line for line in lines if samples.cross_round_the_ring(corners, line, other)]
            if len(crossed) > 1:
                yield sorted([line for line in lines if line != crossed[0]] + [other])

    def test_no_cut_is_refused(self):
        for words, (corners, lines) in NO_CUTS.items():
            with self.subTest(words), self.assertRaises(NoCut):
                form_of(corners, lines)
            for line in lines[:1] + lines[-1:] + [(0, 2), (0, 0), (-1, samples.THIRTY_NINES)]:
                with self.subTest(words, line=line), self.assertRaises(NoCut):
                    cut_turned(corners, lines, line)


class FormOfACut(unittest.TestCase):
    def test_by_hand(self):
        for corners, lines, form in FORMS_BY_HAND:
            self.assertEqual(form_of(corners, lines), form, lines)

    def test_each_cut_as_triangle_by_triangle(self):
        for corners in range(4, 10):
            for lines in samples.some_cuts(corners):
                self.assertEqual(form_of(corners, lines), samples.form_of_by_triangles(corners, lines), lines)

    def test_it_is_a_form_with_a_box_for_each_line(self):
        for corners in range(4, 10):
            for lines in samples.some_cuts(corners):
                form = form_of(corners, lines)
                self.assertIs(is_form(form), True, lines)
                self.assertEqual(len(form), corners - 3)

    def test_every_second_corner_round(self):
        # All of 0, 2, 4, 6 lines of each other: two triangles of lines alone.
        lines = [(0, 2), (0, 4), (0, 6), (2, 4), (4, 6)]
        self.assertEqual(form_of(8, lines), [[0, -1, 0, 1, 0], [1, 0, -1, -1, 1], [0, 1, 0, 0, -1],
                                             [-1, 1, 0, 0, 0], [0, -1, 1, 0, 0]])


class CutTurned(unittest.TestCase):
    def test_by_hand(self):
        for corners, lines, line, told in (
            (4, [(0, 2)], (0, 2), [(1, 3)]),
            (4, [(1, 3)], (1, 3), [(0, 2)]),
            (5, [(0, 2), (0, 3)], (0, 2), [(0, 3), (1, 3)]),
            (5, [(0, 2), (0, 3)], (0, 3), [(0, 2), (2, 4)]),
            (6, [(0, 2), (0, 4), (2, 4)], (0, 2), [(0, 4), (1, 4), (2, 4)]),
            (6, [(0, 2), (0, 4), (2, 4)], (0, 4), [(0, 2), (2, 4), (2, 5)]),
            (6, [(0, 2), (0, 4), (2, 4)], (2, 4), [(0, 2), (0, 3), (0, 4)]),
            (9, [(0, 2), (0, 3), (0, 4), (0, 5), (0, 6), (0, 7)], (0, 7),
             [(0, 2), (0, 3), (0, 4), (0, 5), (0, 6), (6, 8)]),
        ):
            self.assertEqual(cut_turned(corners, lines, line), told, (lines, line))

    def test_it_is_the_one_other_cut_with_the_other_lines(self):
        for corners in (4, 5, 6, 7):
            cuts = samples.all_cuts(corners)
            for lines in cuts:
                for line in lines:
                    others = set(lines) - {line}
                    fitting = [cut for cut in cuts if others <= set(cut) and line not in cut]
                    self.assertEqual([cut_turned(corners, lines, line)], fitting, (lines, line))

    def test_the_new_line_stands_between_the_two_other_corners(self):
        for corners in range(4, 10):
            for lines in samples.some_cuts(corners):
                for line in lines:
                    told = cut_turned(corners, lines, line)
                    self.assertIs(is_cut(corners, told), True, (lines, line))
                    new = set(told) - set(lines)
                    self.assertEqual(set(lines) - set(told), {line})
                    self.assertEqual(len(new), 1)
                    for tip, end in itertools.product(new.pop(), line):
                        self.assertTrue(samples.neighbours(corners, tip, end)
                                        or tuple(sorted((tip, end))) in lines, (lines, line))

    def test_turned_at_the_new_line_it_is_as_it_was(self):
        for corners in range(4, 10):
            for lines in samples.some_cuts(corners):
                for line in lines:
                    told = cut_turned(corners, lines, line)
                    new = [other for other in told if other not in lines][0]
                    self.assertEqual(cut_turned(corners, told, new), lines)

    def test_its_form_is_the_form_turned_and_renamed(self):
        for corners in range(4, 10):
            for lines in samples.some_cuts(corners):
                for box, line in enumerate(lines):
                    told = cut_turned(corners, lines, line)
                    names = names_behind(lines, line, told)
                    self.assertEqual(form_of(corners, told), renamed(turned(form_of(corners, lines), box), names))

    def test_what_is_no_line_of_the_cut(self):
        for corners in range(4, 10):
            for lines in samples.some_cuts(corners):
                wrong = [pair for pair in itertools.product(range(-1, corners + 1), repeat=2) if pair not in lines]
                for line in wrong + [(0, samples.THIRTY_NINES), (-samples.THIRTY_NINES, 2)]:
                    with self.assertRaises(NoBox, msg=(lines, line)):
                        cut_turned(corners, lines, line)

    def test_what_is_told_is_a_list_of_tuples(self):
        told = cut_turned(6, [(0, 2), (0, 3), (0, 4)], (0, 3))
        self.assertIs(type(told), list)
        self.assertEqual({type(line) for line in told}, {tuple})
        self.assertEqual({type(corner) for line in told for corner in line}, {int})


class Row(unittest.TestCase):
    def test_by_hand(self):
        self.assertEqual(row(1), [[0]])
        self.assertEqual(row(2), [[0, 1], [-1, 0]])
        self.assertEqual(row(3), [[0, 1, 0], [-1, 0, 1], [0, -1, 0]])
        self.assertEqual(row(4), [[0, 1, 0, 0], [-1, 0, 1, 0], [0, -1, 0, 1], [0, 0, -1, 0]])

    def test_one_arrow_from_each_box_to_the_next_one(self):
        for boxes in range(1, 7):
            told = row(boxes)
            self.assertIs(is_form(told), True)
            self.assertEqual(len(told), boxes)
            for i, j in itertools.product(range(boxes), repeat=2):
                self.assertEqual(told[i][j], {1: 1, -1: -1}.get(j - i, 0))

    def test_numbers_that_are_none(self):
        for boxes in (0, -1, -2, -6, 7, 8, 9, 60, -60, samples.THIRTY_NINES, -samples.THIRTY_NINES):
            with self.subTest(boxes=boxes), self.assertRaises(NoBox):
                row(boxes)

    def test_it_is_alike_to_the_form_of_a_cut(self):
        for boxes in range(1, 7):
            corners = boxes + 3
            all_from_one_corner = [(0, corner) for corner in range(2, corners - 1)]
            self.assertEqual(alike(row(boxes), form_of(corners, all_from_one_corner)), list(range(boxes))[::-1])

    def test_its_reach_is_the_forms_of_all_cuts(self):
        for boxes, many in ((1, 1), (2, 1), (3, 4), (4, 6)):
            names = []
            for lines in samples.all_cuts(boxes + 3):
                name = least(form_of(boxes + 3, lines))
                if name not in names:
                    names.append(name)
            told = reach(row(boxes))
            self.assertEqual(told, sorted(names))
            self.assertEqual(len(told), many)


if __name__ == "__main__":
    unittest.main()
