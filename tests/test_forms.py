import copy
import itertools
import unittest

from arrowturns.errors import NoBox, NoForm, NoNames
from arrowturns.forms import alike, is_form, renamed, turned

import samples

RING = [[0, 1, -1], [-1, 0, 1], [1, -1, 0]]
RING_BACK = [[0, -1, 1], [1, 0, -1], [-1, 1, 0]]
ROW = [[0, 1, 0], [-1, 0, 1], [0, -1, 0]]
UNEVEN_ROW = [[0, 1, 0], [-1, 0, 2], [0, -2, 0]]

EDGE_FORMS = {
    "one box": [[0]],
    "two boxes with no arrow": [[0, 0], [0, 0]],
    "six boxes with no arrow": [[0] * 6 for _ in range(6)],
    "six boxes, 99 and -99 throughout": samples.form_from(6, [99, -99, 99] * 5),
    "99": [[0, 99], [-99, 0]],
    "-99": [[0, -99], [99, 0]],
}


class WhatAFormIs(unittest.TestCase):
    def test_ordinary_forms(self):
        for form in samples.ordinary_forms():
            self.assertIs(is_form(form), True, form)

    def test_forms_at_the_edges(self):
        for words, form in EDGE_FORMS.items():
            self.assertIs(is_form(form), True, words)

    def test_the_same_row_handed_in_for_several_boxes(self):
        row = [0, 0, 0]
        self.assertIs(is_form([row, row, row]), True)

    def test_what_is_no_form(self):
        for words, form in samples.NO_FORMS.items():
            self.assertIs(is_form(form), False, words)

    def test_each_number_changed_by_itself_makes_no_form(self):
        for size in (1, 2, 4, 6):
            form = samples.some_forms(size, 1, 5)[0]
            for i, j in itertools.product(range(size), repeat=2):
                for change in (1, -1, samples.THIRTY_NINES):
                    changed = copy.deepcopy(form)
                    changed[i][j] += change
                    self.assertIs(is_form(changed), False, changed)

    def test_each_row_too_short_too_long_or_left_out_makes_no_form(self):
        for size in range(1, 7):
            form = [[0] * size for _ in range(size)]
            for i in range(size):
                self.assertIs(is_form(form[:i] + [[0] * (size - 1)] + form[i + 1:]), False)
                self.assertIs(is_form(form[:i] + [[0] * (size + 1)] + form[i + 1:]), False)
                self.assertIs(is_form(form[:i] + form[i + 1:]), False)
            self.assertIs(is_form(form + [[0] * size]), False)


class Turned(unittest.TestCase):
    def test_one_box(self):
        self.assertEqual(turned([[0]], 0), [[0]])

    def test_two_boxes(self):
        for box in (0, 1):
            self.assertEqual(turned([[0, 5], [-5, 0]], box), [[0, -5], [5, 0]])

    def test_a_row_turned_in_the_middle_is_a_ring(self):
        self.assertEqual(turned(ROW, 1), RING_BACK)

    def test_a_row_turned_at_its_ends(self):
        self.assertEqual(turned(ROW, 0), [[0, -1, 0], [1, 0, 1], [0, -1, 0]])
        self.assertEqual(turned(ROW, 2), [[0, 1, 0], [-1, 0, -1], [0, 1, 0]])

    def test_arrows_the_other_way_are_struck(self):
        self.assertEqual(turned(RING, 1), [[0, -1, 0], [1, 0, -1], [0, 1, 0]])
        self.assertEqual(turned(samples.form_from(3, [2, -5, 3]), 1), samples.form_from(3, [-2, 1, -3]))
        self.assertEqual(turned(samples.form_from(3, [2, -7, 3]), 1), samples.form_from(3, [-2, -1, -3]))

    def test_arrows_there_already_stay(self):
        self.assertEqual(turned(samples.form_from(3, [2, 4, 3]), 1), samples.form_from(3, [-2, 10, -3]))

    def test_two_ways_into_a_box_or_out_of_it_add_none(self):
        self.assertEqual(turned(samples.form_from(3, [2, 1, -3]), 1), samples.form_from(3, [-2, 1, 3]))
        self.assertEqual(turned(samples.form_from(3, [-2, 1, 3]), 1), samples.form_from(3, [2, 1, -3]))

    def test_each_form_at_each_box_as_arrow_by_arrow(self):
        for form in samples.ordinary_forms():
            for box in range(len(form)):
                self.assertEqual(turned(form, box), samples.turned_by_arrows(form, box), (form, box))

    def test_beyond_99(self):
        self.assertEqual(turned(samples.form_from(3, [99, 99, 99]), 1), samples.form_from(3, [-99, 9900, -99]))
        self.assertEqual(turned(samples.form_from(3, [-99, -99, -99]), 1), samples.form_from(3, [99, -9900, 99]))
        self.assertEqual(turned(samples.form_from(3, [10, 0, 10]), 1), samples.form_from(3, [-10, 100, -10]))

    def test_what_came_beyond_99_is_no_form_to_hand_in(self):
        beyond = turned(samples.form_from(3, [10, 0, 10]), 1)
        self.assertIs(is_form(beyond), False)
        with self.assertRaises(NoForm):
            turned(beyond, 1)

    def test_twice_at_one_box_is_as_it_was(self):
        tried = 0
        for form in samples.ordinary_forms():
            for box in range(len(form)):
                once = turned(form, box)
                if is_form(once):
                    tried += 1
                    self.assertEqual(turned(once, box), form, (form, box))
        self.assertGreater(tried, 500)

    def test_twice_at_one_box_with_99_at_it(self):
        once = turned([[0, 99], [-99, 0]], 0)
        self.assertEqual(turned(once, 0), [[0, 99], [-99, 0]])

    def test_numbers_that_are_no_box(self):
        for size in range(1, 7):
            form = samples.some_forms(size, 1, 3)[0]
            for box in (-1, -2, -size, -size - 1, size, size + 1, 60, -60, samples.THIRTY_NINES, -samples.THIRTY_NINES):
                with self.subTest(size=size, box=box), self.assertRaises(NoBox):
                    turned(form, box)


class Renamed(unittest.TestCase):
    def test_one_box(self):
        self.assertEqual(renamed([[0]], [0]), [[0]])

    def test_the_box_is_called_by_the_name_at_its_place(self):
        # 0 -> 1 once and 1 -> 2 twice; called 1, 2, 0 that is 1 -> 2 once and 2 -> 0 twice.
        self.assertEqual(renamed(UNEVEN_ROW, [1, 2, 0]), [[0, 0, -2], [0, 0, 1], [2, -1, 0]])

    def test_own_names_change_nothing(self):
        for form in samples.ordinary_forms():
            self.assertEqual(renamed(form, list(range(len(form)))), form)

    def test_each_number_stands_at_the_names_of_its_boxes(self):
        for size in range(1, 7):
            for form in samples.some_forms(size, 3, 99):
                for names in samples.some_names(size):
                    told = renamed(form, names)
                    self.assertEqual([len(row) for row in told], [size] * size)
                    self.assertTrue(samples.is_renamed(form, names, told), (form, names, told))

    def test_what_are_no_names(self):
        for form, names in (
            ([[0]], []), ([[0]], [1]), ([[0]], [-1]), ([[0]], [0, 0]), ([[0]], [0, 1]), ([[0]], [samples.THIRTY_NINES]),
            (ROW, []), (ROW, [0, 1, 1]), (ROW, [0, 0, 2]), (ROW, [2, 2, 2]), (ROW, [0, 1]), (ROW, [1, 2]),
            (ROW, [0, 1, 2, 3]), (ROW, [0, 1, 2, 2]), (ROW, [0, 1, 2, 0]), (ROW, [1, 2, 3]), (ROW, [0, 1, 3]),
            (ROW, [-1, 0, 1]), (ROW, [0, 1, -1]), (ROW, [0, -2, -1]), (ROW, [-3, -2, -1]),
            (ROW, [0, 1, samples.THIRTY_NINES]), (ROW, [-samples.THIRTY_NINES, 1, 2]), (ROW, [0] * 60), (ROW, list(range(60))),
        ):
            with self.subTest(form=form, names=names), self.assertRaises(NoNames):
                renamed(form, names)

    def test_names_one_twice_one_less_one_more_one_off_of_each_size(self):
        for size in range(2, 7):
            form = samples.some_forms(size, 1, 3)[0]
            names = list(range(size))
            for wrong in (names[:-1] + [0], names[:-1], names[1:], names + [size], names + [0],
                          names[:-1] + [size], [-1] + names[1:], []):
                with self.subTest(size=size, names=wrong), self.assertRaises(NoNames):
                    renamed(form, wrong)


class TurningAndRenaming(unittest.TestCase):
    def test_they_go_together(self):
        for size in range(1, 7):
            for form in samples.some_forms(size, 2, 2) + samples.some_forms(size, 1, 9):
                for names, box in itertools.product(samples.some_names(size), range(size)):
                    once = turned(form, box)
                    self.assertIs(is_form(once), True)
                    self.assertEqual(turned(renamed(form, names), names[box]), renamed(once, names))

    def test_they_go_together_beyond_99(self):
        form = samples.form_from(4, [99, 98, -97, 96, 95, -94])
        for names in samples.some_names(4):
            for box in range(4):
                told = turned(renamed(form, names), names[box])
                self.assertTrue(samples.is_renamed(turned(form, box), names, told))


class Alike(unittest.TestCase):
    def test_one_box(self):
        self.assertEqual(alike([[0]], [[0]]), [0])

    def test_names_lead_from_the_first_form_to_the_second(self):
        self.assertEqual(alike(UNEVEN_ROW, renamed(UNEVEN_ROW, [1, 2, 0])), [1, 2, 0])
        self.assertEqual(alike(UNEVEN_ROW, renamed(UNEVEN_ROW, [2, 0, 1])), [2, 0, 1])

    def test_of_several_names_the_first_are_told(self):
        self.assertEqual(alike(RING, RING), [0, 1, 2])
        self.assertEqual(alike(RING, RING_BACK), [0, 2, 1])
        # Both arrows go out of box 2 in the one and out of box 0 in the other.
        self.assertEqual(alike([[0, 0, -1], [0, 0, -1], [1, 1, 0]], [[0, 1, 1], [-1, 0, 0], [-1, 0, 0]]), [1, 2, 0])

    def test_with_no_arrow_the_own_names_come_first(self):
        for size in range(1, 7):
            form = [[0] * size for _ in range(size)]
            self.assertEqual(alike(form, copy.deepcopy(form)), list(range(size)))
            self.assertEqual(alike(form, form), list(range(size)))

    def test_two_boxes(self):
        self.assertEqual(alike([[0, 99], [-99, 0]], [[0, 99], [-99, 0]]), [0, 1])
        self.assertEqual(alike([[0, 99], [-99, 0]], [[0, -99], [99, 0]]), [1, 0])

    def test_forms_that_are_not_alike(self):
        self.assertIsNone(alike([[0, 1], [-1, 0]], [[0, 2], [-2, 0]]))
        self.assertIsNone(alike([[0, 1], [-1, 0]], [[0, 0], [0, 0]]))
        self.assertIsNone(alike(ROW, RING))
        self.assertIsNone(alike(RING, ROW))
        # The same numbers of arrows, but into the middle box and out of it.
        self.assertIsNone(alike(samples.form_from(3, [1, 0, -1]), samples.form_from(3, [-1, 0, 1])))

    def test_two_rings_of_three_are_no_ring_of_six(self):
        # One arrow into each box and one out of it, in the one as in the other.
        two = samples.form_from(6, [1, -1, 0, 0, 0, 1, 0, 0, 0, 0, 0, 0, 1, -1, 1])
        one = samples.form_from(6, [1, 0, 0, 0, -1, 1, 0, 0, 0, 1, 0, 0, 1, 0, 1])
        self.assertIsNone(alike(two, one))
        self.assertIsNone(alike(one, two))

    def test_of_unlike_numbers_of_boxes_there_are_none(self):
        for first, second in itertools.permutations(range(1, 7), 2):
            self.assertIsNone(alike([[0] * first for _ in range(first)], [[0] * second for _ in range(second)]))
        self.assertIsNone(alike(ROW, [[0, 1], [-1, 0]]))
        self.assertIsNone(alike([[0, 1], [-1, 0]], ROW))

    def test_all_small_forms_as_by_trying_all_names(self):
        for size, most in ((2, 3), (3, 1)):
            for form, other in itertools.product(samples.all_forms(size, most), repeat=2):
                self.assertEqual(alike(form, other), samples.first_names_by_trying(form, other), (form, other))

    def test_renamed_forms_as_by_trying_all_names(self):
        for size in range(3, 7):
            for form in samples.some_forms(size, 3, 1) + samples.some_forms(size, 1, 99):
                for names in samples.some_names(size)[::3]:
                    other = renamed(form, names)
                    told = alike(form, other)
                    self.assertEqual(told, samples.first_names_by_trying(form, other), (form, other))
                    self.assertEqual(renamed(form, told), other)

    def test_one_number_changed_as_by_trying_all_names(self):
        for form in samples.some_forms(4, 6, 1) + samples.some_forms(5, 3, 1):
            for i, j in itertools.combinations(range(len(form)), 2):
                other = renamed(form, list(range(len(form)))[::-1])
                other[i][j] += 1
                other[j][i] -= 1
                self.assertEqual(alike(form, other), samples.first_names_by_trying(form, other), (form, other))


if __name__ == "__main__":
    unittest.main()
