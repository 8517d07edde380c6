import itertools
import unittest

from arrowturns.errors import TooMany
from arrowturns.forms import alike, is_form, renamed, turned
from arrowturns.reach import least, reach, way
from arrowturns.rings import row

import samples

RING = [[0, 1, -1], [-1, 0, 1], [1, -1, 0]]
DOUBLE_RING = samples.form_from(3, [2, -2, 2])
STAR = samples.form_from(4, [1, 1, 1, 0, 0, 0])
# 0 -> 1 three times and 1 -> 2 once: its turns lead to ever more forms.
ENDLESS = samples.form_from(3, [3, 0, 1])

# A form of each number of reached ones that there is, and of each size.
ENDING = {
    "one box": ([[0]], 1),
    "two boxes": (samples.form_from(2, [1]), 1),
    "two boxes, 99": (samples.form_from(2, [-99]), 1),
    "two boxes, no arrow": (samples.form_from(2, [0]), 1),
    "three boxes, no arrow": (samples.form_from(3, [0, 0, 0]), 1),
    "three boxes, one by itself": (samples.form_from(3, [0, 99, 0]), 1),
    "a row of three": (row(3), 4),
    "a ring of three": (RING, 4),
    "a ring of three, twice each": (DOUBLE_RING, 1),
    "three boxes, one twice": (samples.form_from(3, [1, 1, 1]), 2),
    "four boxes, no arrow": (samples.form_from(4, [0] * 6), 1),
    "two and two": (samples.form_from(4, [99, 0, 0, 0, 0, -98]), 1),
    "a row of three and one": (samples.form_from(4, [1, 0, 0, 1, 0, 0]), 4),
    "a row of four": (row(4), 6),
    "a star": (STAR, 6),
    "a ring of four, led round": (samples.form_from(4, [1, 0, -1, 1, 0, 1]), 6),
    "a ring of four, three and one": (samples.form_from(4, [1, 0, 1, 1, 0, 1]), 5),
}

TOO_MANY = {
    "endless": ENDLESS,
    "endless, the other way": samples.form_from(3, [-3, 0, -1]),
    "three boxes, 99": samples.form_from(3, [99, 99, 99]),
    "three boxes, -99": samples.form_from(3, [-99, 0, -99]),
    "two twos": samples.form_from(3, [2, 0, 2]),
    "a ring of three, thrice each": samples.form_from(3, [3, -3, 3]),
    "four boxes, 99": samples.form_from(4, [99, -99, 99, 99, -99, 99]),
    "four boxes, each two": samples.form_from(4, [1, 1, 1, 1, 1, 1]),
    "endless with one by itself": samples.form_from(4, [3, 0, 0, 1, 0, 0]),
    "a star with a two": samples.form_from(4, [2, 1, 1, 0, 0, 0]),
}

TOO_MANY_BOXES = [row(5), row(6)] + [form for size in (5, 6) for form in (
    samples.form_from(size, [0] * samples.pairs(size)), samples.some_forms(size, 1, 1)[0],
    samples.some_forms(size, 1, 99)[0])]


class Least(unittest.TestCase):
    def test_one_box(self):
        self.assertEqual(least([[0]]), [[0]])

    def test_two_boxes(self):
        for form in ([[0, 5], [-5, 0]], [[0, -5], [5, 0]]):
            self.assertEqual(least(form), [[0, -5], [5, 0]])

    def test_three_boxes(self):
        self.assertEqual(least(row(3)), [[0, -1, 0], [1, 0, -1], [0, 1, 0]])
        self.assertEqual(least(RING), [[0, -1, 1], [1, 0, -1], [-1, 1, 0]])
        self.assertEqual(least(samples.form_from(3, [1, 0, 2])), [[0, -2, 0], [2, 0, -1], [0, 1, 0]])

    def test_a_later_row_tells_where_the_first_ones_are_the_same(self):
        # Each box of the ring has the same first row ahead; the second row tells.
        self.assertEqual(least(samples.form_from(4, [1, 0, -1, 1, 0, 1])),
                         [[0, -1, 0, 1], [1, 0, -1, 0], [0, 1, 0, -1], [-1, 0, 1, 0]])
        self.assertEqual(least(samples.form_from(4, [-1, -1, -1, 0, 0, 1])),
                         [[0, -1, -1, -1], [1, 0, -1, 0], [1, 1, 0, 0], [1, 0, 0, 0]])

    def test_no_arrow(self):
        for size in range(1, 5):
            form = samples.form_from(size, [0] * samples.pairs(size))
            self.assertEqual(least(form), form)

    def test_each_form_as_by_trying_all_names(self):
        for size in range(1, 5):
            for form in samples.small_forms(size) + samples.some_forms(size, 10, 99):
                self.assertEqual(least(form), samples.least_by_trying(form), form)

    def test_it_is_the_same_for_all_names_and_alike(self):
        for size in range(1, 5):
            for form in samples.some_forms(size, 5, 3):
                told = least(form)
                self.assertIsNotNone(alike(form, told))
                self.assertEqual(least(told), told)
                for names in itertools.permutations(range(size)):
                    self.assertEqual(least(renamed(form, list(names))), told)

    def test_where_turns_lead_to_too_many_it_is_still_told(self):
        for words, form in TOO_MANY.items():
            self.assertEqual(least(form), samples.least_by_trying(form), words)

    def test_too_many_boxes(self):
        for form in TOO_MANY_BOXES:
            with self.subTest(form=form), self.assertRaises(TooMany):
                least(form)


class Reach(unittest.TestCase):
    def test_one_and_two_boxes(self):
        self.assertEqual(reach([[0]]), [[[0]]])
        self.assertEqual(reach([[0, 7], [-7, 0]]), [[[0, -7], [7, 0]]])

    def test_a_row_of_three(self):
        told = [[[0, -1, -1], [1, 0, 0], [1, 0, 0]],
                [[0, -1, 0], [1, 0, -1], [0, 1, 0]],
                [[0, -1, 0], [1, 0, 1], [0, -1, 0]],
                [[0, -1, 1], [1, 0, -1], [-1, 1, 0]]]
        self.assertEqual(reach(row(3)), told)
        self.assertEqual(reach(RING), told)

    def test_how_many(self):
        for words, (form, many) in ENDING.items():
            self.assertEqual(len(reach(form)), many, words)

    def test_its_own_least_name_is_among_them(self):
        for words, (form, _) in ENDING.items():
            self.assertIn(least(form), reach(form), words)

    def test_they_rise_and_none_stands_twice(self):
        for words, (form, _) in ENDING.items():
            told = reach(form)
            self.assertTrue(all(one < other for one, other in itertools.pairwise(told)), words)

    def test_each_as_by_all_forms_that_turns_lead_to(self):
        for words, (form, _) in ENDING.items():
            self.assertEqual(reach(form), samples.reach_by_forms(form), words)

    def test_small_forms_as_by_all_forms_that_turns_lead_to(self):
        ended = 0
        for size in range(1, 5):
            for form in samples.small_forms(size):
                told = samples.reach_by_forms(form)
                if told is None:
                    with self.subTest(form=form), self.assertRaises(TooMany):
                        reach(form)
                else:
                    ended += 1
                    self.assertEqual(reach(form), told, form)
        self.assertGreater(ended, 100)

    def test_all_forms_of_a_reach_have_the_same_one(self):
        for words, (form, _) in ENDING.items():
            told = reach(form)
            for reached in told:
                self.assertEqual(reach(reached), told, words)
            for box in range(len(form)):
                self.assertEqual(reach(turned(form, box)), told, words)

    def test_renamed_it_is_the_same(self):
        for words, (form, _) in ENDING.items():
            for names in itertools.permutations(range(len(form))):
                self.assertEqual(reach(renamed(form, list(names))), reach(form), words)

    def test_too_many_forms(self):
        for words, form in TOO_MANY.items():
            self.assertGreater(len({str(samples.least_by_trying(reached)) for reached in
                                    self.some_reached(form)}), 20, words)
            with self.subTest(words), self.assertRaises(TooMany):
                reach(form)

    def some_reached(self, form):
        """The forms behind all lists of at most six turns."""
        behind = [form]
        found = [form]
        for _ in range(6):
            behind = list({str(come): come for standing in behind
                           for come in (samples.turned_by_arrows(standing, box) for box in range(len(form)))}.values())
            found += behind
            if len(found) > 1500:
                break
        return found

    def test_too_many_boxes(self):
        for form in TOO_MANY_BOXES:
            with self.subTest(form=form), self.assertRaises(TooMany):
                reach(form)


class Way(unittest.TestCase):
    def test_no_turn(self):
        for words, (form, _) in ENDING.items():
            self.assertEqual(way(form, form), [], words)
            for names in itertools.permutations(range(len(form))):
                self.assertEqual(way(form, renamed(form, list(names))), [], words)

    def test_one_turn(self):
        self.assertEqual(way(row(3), RING), [1])
        self.assertEqual(way(RING, row(3)), [0])
        self.assertEqual(way(row(3), samples.form_from(3, [1, 1, 0])), [0])
        self.assertEqual(way(row(3), samples.form_from(3, [-1, -1, 0])), [2])

    def test_several_turns(self):
        out_of_one = samples.form_from(3, [1, 1, 0])
        into_one = samples.form_from(3, [-1, -1, 0])
        self.assertEqual(way(out_of_one, into_one), [0])
        self.assertEqual(way(out_of_one, row(3)), [1])
        self.assertEqual(way(out_of_one, RING), [1, 0])
        self.assertEqual(way(RING, out_of_one), [0, 1])

    def test_each_time_the_form_as_it_is_by_then(self):
        for words, (form, _) in ENDING.items():
            for other in reach(form):
                standing = form
                for box in way(form, other):
                    self.assertIsNone(alike(standing, other), words)
                    standing = turned(standing, box)
                self.assertIsNotNone(alike(standing, other), words)

    def test_the_shortest_and_of_several_the_first(self):
        lengths = {}
        for words, (form, _) in ENDING.items():
            for start in samples.reached_forms(form)[:12]:
                for other in reach(form):
                    told = way(start, other)
                    lengths[len(told)] = True
                    self.assertEqual(told, samples.way_by_trying(start, other, 6), (words, start, other))
        self.assertEqual(set(lengths), {0, 1, 2, 3})

    def test_the_other_form_under_any_names(self):
        for form in (row(3), row(4), STAR):
            for other in reach(form):
                told = way(form, other)
                for names in itertools.permutations(range(len(form))):
                    self.assertEqual(way(form, renamed(other, list(names))), told)

    def test_none(self):
        self.assertIsNone(way([[0, 1], [-1, 0]], [[0, 2], [-2, 0]]))
        self.assertIsNone(way([[0, 0], [0, 0]], [[0, 99], [-99, 0]]))
        self.assertIsNone(way(row(3), DOUBLE_RING))
        self.assertIsNone(way(DOUBLE_RING, row(3)))
        self.assertIsNone(way(row(4), STAR))
        self.assertIsNone(way(STAR, row(4)))
        self.assertIsNone(way(row(3), samples.form_from(3, [0, 0, 0])))

    def test_none_to_a_form_that_has_too_many_itself(self):
        for words, (form, _) in ENDING.items():
            for other in TOO_MANY.values():
                self.assertIsNone(way(form, other), words)

    def test_none_for_unlike_numbers_of_boxes(self):
        for words, (form, _) in ENDING.items():
            for size in range(1, 7):
                if size != len(form):
                    self.assertIsNone(way(form, row(size)), words)
                    self.assertIsNone(way(form, samples.form_from(size, [0] * samples.pairs(size))), words)
                    self.assertIsNone(way(form, samples.some_forms(size, 1, 99)[0]), words)

    def test_too_many_forms(self):
        for words, form in TOO_MANY.items():
            others = [form, turned(form, 0), least(form), row(1), row(2), row(3), row(4), row(5), row(6)]
            for other in others:
                if is_form(other):
                    with self.subTest(words, other=other), self.assertRaises(TooMany):
                        way(form, other)

    def test_too_many_boxes(self):
        for form in TOO_MANY_BOXES:
            for other in (form, [[0]], row(4), row(5), row(6), ENDLESS):
                with self.subTest(form=form, other=other), self.assertRaises(TooMany):
                    way(form, other)


if __name__ == "__main__":
    unittest.main()
