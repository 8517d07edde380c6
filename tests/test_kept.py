import unittest

from arrowturns.forms import is_form, renamed, turned
from arrowturns.kept import kept

import samples


class Kept(unittest.TestCase):
    def test_one_box(self):
        self.assertEqual(kept([[0]]), (0, [0]))

    def test_two_boxes(self):
        self.assertEqual(kept([[0, 3], [-3, 0]]), (9, [3, 3]))
        self.assertEqual(kept([[0, -3], [3, 0]]), (9, [3, 3]))
        self.assertEqual(kept([[0, 99], [-99, 0]]), (9801, [99, 99]))
        self.assertEqual(kept([[0, 1], [-1, 0]]), (1, [1, 1]))

    def test_no_arrow(self):
        for size in range(1, 7):
            self.assertEqual(kept(samples.form_from(size, [0] * samples.pairs(size))), (0, [0] * size))

    def test_of_an_odd_number_of_boxes_the_sum_is_nought(self):
        self.assertEqual(kept(samples.form_from(3, [2, 4, 6])), (0, [2, 2, 2]))
        for size in (1, 3, 5):
            for form in samples.some_forms(size, 5, 99):
                self.assertEqual(kept(form)[0], 0, form)

    def test_each_step_stands_at_its_box(self):
        self.assertEqual(kept(samples.form_from(3, [4, 6, 9])), (0, [2, 1, 3]))
        self.assertEqual(kept(samples.form_from(4, [6, 0, 0, 0, 0, 10])), (3600, [6, 6, 10, 10]))
        self.assertEqual(kept(samples.form_from(3, [0, 12, 0])), (0, [12, 0, 12]))
        self.assertEqual(kept(samples.form_from(3, [12, -18, 0])), (0, [6, 12, 18]))

    def test_the_sum_of_four_boxes(self):
        self.assertEqual(kept(samples.form_from(4, [1, 2, 3, 4, 5, 6])), (64, [1, 1, 2, 1]))
        self.assertEqual(kept(samples.form_from(4, [0, 5, 0, 0, 7, 0]))[0], 1225)
        self.assertEqual(kept(samples.form_from(4, [0, 0, 5, 7, 0, 0]))[0], 1225)
        self.assertEqual(kept(samples.form_from(4, [99, -99, 99, 99, 99, 99])), ((3 * 9801) ** 2, [99] * 4))

    def test_the_sum_of_six_boxes(self):
        self.assertEqual(kept(samples.form_from(6, [2, 0, 0, 0, 0, 0, 0, 0, 0, 3, 0, 0, 0, 0, 5])),
                         (900, [2, 2, 3, 3, 5, 5]))

    def test_each_form_as_by_rows_and_by_trying(self):
        for form in samples.ordinary_forms():
            self.assertEqual(kept(form), (samples.determinant_by_rows(form),
                                          [samples.step_by_trying(row) for row in form]), form)

    def test_what_is_told_is_a_tuple_of_a_number_and_a_list(self):
        for size in range(1, 7):
            told = kept(samples.some_forms(size, 1, 9)[0])
            self.assertEqual([type(part) for part in told], [int, list])
            self.assertIs(type(told), tuple)
            self.assertEqual({type(step) for step in told[1]}, {int})
            self.assertEqual(len(told[1]), size)


class NoTurnChangesThem(unittest.TestCase):
    def test_one_turn(self):
        tried = 0
        for form in samples.ordinary_forms():
            for box in range(len(form)):
                come = turned(form, box)
                if is_form(come):
                    tried += 1
                    self.assertEqual(kept(come), kept(form), (form, box))
        self.assertGreater(tried, 500)

    def test_one_turn_beyond_99(self):
        for size in (3, 4, 5, 6):
            for form in samples.some_forms(size, 4, 99):
                for box in range(size):
                    come = turned(form, box)
                    self.assertEqual(kept(form)[0], samples.determinant_by_rows(come), (form, box))
                    self.assertEqual(kept(form)[1], [samples.step_by_trying(row) for row in come], (form, box))

    def test_several_turns(self):
        for size in range(1, 7):
            form = samples.form_from(size, ([2, 0, 0, -2, 0, 0] * 3)[:samples.pairs(size)])
            told = kept(form)
            for box in [0, size // 2, size - 1] * 3:
                form = turned(form, box)
                if not is_form(form):
                    break
                self.assertEqual(kept(form), told)


class Renamed(unittest.TestCase):
    def test_the_sum_stays_and_each_step_stands_at_its_boxs_name(self):
        for size in range(1, 7):
            for form in samples.some_forms(size, 2, 12):
                total, steps = kept(form)
                for names in samples.some_names(size)[::(1 if size < 6 else 5)]:
                    told = kept(renamed(form, names))
                    self.assertEqual(told[0], total)
                    self.assertEqual([told[1][name] for name in names], steps)

    def test_by_hand(self):
        self.assertEqual(kept(renamed(samples.form_from(3, [4, 6, 9]), [1, 2, 0])), (0, [3, 2, 1]))


if __name__ == "__main__":
    unittest.main()
