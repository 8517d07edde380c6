"""What the document promises over the whole program, of every function together."""

import copy
import inspect
import itertools
import unittest

from arrowturns import forms, kept as kept_file, reach as reach_file, rings
from arrowturns.errors import NoBox, NoCut, NoForm, NoNames, TooMany, TurnError
from arrowturns.forms import alike, is_form, renamed, turned
from arrowturns.kept import kept
from arrowturns.reach import least, reach, way
from arrowturns.rings import cut_turned, form_of, is_cut, row

import samples

INTERFACE = [
    (forms, "is_form", ["form"]), (forms, "turned", ["form", "box"]),
    (forms, "renamed", ["form", "names"]), (forms, "alike", ["form", "other"]),
    (kept_file, "kept", ["form"]),
    (reach_file, "least", ["form"]), (reach_file, "reach", ["form"]), (reach_file, "way", ["form", "other"]),
    (rings, "is_cut", ["corners", "lines"]), (rings, "form_of", ["corners", "lines"]),
    (rings, "cut_turned", ["corners", "lines", "line"]), (rings, "row", ["boxes"]),
]

SIX = samples.form_from(6, [99, -99, 99] * 5)


def one_row_for_all():
    numbers = [0, 0, 0]
    return [numbers, numbers, numbers]


def four_boxes():
    return samples.form_from(4, [1, 0, -2, 3, 0, 1])


def from_one_corner():
    return [(0, corner) for corner in range(2, 8)]


def asked():
    """What can be asked: a function and what is handed to it, made anew at each call."""
    return [
        (is_form, [one_row_for_all()]),
        (is_form, [copy.deepcopy(SIX)]),
        (turned, [[[0]], 0]),
        (turned, [samples.form_from(3, [1, 0, 1]), 1]),
        (turned, [copy.deepcopy(SIX), 3]),
        (turned, [samples.form_from(3, [0, 1, 0]), 1]),
        (turned, [one_row_for_all(), 2]),
        (renamed, [[[0]], [0]]),
        (renamed, [samples.form_from(3, [1, 0, 2]), [0, 1, 2]]),
        (renamed, [samples.form_from(3, [1, 0, 2]), [1, 2, 0]]),
        (renamed, [copy.deepcopy(SIX), [5, 4, 3, 2, 1, 0]]),
        (renamed, [one_row_for_all(), [2, 0, 1]]),
        (alike, [[[0]], [[0]]]),
        (alike, [four_boxes()] * 2),
        (alike, [one_row_for_all(), one_row_for_all()]),
        (alike, [samples.form_from(3, [1, 0, 2]), samples.form_from(3, [0, -2, 1])]),
        (kept, [[[0]]]),
        (kept, [one_row_for_all()]),
        (kept, [copy.deepcopy(SIX)]),
        (least, [[[0]]]),
        (least, [[[0, -1], [1, 0]]]),
        (least, [one_row_for_all()]),
        (least, [four_boxes()]),
        (reach, [[[0]]]),
        (reach, [[[0, -1], [1, 0]]]),
        (reach, [one_row_for_all()]),
        (reach, [row(3)]),
        (reach, [row(4)]),
        (way, [[[0]], [[0]]]),
        (way, [row(4)] * 2),
        (way, [one_row_for_all(), one_row_for_all()]),
        (way, [row(3), samples.form_from(3, [1, -1, 1])]),
        (way, [samples.form_from(3, [1, 1, 0]), samples.form_from(3, [1, -1, 1])]),
        (way, [row(3), row(6)]),
        (is_cut, [4, [(0, 2)]]),
        (is_cut, [9, from_one_corner()]),
        (form_of, [4, [(0, 2)]]),
        (form_of, [9, from_one_corner()]),
        (cut_turned, [4, [(0, 2)], (0, 2)]),
        (cut_turned, [9, from_one_corner(), (0, 7)]),
        (row, [1]),
        (row, [6]),
    ]


def refused():
    """What is refused, each with its class, made anew at each call."""
    return [
        (turned, [[[0, 1], [1, 0]], 0], NoForm),
        (turned, [[[0, 1], [-1, 0]], 7], NoBox),
        (renamed, [[[0], [0, 0]], [1, 0]], NoForm),
        (renamed, [[[0, 1], [-1, 0]], [2, 1, 0]], NoNames),
        (alike, [[[0]], [[1]]], NoForm),
        (alike, [[[1]], [[0]]], NoForm),
        (kept, [[[0, 1], [1, 0]]], NoForm),
        (least, [[[0, 1], [1, 0]]], NoForm),
        (least, [row(5)], TooMany),
        (reach, [[[0, 1], [1, 0]]], NoForm),
        (reach, [row(5)], TooMany),
        (reach, [samples.form_from(3, [99, -99, 99])], TooMany),
        (way, [[[1]], [[0]]], NoForm),
        (way, [[[0]], [[1]]], NoForm),
        (way, [row(5), row(5)], TooMany),
        (way, [samples.form_from(3, [99, -99, 99]), row(3)], TooMany),
        (form_of, [5, [(0, 3), (0, 2)]], NoCut),
        (cut_turned, [5, [(0, 3), (0, 2)], (0, 2)], NoCut),
        (cut_turned, [5, [(0, 2), (0, 3)], (2, 4)], NoBox),
        (row, [7], NoBox),
    ]


def spoil(value):
    for part in samples.lists_within(value):
        part[:] = [55] * (len(part) + 1)


class Interface(unittest.TestCase):
    def test_names_and_arguments_are_as_the_document_tells(self):
        for file, name, arguments in INTERFACE:
            signature = inspect.signature(getattr(file, name))
            self.assertEqual(list(signature.parameters), arguments, name)
            self.assertTrue(all(parameter.default is inspect.Parameter.empty
                                for parameter in signature.parameters.values()), name)

    def test_each_lies_in_its_file(self):
        for file, name, _ in INTERFACE:
            self.assertEqual(getattr(file, name).__module__, file.__name__)

    def test_arguments_may_be_called_by_name(self):
        arguments = {name: names for _, name, names in INTERFACE}
        for ask, handed in asked():
            by_name = dict(zip(arguments[ask.__name__], handed, strict=True))
            self.assertEqual(ask(**by_name), ask(*handed), ask)

    def test_every_function_is_asked(self):
        self.assertEqual({ask.__name__ for ask, _ in asked()}, {name for _, name, _ in INTERFACE})


class Refusals(unittest.TestCase):
    def test_each_with_its_own_class_and_no_other(self):
        for ask, handed, refusal in refused():
            with self.assertRaises(TurnError, msg=(ask, handed)) as taken:
                ask(*handed)
            self.assertIs(type(taken.exception), refusal, (ask, handed))


class NoFormAheadOfAllElse(unittest.TestCase):
    def test_one_form(self):
        for words, form in samples.NO_FORMS.items():
            for ask in (kept, least, reach):
                with self.subTest(words, ask=ask), self.assertRaises(NoForm):
                    ask(form)

    def test_turned(self):
        for words, form in samples.NO_FORMS.items():
            for box in (0, -1, 60, samples.THIRTY_NINES):
                with self.subTest(words, box=box), self.assertRaises(NoForm):
                    turned(form, box)

    def test_renamed(self):
        for words, form in samples.NO_FORMS.items():
            for names in (list(range(len(form))), [], [0, 0], [samples.THIRTY_NINES]):
                with self.subTest(words, names=names), self.assertRaises(NoForm):
                    renamed(form, names)

    # Some of these would themselves be refused, with TooMany: NoForm comes ahead of it.
    def forms(self):
        return [[[0]], [[0, 1], [-1, 0]], row(3), row(4), row(5), SIX, samples.form_from(3, [99, -99, 99])]

    def test_the_first_of_two_forms(self):
        for words, form in samples.NO_FORMS.items():
            for ask, other in itertools.product((alike, way), self.forms() + [form]):
                with self.subTest(words, ask=ask, other=other), self.assertRaises(NoForm):
                    ask(form, other)

    def test_the_second_of_two_forms(self):
        for words, other in samples.NO_FORMS.items():
            for ask, form in itertools.product((alike, way), self.forms()):
                with self.subTest(words, ask=ask, form=form), self.assertRaises(NoForm):
                    ask(form, other)

    def test_what_is_beyond_99_and_of_too_many_boxes(self):
        beyond = samples.form_from(5, [100] + [0] * 9)
        for ask, handed in ((least, [beyond]), (reach, [beyond]), (way, [beyond, beyond]), (way, [row(5), beyond])):
            with self.subTest(ask=ask, handed=handed), self.assertRaises(NoForm):
                ask(*handed)


class NothingIsChangedOrKept(unittest.TestCase):
    def test_what_is_handed_in_stays_as_it_was(self):
        for ask, handed in asked():
            before = copy.deepcopy(handed)
            ask(*handed)
            self.assertEqual(handed, before, ask)

    def test_what_is_refused_stays_as_it_was(self):
        for ask, handed, refusal in refused():
            before = copy.deepcopy(handed)
            with self.assertRaises(refusal):
                ask(*handed)
            self.assertEqual(handed, before, ask)

    def test_no_two_lists_of_what_is_told_are_one(self):
        for ask, handed in asked():
            told = samples.lists_within(ask(*handed))
            self.assertEqual(len({id(part) for part in told}), len(told), (ask, handed))

    def test_no_list_of_what_is_told_was_handed_in(self):
        for ask, handed in asked():
            answer = ask(*handed)
            told = {id(part) for part in samples.lists_within(answer)}
            self.assertFalse(told & {id(part) for part in samples.lists_within(handed)}, (ask, handed))

    def test_a_change_of_what_was_handed_in_changes_nothing_told(self):
        for ask, handed in asked():
            told = ask(*handed)
            before = copy.deepcopy(told)
            spoil(handed)
            self.assertEqual(told, before, ask)

    def test_a_change_of_what_was_told_changes_no_later_answer(self):
        for ask, handed in asked():
            told = ask(*handed)
            before = copy.deepcopy(told)
            spoil(told)
            self.assertEqual(ask(*handed), before, ask)

    def test_all_that_was_told_changed_no_later_answer_of_any_changes(self):
        before = [copy.deepcopy(ask(*handed)) for ask, handed in asked()]
        for ask, handed in asked():
            spoil(ask(*handed))
            spoil(handed)
        self.assertEqual([ask(*handed) for ask, handed in asked()], before)

    def test_a_form_changed_in_its_place_is_asked_anew(self):
        form = samples.form_from(3, [1, 0, 1])
        ring_back = [[0, -1, 1], [1, 0, -1], [-1, 1, 0]]
        self.assertEqual(turned(form, 1), ring_back)
        self.assertEqual((kept(form), len(reach(form)), way(form, ring_back)), ((0, [1, 1, 1]), 4, [1]))
        form[0][1], form[1][0] = 2, -2
        self.assertEqual(turned(form, 1), samples.form_from(3, [-2, 2, -1]))
        self.assertIsNone(alike(form, row(3)))
        self.assertEqual(kept(form), (0, [2, 1, 1]))
        self.assertEqual(least(form), [[0, -2, 1], [2, 0, 0], [-1, 0, 0]])
        with self.assertRaises(TooMany):
            reach(form)
        with self.assertRaises(TooMany):
            way(form, ring_back)
        form[0][1], form[1][0] = 1, -1
        self.assertEqual(alike(form, row(3)), [0, 1, 2])
        self.assertEqual((kept(form), len(reach(form)), way(form, ring_back)), ((0, [1, 1, 1]), 4, [1]))
        form[0][0] = 1
        self.assertIs(is_form(form), False)
        with self.assertRaises(NoForm):
            kept(form)

    def test_a_cut_changed_in_its_place_is_asked_anew(self):
        lines = [(0, 2), (0, 3)]
        self.assertEqual(form_of(5, lines), [[0, -1], [1, 0]])
        lines[1] = (2, 4)
        self.assertEqual(form_of(5, lines), [[0, 1], [-1, 0]])
        self.assertEqual(cut_turned(5, lines, (0, 2)), [(1, 4), (2, 4)])
        lines.append((2, 4))
        self.assertIs(is_cut(5, lines), False)
        with self.assertRaises(NoCut):
            form_of(5, lines)


class KindsOfWhatIsTold(unittest.TestCase):
    def check_form(self, told):
        self.assertIs(type(told), list)
        self.assertEqual({type(numbers) for numbers in told}, {list})
        self.assertEqual({type(number) for numbers in told for number in numbers}, {int})

    def test_forms(self):
        for ask, handed in asked():
            if ask in (turned, renamed, least, form_of, row):
                self.check_form(ask(*handed))
            if ask is reach:
                told = ask(*handed)
                self.assertIs(type(told), list)
                for form in told:
                    self.check_form(form)

    def test_names_and_ways(self):
        for ask, handed in asked():
            told = ask(*handed)
            if ask in (alike, way) and told is not None:
                self.assertIs(type(told), list)
                self.assertLessEqual({type(number) for number in told}, {int})

    def test_true_and_false(self):
        for ask, handed in asked():
            if ask in (is_form, is_cut):
                self.assertIs(ask(*handed), True)
        self.assertIs(is_form([]), False)
        self.assertIs(is_cut(4, []), False)


if __name__ == "__main__":
    unittest.main()
