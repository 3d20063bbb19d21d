import inspect
import unittest

from onestep.errors import NoPlace, NoSize, NoStep, NoThing
from onestep.rows import place_of_row, row_at, row_step, rows
from refusals import check_refused

SMALL_SIZES = range(0, 11)
ALL_SIZES = range(0, 41)
# The last ones have more digits than Python is willing to write out.
BAD_SIZES = (-1, -2, -40, -41, 41, 42, 43, 64, 1000, -1000, 10**30, -(10**30), 10**5000, -(10**5000))


def made_list(size):
    """The whole list, in the way that [3] makes it."""
    told = [[]]
    for _ in range(size):
        told = [row + [False] for row in told] + [row + [True] for row in reversed(told)]
    return told


def made_row(size, place):
    """One row of the list, found in the way that [3] makes it: for lists too long to be made."""
    if size == 0:
        return []
    half = 2 ** (size - 1)
    if place < half:
        return made_row(size - 1, place) + [False]
    return made_row(size - 1, half - 1 - (place - half)) + [True]


def turned_switches(row, other):
    return [switch for switch in range(len(row)) if row[switch] != other[switch]]


def bad_places(size):
    count = 2**size
    beyond = (count, count + 1, 2 * count, 10**30, 10**5000)
    return beyond + (-1, -2, -count, -count - 1, -(10**30), -(10**5000))


def far_places(size):
    """Places of a long list: its ends, both sides of each halving, and some spread over it."""
    count = 2**size
    chosen = {0, 1, count - 2, count - 1}
    for switch in range(size):
        chosen.update((2**switch - 1, 2**switch, count - 2**switch, count - 2**switch - 1))
    chosen.update(k * 982451653 % count for k in range(200))
    return sorted(place for place in chosen if 0 <= place < count)


class WholeLists(unittest.TestCase):
    def test_the_list_is_made_as_told(self):
        for size in SMALL_SIZES:
            with self.subTest(size=size):
                told = [row_at(size, place) for place in range(rows(size))]
                self.assertEqual(told, made_list(size))

    def test_the_list_of_three_switches(self):
        told = ["".join("x" if on else "." for on in row_at(3, place)) for place in range(8)]
        self.assertEqual(told, ["...", "x..", "xx.", ".x.", ".xx", "xxx", "x.x", "..x"])

    def test_every_row_stands_just_once(self):
        for size in SMALL_SIZES:
            with self.subTest(size=size):
                told = [tuple(row_at(size, place)) for place in range(rows(size))]
                self.assertEqual(len(told), 2**size)
                self.assertEqual(len(set(told)), 2**size)

    def test_each_step_turns_just_that_switch_round_too(self):
        for size in SMALL_SIZES[1:]:
            count = rows(size)
            for place in range(count):
                with self.subTest(size=size, place=place):
                    turned = turned_switches(row_at(size, place), row_at(size, (place + 1) % count))
                    self.assertEqual(turned, [row_step(size, place)])

    def test_the_steps_of_three_switches(self):
        self.assertEqual([row_step(3, place) for place in range(8)], [0, 1, 0, 2, 0, 1, 0, 2])

    def test_the_place_of_a_row_is_where_it_stands(self):
        for size in SMALL_SIZES:
            for place, row in enumerate(made_list(size)):
                with self.subTest(size=size, place=place):
                    self.assertEqual(place_of_row(row), place)


class LongLists(unittest.TestCase):
    def test_one_switch_more_doubles_the_list(self):
        self.assertEqual([rows(size) for size in ALL_SIZES], [2**size for size in ALL_SIZES])

    def test_rows_of_all_sizes(self):
        for size in ALL_SIZES:
            for place in far_places(size):
                with self.subTest(size=size, place=place):
                    row = made_row(size, place)
                    self.assertEqual(row_at(size, place), row)
                    self.assertEqual(place_of_row(row), place)

    def test_steps_of_all_sizes(self):
        for size in ALL_SIZES[1:]:
            for place in far_places(size):
                with self.subTest(size=size, place=place):
                    row, following = made_row(size, place), made_row(size, (place + 1) % 2**size)
                    self.assertEqual([row_step(size, place)], turned_switches(row, following))


class Edges(unittest.TestCase):
    def test_no_switches(self):
        self.assertEqual(rows(0), 1)
        self.assertEqual(row_at(0, 0), [])
        self.assertEqual(place_of_row([]), 0)
        check_refused(self, NoStep, row_step, 0, 0)

    def test_one_switch(self):
        self.assertEqual(rows(1), 2)
        self.assertEqual([row_at(1, 0), row_at(1, 1)], [[False], [True]])
        self.assertEqual([row_step(1, 0), row_step(1, 1)], [0, 0])
        self.assertEqual([place_of_row([False]), place_of_row([True])], [0, 1])

    def test_forty_switches(self):
        last = 2**40 - 1
        self.assertEqual(rows(40), last + 1)
        self.assertEqual(row_at(40, 0), [False] * 40)
        self.assertEqual(row_at(40, last), [False] * 39 + [True])
        self.assertEqual(row_at(40, 2**39 - 1), [False] * 38 + [True, False])
        self.assertEqual(row_at(40, 2**39), [False] * 38 + [True, True])
        self.assertEqual([row_step(40, place) for place in (0, 1, 2**39 - 1, last - 1, last)], [0, 1, 39, 0, 39])

    def test_places_of_rows_of_forty_switches(self):
        self.assertEqual(place_of_row([False] * 40), 0)
        self.assertEqual(place_of_row([True] + [False] * 39), 1)
        self.assertEqual(place_of_row([False] * 39 + [True]), 2**40 - 1)
        # All switches on: each of them mirrors the place, so its halves alternate.
        self.assertEqual(place_of_row([True] * 40), int("10" * 20, 2))

    def test_the_last_place_steps_to_the_first(self):
        for size in ALL_SIZES[1:]:
            with self.subTest(size=size):
                last_row = row_at(size, rows(size) - 1)
                self.assertEqual(row_step(size, rows(size) - 1), size - 1)
                self.assertEqual(turned_switches(last_row, row_at(size, 0)), [size - 1])


class Refusals(unittest.TestCase):
    def test_bad_sizes(self):
        for k, size in enumerate(BAD_SIZES):
            with self.subTest(k=k):
                check_refused(self, NoSize, rows, size)
                check_refused(self, NoSize, row_at, size, 0)
                check_refused(self, NoSize, row_step, size, 0)

    def test_bad_places(self):
        for size in ALL_SIZES:
            for k, place in enumerate(bad_places(size)):
                with self.subTest(size=size, k=k):
                    check_refused(self, NoPlace, row_at, size, place)
                    # For no switches too: NoPlace comes ahead of NoStep.
                    check_refused(self, NoPlace, row_step, size, place)

    def test_a_bad_size_comes_ahead_of_a_bad_place(self):
        for k, size in enumerate(BAD_SIZES):
            for place in (-1, 2**41, 2**1001, -(10**30), 10**5000):
                with self.subTest(k=k):
                    check_refused(self, NoSize, row_at, size, place)
                    check_refused(self, NoSize, row_step, size, place)

    def test_rows_of_too_many_switches(self):
        for size in (41, 42, 43, 64, 1000, 100000):
            for row in ([False] * size, [True] * size, [False] * (size - 1) + [True]):
                with self.subTest(size=size):
                    check_refused(self, NoThing, place_of_row, row)

    def test_lists_that_are_no_rows(self):
        for row in ([0], [1], [True, 1], [False, 0, True], [None], ["on"], [[]], [2] * 40):
            with self.subTest(row=row):
                check_refused(self, NoThing, place_of_row, row)


class Values(unittest.TestCase):
    def test_the_arguments_have_their_names(self):
        asked = {rows: ["size"], row_at: ["size", "place"], row_step: ["size", "place"], place_of_row: ["row"]}
        for function, names in asked.items():
            with self.subTest(function=function.__name__):
                self.assertEqual(list(inspect.signature(function).parameters), names)

    def test_the_answers_are_of_their_kinds(self):
        for size in ALL_SIZES:
            self.assertIs(type(rows(size)), int)
            for place in (0, rows(size) // 2, rows(size) - 1):
                with self.subTest(size=size, place=place):
                    row = row_at(size, place)
                    self.assertIs(type(row), list)
                    self.assertEqual([type(on) for on in row], [bool] * size)
                    self.assertIs(type(place_of_row(row)), int)
                    if size > 0:
                        self.assertIs(type(row_step(size, place)), int)

    def test_a_row_that_is_handed_in_stays_as_it_was(self):
        for row in ([], [True], [False, True, True], [True] * 40, [False, True] * 20):
            with self.subTest(row=row):
                kept = list(row)
                first = place_of_row(row)
                self.assertEqual(row, kept)
                self.assertEqual(place_of_row(row), first)

    def test_a_refused_row_stays_as_it_was(self):
        row = [False, True] * 21
        check_refused(self, NoThing, place_of_row, row)
        self.assertEqual(row, [False, True] * 21)

    def test_a_row_that_was_told_may_be_changed(self):
        for size in (0, 1, 3, 40):
            for place in (0, rows(size) // 2, rows(size) - 1):
                with self.subTest(size=size, place=place):
                    row = row_at(size, place)
                    row.append(True)
                    row[0] = not row[0]
                    again = row_at(size, place)
                    self.assertIsNot(again, row)
                    self.assertEqual(again, made_row(size, place))


if __name__ == "__main__":
    unittest.main()
