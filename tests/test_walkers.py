import inspect
import unittest

from onestep.errors import NoPlace, NoSize
from onestep.orders import order_at, orders
from onestep.rows import row_at, rows
from onestep.sets import set_at, sets
from onestep.walkers import OrderWalker, RowWalker, SetWalker
from refusals import check_refused

KINDS = ((RowWalker, rows, row_at), (SetWalker, sets, set_at), (OrderWalker, orders, order_at))
NUMBERS = {
    RowWalker: [(0,), (1,), (2,), (5,), (39,), (40,)],
    SetWalker: [(0, 0), (1, 0), (1, 1), (2, 1), (5, 2), (7, 7), (40, 0), (40, 1), (40, 20), (40, 39), (40, 40)],
    OrderWalker: [(0,), (1,), (2,), (4,), (19,), (20,)],
}
# The last ones have more digits than Python is willing to write out.
FAR = (1000, -1000, 10**30, -(10**30), 10**5000, -(10**5000))
BAD_NUMBERS = {
    RowWalker: [(size,) for size in (-1, -2, 41, 42) + FAR],
    SetWalker: [(things, some) for things in (-1, -2, 41, 42) + FAR for some in (0, 1, 20, things)]
    + [(things, some) for things in (0, 1, 5, 40) for some in (-1, -2, things + 1, things + 2) + FAR],
    OrderWalker: [(things,) for things in (-1, -2, 21, 22) + FAR],
}


class Kept:
    """What a list is to tell: how many places it has, and what stands on each."""

    def __init__(self, kind, numbers, how_many, at):
        self.kind = kind
        self.numbers = numbers
        self.name = f"{kind.__name__}{numbers}"
        self.count = how_many(*numbers)
        self.at = at

    def walker(self):
        return self.kind(*self.numbers)

    def thing_on(self, place):
        return self.at(*self.numbers, place)

    def some_places(self):
        chosen = {0, 1, 2, self.count // 3, self.count // 2, self.count - 2, self.count - 1}
        return sorted(place for place in chosen if 0 <= place < self.count)

    def ways(self):
        """Nought, both ways, just round, and far more than the list has places."""
        near = (0, 1, 2, 3, 7, self.count - 1, self.count, self.count + 1, 5 * self.count + 3)
        far = (10**30 + 7, 10**5000 + 1)
        return [way * sign for way in near + far for sign in (1, -1)]


ALL_LISTS = [Kept(kind, numbers, how_many, at) for kind, how_many, at in KINDS for numbers in NUMBERS[kind]]


class WalkerCase(unittest.TestCase):
    def check_stands(self, kept, walker, place):
        self.assertEqual(walker.place(), place)
        self.assertEqual(walker.here(), kept.thing_on(place))
        home = walker.home()
        self.assertTrue(0 <= home < kept.count)
        self.assertEqual((place + home) % kept.count, 0)


class Walking(WalkerCase):
    def test_at_first_on_place_nought(self):
        for kept in ALL_LISTS:
            with self.subTest(walker=kept.name):
                self.check_stands(kept, kept.walker(), 0)
                self.assertEqual(kept.walker().home(), 0)

    def test_going_on_one_by_one_and_back(self):
        for kept in ALL_LISTS:
            with self.subTest(walker=kept.name):
                walker = kept.walker()
                for gone in range(1, 70):
                    walker.go(1)
                    self.check_stands(kept, walker, gone % kept.count)
                for gone in range(68, -70, -1):
                    walker.go(-1)
                    self.check_stands(kept, walker, gone % kept.count)

    def test_going_on_by_any_number_from_any_place(self):
        for kept in ALL_LISTS:
            with self.subTest(walker=kept.name):
                for place in kept.some_places():
                    for by in kept.ways():
                        walker = kept.walker()
                        walker.leap(place)
                        walker.go(by)
                        self.check_stands(kept, walker, (place + by) % kept.count)

    def test_ways_add_up(self):
        for kept in ALL_LISTS:
            with self.subTest(walker=kept.name):
                walker = kept.walker()
                place = 0
                for by in kept.ways():
                    walker.go(by)
                    place = (place + by) % kept.count
                    self.check_stands(kept, walker, place)

    def test_leaps(self):
        for kept in ALL_LISTS:
            with self.subTest(walker=kept.name):
                walker = kept.walker()
                for place in kept.some_places() + kept.some_places()[::-1]:
                    walker.leap(place)
                    self.check_stands(kept, walker, place)

    def test_the_way_home_leads_home_and_is_the_least(self):
        for kept in ALL_LISTS:
            with self.subTest(walker=kept.name):
                for place in kept.some_places():
                    walker = kept.walker()
                    walker.leap(place)
                    self.assertEqual(walker.home(), 0 if place == 0 else kept.count - place)
                    walker.go(walker.home())
                    self.check_stands(kept, walker, 0)
                    self.assertEqual(walker.home(), 0)

    def test_asking_moves_nothing(self):
        for kept in ALL_LISTS:
            with self.subTest(walker=kept.name):
                walker = kept.walker()
                walker.go(-1)
                for _ in range(3):
                    self.check_stands(kept, walker, kept.count - 1)

    def test_a_list_with_one_place_alone(self):
        alone = [kept for kept in ALL_LISTS if kept.count == 1]
        self.assertEqual({kept.kind for kept in alone}, {RowWalker, SetWalker, OrderWalker})
        for kept in alone:
            with self.subTest(walker=kept.name):
                walker = kept.walker()
                for by in (0, 1, -1, 10**30):
                    walker.go(by)
                    walker.leap(0)
                    self.assertEqual([walker.place(), walker.home()], [0, 0])


class WrittenOut(unittest.TestCase):
    """Answers that are written out, not asked of the lists."""

    def test_a_walker_on_rows(self):
        walker = RowWalker(3)
        self.assertEqual([walker.place(), walker.here(), walker.home()], [0, [False, False, False], 0])
        walker.go(10)
        self.assertEqual([walker.place(), walker.here(), walker.home()], [2, [True, True, False], 6])
        walker.go(-3)
        self.assertEqual([walker.place(), walker.here(), walker.home()], [7, [False, False, True], 1])

    def test_a_walker_on_sets(self):
        walker = SetWalker(4, 2)
        self.assertEqual([walker.place(), walker.here(), walker.home()], [0, [0, 1], 0])
        walker.leap(4)
        self.assertEqual([walker.place(), walker.here(), walker.home()], [4, [1, 3], 2])
        walker.go(-13)
        self.assertEqual([walker.place(), walker.here(), walker.home()], [3, [2, 3], 3])

    def test_a_walker_on_orders(self):
        walker = OrderWalker(3)
        self.assertEqual([walker.place(), walker.here(), walker.home()], [0, [0, 1, 2], 0])
        walker.go(-1)
        self.assertEqual([walker.place(), walker.here(), walker.home()], [5, [1, 0, 2], 1])
        walker.go(4)
        self.assertEqual([walker.place(), walker.here(), walker.home()], [3, [2, 1, 0], 3])


class Refusals(WalkerCase):
    def test_bad_numbers(self):
        for kind, wrong in BAD_NUMBERS.items():
            for k, numbers in enumerate(wrong):
                with self.subTest(kind=kind.__name__, k=k):
                    check_refused(self, NoSize, kind, *numbers)

    def test_a_refused_leap_leaves_it_where_it_is(self):
        for kept in ALL_LISTS:
            with self.subTest(walker=kept.name):
                beyond = (kept.count, kept.count + 1, 2 * kept.count, 10**30, 10**5000)
                for start in kept.some_places():
                    walker = kept.walker()
                    walker.leap(start)
                    for place in beyond + (-1, -2, -kept.count, -kept.count - 1, -(10**30), -(10**5000)):
                        check_refused(self, NoPlace, walker.leap, place)
                        self.check_stands(kept, walker, start)
                    walker.go(1)
                    self.check_stands(kept, walker, (start + 1) % kept.count)


class Values(WalkerCase):
    def test_the_arguments_have_their_names(self):
        made_of = {RowWalker: ["size"], SetWalker: ["things", "some"], OrderWalker: ["things"]}
        methods = {"go": ["self", "by"], "leap": ["self", "place"]}
        methods.update((method, ["self"]) for method in ("place", "here", "home"))
        for kind, names in made_of.items():
            self.assertEqual(list(inspect.signature(kind).parameters), names)
            for method, asked in methods.items():
                with self.subTest(kind=kind.__name__, method=method):
                    self.assertEqual(list(inspect.signature(getattr(kind, method)).parameters), asked)

    def test_the_answers_are_of_their_kinds(self):
        for kept in ALL_LISTS:
            with self.subTest(walker=kept.name):
                walker = kept.walker()
                self.assertIsNone(walker.go(-1))
                self.assertEqual([type(walker.place()), type(walker.here()), type(walker.home())], [int, list, int])
                self.assertIsNone(walker.leap(0))
                self.assertEqual([type(walker.place()), type(walker.here()), type(walker.home())], [int, list, int])

    def test_what_was_told_may_be_changed(self):
        for kept in ALL_LISTS:
            with self.subTest(walker=kept.name):
                walker = kept.walker()
                for place in kept.some_places():
                    walker.leap(place)
                    told = walker.here()
                    told.append(99)
                    told[0] = -1
                    self.assertIsNot(walker.here(), told)
                    self.check_stands(kept, walker, place)

    def test_two_walkers_on_the_same_list_do_not_disturb_each_other(self):
        for kept in ALL_LISTS:
            with self.subTest(walker=kept.name):
                one, other = kept.walker(), kept.walker()
                one.go(1)
                self.check_stands(kept, one, 1 % kept.count)
                self.check_stands(kept, other, 0)
                other.leap(kept.count - 1)
                other.here().append(99)
                self.check_stands(kept, one, 1 % kept.count)
                one.go(-3)
                check_refused(self, NoPlace, one.leap, -1)
                self.check_stands(kept, one, -2 % kept.count)
                self.check_stands(kept, other, kept.count - 1)
                self.check_stands(kept, kept.walker(), 0)

    def test_walkers_on_unlike_lists_do_not_disturb_each_other(self):
        walkers = [kept.walker() for kept in ALL_LISTS]
        for by, walker in enumerate(walkers):
            walker.go(by)
        for by, walker in enumerate(walkers):
            self.check_stands(ALL_LISTS[by], walker, by % ALL_LISTS[by].count)


if __name__ == "__main__":
    unittest.main()
