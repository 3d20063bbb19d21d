import inspect
import itertools
import math
import unittest

from onestep.errors import NoPlace, NoSize, NoStep, NoThing
from onestep.orders import order_at, order_step, orders, place_of_order
from refusals import check_refused

SMALL_NUMBERS = range(0, 7)
ALL_NUMBERS = range(0, 21)
# The last ones have more digits than Python is willing to write out.
BAD_NUMBERS = (-1, -2, -20, -21, 21, 22, 23, 40, 1000, -1000, 10**30, -(10**30), 10**5000, -(10**5000))


def made_list(things):
    """The whole list, in the way that [7] makes it."""
    told = [[]]
    for new in range(things):
        longer = []
        for place, order in enumerate(told):
            ahead = range(new, -1, -1) if place % 2 == 0 else range(0, new + 1)
            longer += [order[:k] + [new] + order[k:] for k in ahead]
        told = longer
    return told


def made_order(things, place):
    """One order of the list, found in the way that [7] makes it: for lists too long to be made."""
    if things == 0:
        return []
    shorter_place, turn = divmod(place, things)
    order = made_order(things - 1, shorter_place)
    ahead = things - 1 - turn if shorter_place % 2 == 0 else turn
    return order[:ahead] + [things - 1] + order[ahead:]


def changes(order, following):
    """All numbers of things ahead of two neighbours by whose change the one comes of the other."""
    return [
        k for k in range(len(order) - 1)
        if order[:k] + [order[k + 1], order[k]] + order[k + 2:] == following
    ]


def far_places(things):
    """Places of a long list: its ends, both sides of where an earlier thing moves, some spread over it."""
    count = math.factorial(things)
    chosen = {0, 1, count // 2, count - 2, count - 1}
    for earlier in range(1, things):
        block = count // math.factorial(earlier)
        chosen.update((block - 1, block, block + 1, 2 * block - 1, 2 * block, count - block, count - block - 1))
    chosen.update(k * 1000000000000000003 % count for k in range(100))
    return sorted(place for place in chosen if 0 <= place < count)


def bad_places(things):
    count = math.factorial(things)
    beyond = (count, count + 1, 2 * count, 10**30, 10**5000)
    return beyond + (-1, -2, -count, -count - 1, -(10**30), -(10**5000))


class WholeLists(unittest.TestCase):
    def test_the_list_is_made_as_told(self):
        for things in SMALL_NUMBERS:
            with self.subTest(things=things):
                told = [order_at(things, place) for place in range(orders(things))]
                self.assertEqual(told, made_list(things))

    def test_the_list_of_three_things(self):
        told = [order_at(3, place) for place in range(6)]
        self.assertEqual(told, [[0, 1, 2], [0, 2, 1], [2, 0, 1], [2, 1, 0], [1, 2, 0], [1, 0, 2]])

    def test_every_order_stands_just_once(self):
        for things in SMALL_NUMBERS:
            with self.subTest(things=things):
                told = [tuple(order_at(things, place)) for place in range(orders(things))]
                self.assertEqual(sorted(told), list(itertools.permutations(range(things))))

    def test_each_step_is_the_one_change_round_too(self):
        for things in SMALL_NUMBERS[2:]:
            told = made_list(things)
            for place in range(len(told)):
                with self.subTest(things=things, place=place):
                    following = told[(place + 1) % len(told)]
                    self.assertEqual([order_step(things, place)], changes(told[place], following))

    def test_the_steps_of_three_things(self):
        self.assertEqual([order_step(3, place) for place in range(6)], [1, 0, 1, 0, 1, 0])

    def test_the_place_of_an_order_is_where_it_stands(self):
        for things in SMALL_NUMBERS:
            for place, order in enumerate(made_list(things)):
                with self.subTest(things=things, place=place):
                    self.assertEqual(place_of_order(order), place)


class LongLists(unittest.TestCase):
    def test_how_many_places(self):
        self.assertEqual([orders(things) for things in ALL_NUMBERS], [math.factorial(things) for things in ALL_NUMBERS])

    def test_orders_steps_and_places_of_all_numbers(self):
        for things in ALL_NUMBERS:
            count = math.factorial(things)
            for place in far_places(things):
                with self.subTest(things=things, place=place):
                    order = made_order(things, place)
                    self.assertEqual(order_at(things, place), order)
                    self.assertEqual(place_of_order(order), place)
                    if count > 1:
                        following = made_order(things, (place + 1) % count)
                        self.assertEqual([order_step(things, place)], changes(order, following))


class Edges(unittest.TestCase):
    def test_no_things(self):
        self.assertEqual(orders(0), 1)
        self.assertEqual(order_at(0, 0), [])
        self.assertEqual(place_of_order([]), 0)
        check_refused(self, NoStep, order_step, 0, 0)

    def test_one_thing(self):
        self.assertEqual(orders(1), 1)
        self.assertEqual(order_at(1, 0), [0])
        self.assertEqual(place_of_order([0]), 0)
        check_refused(self, NoStep, order_step, 1, 0)

    def test_two_things(self):
        self.assertEqual(orders(2), 2)
        self.assertEqual([order_at(2, 0), order_at(2, 1)], [[0, 1], [1, 0]])
        self.assertEqual([order_step(2, 0), order_step(2, 1)], [0, 0])
        self.assertEqual([place_of_order([0, 1]), place_of_order([1, 0])], [0, 1])

    def test_twenty_things(self):
        last = 2432902008176639999
        self.assertEqual(orders(20), last + 1)
        self.assertEqual(order_at(20, 0), list(range(20)))
        self.assertEqual(order_at(20, 1), list(range(18)) + [19, 18])
        self.assertEqual(order_at(20, 19), [19] + list(range(19)))
        self.assertEqual(order_at(20, 20), [19] + list(range(17)) + [18, 17])
        self.assertEqual(order_at(20, last), [1, 0] + list(range(2, 20)))
        self.assertEqual([order_step(20, place) for place in (0, 18, 19, 20, last - 1, last)], [18, 0, 18, 0, 18, 0])

    def test_places_of_orders_of_twenty_things(self):
        self.assertEqual(place_of_order(list(range(20))), 0)
        self.assertEqual(place_of_order([19] + list(range(19))), 19)
        self.assertEqual(place_of_order([1, 0] + list(range(2, 20))), math.factorial(20) - 1)

    def test_the_last_place_steps_to_the_first(self):
        for things in ALL_NUMBERS[2:]:
            with self.subTest(things=things):
                last = orders(things) - 1
                self.assertEqual(order_step(things, last), 0)
                self.assertEqual(changes(order_at(things, last), order_at(things, 0)), [0])


class Refusals(unittest.TestCase):
    def test_bad_numbers_of_things(self):
        for k, things in enumerate(BAD_NUMBERS):
            with self.subTest(k=k):
                check_refused(self, NoSize, orders, things)
                check_refused(self, NoSize, order_at, things, 0)
                check_refused(self, NoSize, order_step, things, 0)

    def test_bad_places(self):
        for things in ALL_NUMBERS:
            for k, place in enumerate(bad_places(things)):
                with self.subTest(things=things, k=k):
                    check_refused(self, NoPlace, order_at, things, place)
                    # For no thing and for one thing too: NoPlace comes ahead of NoStep.
                    check_refused(self, NoPlace, order_step, things, place)

    def test_a_bad_number_comes_ahead_of_a_bad_place(self):
        for k, things in enumerate(BAD_NUMBERS):
            for place in (-1, 1, 10**30, -(10**30), 10**5000):
                with self.subTest(k=k):
                    check_refused(self, NoSize, order_at, things, place)
                    check_refused(self, NoSize, order_step, things, place)

    def test_orders_of_too_many_things(self):
        for things in (21, 22, 23, 40, 1000, 100000):
            for order in (list(range(things)), list(range(things - 1, -1, -1)), [0] * things):
                with self.subTest(things=things):
                    check_refused(self, NoThing, place_of_order, order)

    def test_lists_that_are_no_orders(self):
        for order in (
            [1], [-1], [2], [0, 0], [1, 1], [0, 2], [2, 0], [-1, 0], [0, -1], [1, 2], [0, 1, 1], [0, 1, 3],
            [2, 1, -1], [0] * 20, list(range(1, 21)), list(range(19)) + [18], list(range(19)) + [20],
            list(range(-1, 19)), [10**5000], [0, -(10**5000)],
        ):
            with self.subTest(length=len(order), first=order[0] % 100):
                check_refused(self, NoThing, place_of_order, order)

    def test_each_list_of_small_numbers_is_an_order_or_refused(self):
        for length in range(0, 6):
            for order in itertools.product(range(-1, length + 1), repeat=length):
                with self.subTest(order=order):
                    if sorted(order) == list(range(length)):
                        self.assertEqual(made_order(length, place_of_order(list(order))), list(order))
                    else:
                        check_refused(self, NoThing, place_of_order, list(order))


class Values(unittest.TestCase):
    def test_the_arguments_have_their_names(self):
        asked = {
            orders: ["things"],
            order_at: ["things", "place"],
            order_step: ["things", "place"],
            place_of_order: ["order"],
        }
        for function, names in asked.items():
            with self.subTest(function=function.__name__):
                self.assertEqual(list(inspect.signature(function).parameters), names)

    def test_the_answers_are_of_their_kinds(self):
        for things in ALL_NUMBERS:
            count = orders(things)
            self.assertIs(type(count), int)
            for place in (0, count // 2, count - 1):
                with self.subTest(things=things, place=place):
                    order = order_at(things, place)
                    self.assertIs(type(order), list)
                    self.assertEqual([type(thing) for thing in order], [int] * things)
                    self.assertIs(type(place_of_order(order)), int)
                    if count > 1:
                        self.assertIs(type(order_step(things, place)), int)

    def test_an_order_that_is_handed_in_stays_as_it_was(self):
        for order in ([], [0], [2, 0, 1], list(range(20)), list(range(19, -1, -1))):
            with self.subTest(order=order):
                kept = list(order)
                first = place_of_order(order)
                self.assertEqual(order, kept)
                self.assertEqual(place_of_order(order), first)

    def test_a_refused_list_stays_as_it_was(self):
        for order in ([3, 1, 1, 0], list(range(20, -1, -1))):
            with self.subTest(order=order):
                kept = list(order)
                check_refused(self, NoThing, place_of_order, order)
                self.assertEqual(order, kept)

    def test_an_order_that_was_told_may_be_changed(self):
        for things in (0, 1, 2, 5, 20):
            for place in (0, orders(things) // 2, orders(things) - 1):
                with self.subTest(things=things, place=place):
                    order = order_at(things, place)
                    order.append(21)
                    order[0] = -1
                    again = order_at(things, place)
                    self.assertIsNot(again, order)
                    self.assertEqual(again, made_order(things, place))


if __name__ == "__main__":
    unittest.main()
