import inspect
import itertools
import math
import unittest

from onestep.errors import NoPlace, NoSize, NoStep, NoThing
from onestep.sets import place_of_set, set_at, set_step, sets
from refusals import check_refused

SMALL = [(things, some) for things in range(0, 10) for some in range(0, things + 1)]
ALL = [(things, some) for things in range(0, 41) for some in range(0, things + 1)]
# The last ones have more digits than Python is willing to write out.
BAD_THINGS = (-1, -2, -40, -41, 41, 42, 43, 64, 1000, -1000, 10**30, -(10**30), 10**5000, -(10**5000))


def made_list(things, some):
    """The whole list, in the way that [5] makes it."""
    if some == 0:
        return [[]]
    if some == things:
        return [list(range(things))]
    ended = reversed(made_list(things - 1, some - 1))
    return made_list(things - 1, some) + [members + [things - 1] for members in ended]


def made_set(things, some, place):
    """One set of the list, found in the way that [5] makes it: for lists too long to be made."""
    if some == 0:
        return []
    if some == things:
        return list(range(things))
    as_it_is = math.comb(things - 1, some)
    if place < as_it_is:
        return made_set(things - 1, some, place)
    from_the_last = math.comb(things - 1, some - 1) - 1 - (place - as_it_is)
    return made_set(things - 1, some - 1, from_the_last) + [things - 1]


def exchanges(members, following):
    """All pairs of one that goes and one that comes: just one pair where the step is a small one."""
    goes = [member for member in members if member not in following]
    comes = [member for member in following if member not in members]
    return [(one, other) for one in goes for other in comes]


def far_places(things, some):
    """Places of a long list: its ends, both sides of where its two parts meet, and some spread over it."""
    count = math.comb(things, some)
    chosen = {0, 1, count // 2, count - 2, count - 1}
    for fewer in range(things):
        seam = math.comb(fewer, some)
        chosen.update((seam - 1, seam, seam + 1, count - seam, count - seam - 1))
    chosen.update(k * 982451653 % count for k in range(5))
    return sorted(place for place in chosen if 0 <= place < count)


def bad_places(things, some):
    count = math.comb(things, some)
    beyond = (count, count + 1, 2 * count, 10**30, 10**5000)
    return beyond + (-1, -2, -count, -count - 1, -(10**30), -(10**5000))


def bad_numbers_of_members(things):
    return (-1, -2, -things - 1, things + 1, things + 2, 41, 42, 1000, -1000, 10**30, -(10**30), 10**5000, -(10**5000))


class WholeLists(unittest.TestCase):
    def test_the_list_is_made_as_told(self):
        for things, some in SMALL:
            with self.subTest(things=things, some=some):
                told = [set_at(things, some, place) for place in range(sets(things, some))]
                self.assertEqual(told, made_list(things, some))

    def test_the_list_of_two_of_four_things(self):
        told = [set_at(4, 2, place) for place in range(6)]
        self.assertEqual(told, [[0, 1], [1, 2], [0, 2], [2, 3], [1, 3], [0, 3]])

    def test_every_set_stands_just_once(self):
        for things, some in SMALL:
            with self.subTest(things=things, some=some):
                told = [tuple(set_at(things, some, place)) for place in range(sets(things, some))]
                self.assertEqual(sorted(told), list(itertools.combinations(range(things), some)))

    def test_each_step_is_the_one_exchange_round_too(self):
        for things, some in SMALL:
            told = made_list(things, some)
            for place in range(len(told) if len(told) > 1 else 0):
                with self.subTest(things=things, some=some, place=place):
                    following = told[(place + 1) % len(told)]
                    self.assertEqual([set_step(things, some, place)], exchanges(told[place], following))

    def test_the_steps_of_two_of_four_things(self):
        told = [set_step(4, 2, place) for place in range(6)]
        self.assertEqual(told, [(0, 2), (1, 0), (0, 3), (2, 1), (1, 0), (3, 1)])

    def test_the_place_of_a_set_is_where_it_stands(self):
        for things, some in SMALL:
            for place, members in enumerate(made_list(things, some)):
                with self.subTest(things=things, some=some, place=place):
                    self.assertEqual(place_of_set(things, members), place)


class LongLists(unittest.TestCase):
    def test_how_many_places(self):
        for things, some in ALL:
            with self.subTest(things=things, some=some):
                self.assertEqual(sets(things, some), math.comb(things, some))

    def test_sets_steps_and_places_of_all_numbers(self):
        for things, some in ALL:
            count = math.comb(things, some)
            for place in far_places(things, some):
                with self.subTest(things=things, some=some, place=place):
                    members = made_set(things, some, place)
                    self.assertEqual(set_at(things, some, place), members)
                    self.assertEqual(place_of_set(things, members), place)
                    if count > 1:
                        following = made_set(things, some, (place + 1) % count)
                        self.assertEqual([set_step(things, some, place)], exchanges(members, following))


class Edges(unittest.TestCase):
    def test_no_things(self):
        self.assertEqual(sets(0, 0), 1)
        self.assertEqual(set_at(0, 0, 0), [])
        self.assertEqual(place_of_set(0, []), 0)
        check_refused(self, NoStep, set_step, 0, 0, 0)

    def test_one_thing(self):
        self.assertEqual([sets(1, 0), sets(1, 1)], [1, 1])
        self.assertEqual([set_at(1, 0, 0), set_at(1, 1, 0)], [[], [0]])
        self.assertEqual([place_of_set(1, []), place_of_set(1, [0])], [0, 0])

    def test_two_things(self):
        self.assertEqual([set_at(2, 1, 0), set_at(2, 1, 1)], [[0], [1]])
        self.assertEqual([set_step(2, 1, 0), set_step(2, 1, 1)], [(0, 1), (1, 0)])

    def test_sets_of_none_and_of_all_of_the_things(self):
        for things in range(0, 41):
            for some, members in ((0, []), (things, list(range(things)))):
                with self.subTest(things=things, some=some):
                    self.assertEqual(sets(things, some), 1)
                    self.assertEqual(set_at(things, some, 0), members)
                    self.assertEqual(place_of_set(things, members), 0)
                    check_refused(self, NoStep, set_step, things, some, 0)

    def test_twenty_of_forty_things(self):
        last = 137846528819
        self.assertEqual(sets(40, 20), last + 1)
        self.assertEqual(set_at(40, 20, 0), list(range(20)))
        self.assertEqual(set_at(40, 20, last), list(range(19)) + [39])
        self.assertEqual(place_of_set(40, list(range(20))), 0)
        self.assertEqual(place_of_set(40, list(range(19)) + [39]), last)
        self.assertEqual(set_step(40, 20, last), (39, 19))

    def test_one_and_thirty_nine_of_forty_things(self):
        self.assertEqual([set_at(40, 1, place) for place in range(40)], [[thing] for thing in range(40)])
        self.assertEqual(set_step(40, 1, 39), (39, 0))
        self.assertEqual(sets(40, 39), 40)
        self.assertEqual(set_at(40, 39, 0), list(range(39)))
        self.assertEqual(set_at(40, 39, 39), list(range(38)) + [39])

    def test_the_last_place_steps_to_the_first(self):
        for things, some in ALL:
            if 0 < some < things:
                with self.subTest(things=things, some=some):
                    last = sets(things, some) - 1
                    self.assertEqual(set_at(things, some, 0), list(range(some)))
                    self.assertEqual(set_at(things, some, last), list(range(some - 1)) + [things - 1])
                    self.assertEqual(set_step(things, some, last), (things - 1, some - 1))


class Refusals(unittest.TestCase):
    def test_bad_numbers_of_things(self):
        for k, things in enumerate(BAD_THINGS):
            for some in (0, 1, -1, 40, 41, things):
                with self.subTest(k=k):
                    check_refused(self, NoSize, sets, things, some)
                    check_refused(self, NoSize, set_at, things, some, 0)
                    check_refused(self, NoSize, set_step, things, some, 0)

    def test_bad_numbers_of_members(self):
        for things in range(0, 41):
            for k, some in enumerate(bad_numbers_of_members(things)):
                with self.subTest(things=things, k=k):
                    check_refused(self, NoSize, sets, things, some)
                    check_refused(self, NoSize, set_at, things, some, 0)
                    check_refused(self, NoSize, set_step, things, some, 0)

    def test_bad_places(self):
        for things, some in ALL:
            for k, place in enumerate(bad_places(things, some)):
                with self.subTest(things=things, some=some, k=k):
                    check_refused(self, NoPlace, set_at, things, some, place)
                    # For none and for all of the things too: NoPlace comes ahead of NoStep.
                    check_refused(self, NoPlace, set_step, things, some, place)

    def test_a_bad_number_comes_ahead_of_a_bad_place(self):
        wrong = [(things, some) for things in BAD_THINGS for some in (0, 1, things)]
        wrong += [(things, some) for things in (0, 1, 7, 40) for some in bad_numbers_of_members(things)]
        for k, (things, some) in enumerate(wrong):
            for place in (-1, 2**41, 10**30, -(10**30), 10**5000):
                with self.subTest(k=k):
                    check_refused(self, NoSize, set_at, things, some, place)
                    check_refused(self, NoSize, set_step, things, some, place)

    def test_a_bad_number_of_things_comes_ahead_of_a_bad_list(self):
        for k, things in enumerate(BAD_THINGS):
            for members in ([], [0], [0, 0], [1, 0], [-1], [40], [41], [10**30], list(range(42))):
                with self.subTest(k=k, members=members):
                    check_refused(self, NoSize, place_of_set, things, members)

    def test_lists_that_are_no_sets(self):
        for members in (
            [0, 0], [3, 3], [0, 1, 1, 2], [1, 0], [0, 3, 2], [4, 3, 2, 1, 0],
            [-1], [-1, 0], [0, -1], [-5], [5], [6], [0, 5], [4, 5], [0, 1, 2, 3, 5], [10**5000], [-(10**5000)],
        ):
            with self.subTest(length=len(members), first=members[0] % 100):
                check_refused(self, NoThing, place_of_set, 5, members)

    def test_more_members_than_things(self):
        for things in range(0, 41):
            for more in (1, 2, 40, 1000):
                with self.subTest(things=things, more=more):
                    check_refused(self, NoThing, place_of_set, things, list(range(things + more)))
                    check_refused(self, NoThing, place_of_set, things, list(range(things)) + [0] * more)
                    check_refused(self, NoThing, place_of_set, things, list(range(-more, things)))

    def test_each_list_of_small_numbers_is_a_set_or_refused(self):
        for things in range(0, 4):
            for length in range(0, 5):
                for members in itertools.product(range(-1, 5), repeat=length):
                    with self.subTest(things=things, members=members):
                        if members in itertools.combinations(range(things), length):
                            place = place_of_set(things, list(members))
                            self.assertEqual(made_list(things, length)[place], list(members))
                        else:
                            check_refused(self, NoThing, place_of_set, things, list(members))


class Values(unittest.TestCase):
    def test_the_arguments_have_their_names(self):
        asked = {
            sets: ["things", "some"],
            set_at: ["things", "some", "place"],
            set_step: ["things", "some", "place"],
            place_of_set: ["things", "members"],
        }
        for function, names in asked.items():
            with self.subTest(function=function.__name__):
                self.assertEqual(list(inspect.signature(function).parameters), names)

    def test_the_answers_are_of_their_kinds(self):
        for things, some in ALL:
            count = sets(things, some)
            self.assertIs(type(count), int)
            for place in (0, count // 2, count - 1):
                with self.subTest(things=things, some=some, place=place):
                    members = set_at(things, some, place)
                    self.assertIs(type(members), list)
                    self.assertEqual([type(member) for member in members], [int] * some)
                    self.assertIs(type(place_of_set(things, members)), int)
                    if count > 1:
                        step = set_step(things, some, place)
                        self.assertIs(type(step), tuple)
                        self.assertEqual([type(thing) for thing in step], [int, int])

    def test_a_set_that_is_handed_in_stays_as_it_was(self):
        for members in ([], [0], [39], [1, 2, 5], list(range(40)), list(range(0, 40, 2))):
            with self.subTest(members=members):
                kept = list(members)
                first = place_of_set(40, members)
                self.assertEqual(members, kept)
                self.assertEqual(place_of_set(40, members), first)

    def test_a_refused_list_stays_as_it_was(self):
        for refusal, things, members in ((NoThing, 5, [3, 1, 1, 7]), (NoSize, 41, [2, 1])):
            with self.subTest(members=members):
                kept = list(members)
                check_refused(self, refusal, place_of_set, things, members)
                self.assertEqual(members, kept)

    def test_a_set_that_was_told_may_be_changed(self):
        for things, some in ((0, 0), (1, 0), (1, 1), (5, 3), (40, 0), (40, 20), (40, 40)):
            for place in (0, sets(things, some) // 2, sets(things, some) - 1):
                with self.subTest(things=things, some=some, place=place):
                    members = set_at(things, some, place)
                    members.append(41)
                    members[0] = -1
                    again = set_at(things, some, place)
                    self.assertIsNot(again, members)
                    self.assertEqual(again, made_set(things, some, place))


if __name__ == "__main__":
    unittest.main()
