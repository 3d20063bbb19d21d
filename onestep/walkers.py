"""Walkers, which stand on a place of one of the lists and go about in it."""

from onestep.orders import order_at, orders
from onestep.places import check_place, place_further_on
from onestep.rows import row_at, rows
from onestep.sets import set_at, sets


# What walkers on all lists do alike. It keeps the place alone: what stands there is told anew each time.
class Walker:
    def __init__(self, places):
        self.places = places
        self.standing = 0

    def go(self, by):
        self.standing = place_further_on(self.places, self.standing, by)

    def leap(self, place):
        check_place(self.places, place)
        self.standing = place

    def place(self):
        return self.standing

    # Going back by its place leads home; the same way, round the ring, is the least one on.
    def home(self):
        return place_further_on(self.places, 0, -self.standing)


class RowWalker(Walker):
    def __init__(self, size):
        Walker.__init__(self, rows(size))
        self.size = size

    def here(self):
        return row_at(self.size, self.standing)


class SetWalker(Walker):
    def __init__(self, things, some):
        Walker.__init__(self, sets(things, some))
        self.things = things
        self.some = some

    def here(self):
        return set_at(self.things, self.some, self.standing)


class OrderWalker(Walker):
    def __init__(self, things):
        Walker.__init__(self, orders(things))
        self.things = things

    def here(self):
        return order_at(self.things, self.standing)
