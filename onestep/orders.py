"""All orders of so many things, each next one a single change of two neighbours away."""

from onestep.errors import NoSize, NoStep, NoThing
from onestep.places import check_place, place_further_on

MOST_THINGS = 20


def orders(things):
    if things < 0 or things > MOST_THINGS:
        raise NoSize("there are nought to 20 things")
    count = 1
    for thing in range(things):
        count = count * (thing + 1)
    return count


# The new thing goes through an order on an even place from the end to the beginning, else the other way.
# So this turns how many orders it has gone through into how many things stand ahead of it, and back.
def turned_where_even(thing, shorter_place, number):
    if shorter_place % 2 == 0:
        return thing - number
    return number


# Each order of the shorter list gives as many orders as there are things now, one behind the other.
def order_at(things, place):
    check_place(orders(things), place)
    shorter_place = place
    aheads = []
    for thing in range(things - 1, -1, -1):
        gone_through = shorter_place % (thing + 1)
        shorter_place = shorter_place // (thing + 1)
        aheads.append(turned_where_even(thing, shorter_place, gone_through))
    # The longest list came first, but the things are put in from thing nought on.
    aheads.reverse()
    order = []
    for thing, ahead in enumerate(aheads):
        order.insert(ahead, thing)
    return order


def order_step(things, place):
    count = orders(things)
    check_place(count, place)
    if count == 1:
        raise NoStep("a list with one order alone has no step")
    order = order_at(things, place)
    following = order_at(things, place_further_on(count, place, 1))
    ahead = 0
    while order[ahead] == following[ahead]:
        ahead = ahead + 1
    return ahead


# As many things as the list is long, and all of them in it: so none is there twice.
def check_order(order):
    if len(order) > MOST_THINGS:
        raise NoThing("there are at most 20 things")
    for thing in range(len(order)):
        if thing not in order:
            raise NoThing("an order is a list of all of the things")


# Later things are put in later: where this one was put, only earlier things stood.
def earlier_things_ahead(order, thing):
    ahead = order[:order.index(thing)]
    return len([other for other in ahead if other < thing])


def place_of_order(order):
    check_order(order)
    place = 0
    for thing in range(len(order)):
        ahead = earlier_things_ahead(order, thing)
        place = place * (thing + 1) + turned_where_even(thing, place, ahead)
    return place
