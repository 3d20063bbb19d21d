"""All rows of so many switches, each next one a single turned switch away."""

from onestep.errors import NoSize, NoStep, NoThing
from onestep.places import check_place

MOST_SWITCHES = 40


def rows(size):
    if size < 0 or size > MOST_SWITCHES:
        raise NoSize("there are nought to 40 switches")
    count = 1
    for switch in range(size):
        count = count * 2
    return count


# The second half of a list is the first one mirrored, with the last switch on. So a place in it and
# the place that the other switches have in the shorter list add up to the last place.
def row_at(size, place):
    count = rows(size)
    check_place(count, place)
    shorter_place = place
    row = []
    for switch in range(size):
        last_place = count - 1
        count = count // 2
        is_on = shorter_place >= count
        if is_on:
            shorter_place = last_place - shorter_place
        row.append(is_on)
    # The longest list came first, and with it the last switch.
    row.reverse()
    return row


# A switch is turned in the middle of the list in which it is the last one, and the mirror keeps the
# middle where it is: so the step is how often the number of places gone by can be halved. Going round
# from the last place, that is once too often: there it is the last switch, the only one still on.
def row_step(size, place):
    check_place(rows(size), place)
    if size == 0:
        raise NoStep("the list of no switches has no step")
    switch = 0
    gone_by = place + 1
    while switch < size - 1 and gone_by % 2 == 0:
        gone_by = gone_by // 2
        switch = switch + 1
    return switch


def check_row(row):
    if len(row) > MOST_SWITCHES:
        raise NoThing("there are at most 40 switches")
    for is_on in row:
        if is_on is not True and is_on is not False:
            raise NoThing("a row holds True and False alone")


def place_of_row(row):
    check_row(row)
    place = 0
    count = 1
    for is_on in row:
        count = count * 2
        if is_on:
            last_place = count - 1
            place = last_place - place
    return place
