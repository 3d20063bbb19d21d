"""Places of a list, numbered from nought and closed to a ring."""

from onestep.errors import NoPlace


# No refusal's words hold a number that was handed in, since Python won't write out a very long one.
def check_place(count, place):
    if place < 0 or place >= count:
        raise NoPlace("the list has no such place")


def place_further_on(count, place, by):
    return (place + by) % count
