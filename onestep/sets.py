"""All sets of so many of so many things, each next one a single exchange of members away."""

from onestep.errors import NoSize, NoStep, NoThing
from onestep.places import check_place, place_further_on

MOST_THINGS = 40


def check_things(things):
    if things < 0 or things > MOST_THINGS:
        raise NoSize("there are nought to 40 things")


# Nought where there are fewer things than members: then no set can do without the last thing.
def count_sets(things, some):
    count = 1
    for chosen in range(some):
        # What is divided is the count for one member more, times that many members: nothing is left over.
        count = count * (things - chosen) // (chosen + 1)
    return count


def sets(things, some):
    check_things(things)
    if some < 0 or some > things:
        raise NoSize("a set has nought to all of the things as members")
    return count_sets(things, some)


# The sets with the last thing stand at the end of the list, as a shorter list mirrored. So the place of
# one of them and the place that its other members have in the shorter list add up to the last place.
def set_at(things, some, place):
    check_place(sets(things, some), place)
    shorter_place = place
    missing = some
    members = []
    for thing in range(things - 1, -1, -1):
        if shorter_place >= count_sets(thing, missing):
            last_place = count_sets(thing + 1, missing) - 1
            shorter_place = last_place - shorter_place
            missing = missing - 1
            members.append(thing)
    # The longest list came first, and with it the last thing.
    members.reverse()
    return members


def set_step(things, some, place):
    count = sets(things, some)
    check_place(count, place)
    if count == 1:
        raise NoStep("a list with one set alone has no step")
    members = set_at(things, some, place)
    following = set_at(things, some, place_further_on(count, place, 1))
    goes = [member for member in members if member not in following]
    comes = [member for member in following if member not in members]
    return (goes[0], comes[0])


def check_set(things, members):
    if members != [thing for thing in range(things) if thing in members]:
        raise NoThing("a set is the list of its members, rising, each of them one of the things")


# The mirror of set_at, from the shortest list on. Things behind the last member change no place, since
# the sets without the last thing stand in the longer list as in the shorter one.
def place_of_set(things, members):
    check_things(things)
    check_set(things, members)
    place = 0
    for earlier, member in enumerate(members):
        last_place = count_sets(member + 1, earlier + 1) - 1
        place = last_place - place
    return place
