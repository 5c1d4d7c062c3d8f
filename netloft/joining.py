"""Joining: two nets made one by a splice, and the straight net of a hang."""

from netloft.errors import NoMirror, NoPlace
from netloft.hangs import is_tip, mirrored, mirrors, tips
from netloft.nets import Net, is_place, without


def joined(one, i, other, j):
    if not is_place(i, one.rack) or not is_place(j, other.rack):
        raise NoPlace("the hang is not there")
    first = one.rack[i]
    second = other.rack[j]
    if not mirrors(first, second):
        raise NoMirror("the two hangs do not mirror one another")
    rack = without(one.rack, (i,)) + without(other.rack, (j,))
    # A cord's number that both nets have stands four times here: the Net refuses it with Unfit.
    return Net(rack, one.splices + other.splices + [(first, second)], one.rings + other.rings)


def straight(hang, first):
    numbered = numbered_from(hang, first)
    return Net([numbered, mirrored(numbered)])


# By places, not by a dict of names: where a cord stands twice in the hang, each of its tips gets a number of its own.
def numbered_from(hang, first):
    if is_tip(hang):
        return (hang[0], hang[1], first)
    left = numbered_from(hang[1], first)
    return (hang[0], left, numbered_from(hang[2], first + len(tips(left))))
