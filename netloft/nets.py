"""Nets: a rack, splices and rings; their told forms, and nets lifted by a step."""

from netloft.errors import NoMirror, Unfit
from netloft.hangs import is_tip, mirrors, renamed, tips


class Net:
    def __init__(self, rack, splices=None, rings=0):
        self.rack = list(rack)
        self.splices = [] if splices is None else [tuple(pair) for pair in splices]
        self.rings = rings
        if not fits(hangs_in_order(self)):
            raise Unfit("not each cord has one light and one dark tip of one dye")
        if not all([mirrors(first, second) for first, second in self.splices]):
            raise NoMirror("the hangs of a splice do not mirror one another")


def fits(hangs):
    ends = {}
    waiting = list(hangs)
    while waiting:
        hang = waiting.pop()
        if is_tip(hang):
            met = ends.setdefault(hang[2], [])
            met.append(hang)
            # One tuple may be both parts of a knot, sixty times over: without this the walk would not end in time.
            if len(met) > 2:
                return False
        else:
            waiting.extend(hang[1:])
    # A light and a dark tip of one dye are just two tips that mirror one another.
    return all([len(met) == 2 and mirrors(met[0], met[1]) for met in ends.values()])


def hangs_in_order(net):
    hangs = list(net.rack)
    for pair in net.splices:
        hangs.extend(pair)
    return hangs


def numbers_in_order(net):
    numbers = []
    for hang in hangs_in_order(net):
        numbers.extend([tip[2] for tip in tips(hang)])
    return numbers


def is_place(place, row):
    return place >= 0 and place < len(row)


def without(rack, places):
    return [hang for place, hang in enumerate(rack) if place not in places]


def renamed_rack(rack, names):
    return [renamed(hang, names) for hang in rack]


def renamed_splices(splices, names):
    return [(renamed(first, names), renamed(second, names)) for first, second in splices]


def renumbered(net, names):
    return Net(renamed_rack(net.rack, names), renamed_splices(net.splices, names), net.rings)


def told(net):
    names = {}
    for number in numbers_in_order(net):
        names.setdefault(number, len(names))
    return renumbered(net, names)


def alike(one, other):
    first = told(one)
    second = told(other)
    return first.rack == second.rack and first.splices == second.splices and first.rings == second.rings


def lifted(net, step):
    names = {}
    for number in numbers_in_order(net):
        names[number] = number + step
    return renumbered(net, names)
