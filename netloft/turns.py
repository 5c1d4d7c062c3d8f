"""Turns: the net that a row of them ties, and a row that ties a sound net."""

from netloft.errors import NoMirror, NoTurn, Unsound
from netloft.hangs import mirrors
from netloft.nets import Net, is_place, without
from netloft.points import Points
from netloft.sound import sound


# A net on the pile: no turn makes it unfit, so it is not checked anew as a Net at each of them.
class Work:
    def __init__(self, rack, splices, numbers):
        self.rack = rack
        self.splices = splices
        self.numbers = numbers


def tied(turns):
    pile = []
    for turn in turns:
        pile.append(turned(pile, turn))
    if len(pile) != 1:
        raise NoTurn("behind the row there is not just one net")
    return Net(pile[0].rack, pile[0].splices)


def turned(pile, turn):
    if turn[0] == "cord":
        return cord_work(turn[1], turn[2])
    if turn[0] == "loose":
        return loose_work(top_of(pile), turn[1], turn[2])
    if turn[0] == "order":
        return order_work(top_of(pile), turn[1])
    top = top_of(pile)
    return work_of_two(turn[0], top_of(pile), turn[1], top, turn[2])


def top_of(pile):
    if not pile:
        raise NoTurn("there are too few nets on the pile")
    return pile.pop()


def cord_work(dye, number):
    return Work([("light", dye, number), ("dark", dye, number)], [], [number])


def loose_work(work, i, j):
    left = hang_at(work, i)
    right = hang_at(work, j)
    if i == j:
        raise NoTurn("a hang is not knotted with itself")
    return Work(without(work.rack, (i, j)) + [("loose", left, right)], work.splices, work.numbers)


def order_work(work, places):
    if sorted(places) != list(range(len(work.rack))):
        raise NoTurn("the list has not each place once")
    return Work([work.rack[place] for place in places], work.splices, work.numbers)


def work_of_two(kind, beneath, i, top, j):
    left = hang_at(beneath, i)
    right = hang_at(top, j)
    if len(set(beneath.numbers) & set(top.numbers)) > 0:
        raise NoTurn("the two nets have a cord's number in common")
    rack = without(beneath.rack, (i,)) + without(top.rack, (j,))
    splices = beneath.splices + top.splices
    if kind == "fast":
        rack.append(("fast", left, right))
    elif mirrors(left, right):
        splices.append((left, right))
    else:
        raise NoMirror("the two hangs do not mirror one another")
    return Work(rack, splices, beneath.numbers + top.numbers)


def hang_at(work, place):
    if not is_place(place, work.rack):
        raise NoTurn("the place is not there")
    return work.rack[place]


# Nets that are tied side by side. Each has a row of turns of its own, since a pile lets only the top two be joined.
class Bench:
    def __init__(self, points):
        self.racks = {}
        self.rows = {}
        self.homes = {}
        for light, dark in points.cords():
            tip = points.hangs[light]
            self.lay(tip[2], [light, dark], [("cord", tip[1], tip[2])])

    def lay(self, name, rack, row):
        self.racks[name] = rack
        self.rows[name] = row
        for point in rack:
            self.homes[point] = name

    def can_tie(self, kind, left, right):
        if left not in self.homes or right not in self.homes:
            return False
        return kind != "loose" or self.homes[left] == self.homes[right]

    def tie(self, kind, left, right, tail):
        one = self.homes[left]
        other = self.homes[right]
        turn = (kind, self.racks[one].index(left), self.racks[other].index(right))
        rack = self.racks[one]
        row = self.rows[one]
        if kind != "loose":
            rack = rack + self.racks.pop(other)
            row = row + self.rows.pop(other)
        self.lay(one, [point for point in rack if point not in (left, right)] + tail, row + [turn])


def turns_of(net):
    if not sound(net):
        raise Unsound("the net is not sound")
    points = Points(net)
    bench = Bench(points)
    waiting = knots_and_splices(points)
    # In a sound net there is always one that can be tied next, so this comes to an end.
    while waiting:
        waiting = left_untied(bench, waiting)
    home = bench.homes[points.rack[0]]
    places = [bench.racks[home].index(point) for point in points.rack]
    return bench.rows[home] + [("order", places)]


def knots_and_splices(points):
    steps = [("splice", first, second, []) for first, second in points.splices]
    for kind in ("loose", "fast"):
        steps.extend([(kind, left, right, [knot]) for knot, left, right in points.knots_of(kind)])
    return steps


def left_untied(bench, waiting):
    untied = []
    for kind, left, right, tail in waiting:
        if bench.can_tie(kind, left, right):
            bench.tie(kind, left, right, tail)
        else:
            untied.append((kind, left, right, tail))
    return untied
