"""The points of a net, numbered as they stand, and the pieces that lines join them to."""

from netloft.hangs import is_tip


# Points are numbers, so that like hangs are never compared, however deep they go. Rack and splices hold
# the points of whole hangs, parts tells of each knot the points of its left and right part.
class Points:
    def __init__(self, net):
        self.hangs = []
        self.parts = {}
        self.rack = [self.number_hang(hang) for hang in net.rack]
        self.splices = [(self.number_hang(first), self.number_hang(second)) for first, second in net.splices]

    def number_hang(self, hang):
        point = len(self.hangs)
        self.hangs.append(hang)
        if not is_tip(hang):
            # Its key comes ahead of those within it: loose knots are counted in the order of the keys.
            self.parts[point] = ()
            left = self.number_hang(hang[1])
            right = self.number_hang(hang[2])
            self.parts[point] = (left, right)
        return point

    def knots_of(self, kind):
        return [(knot,) + both for knot, both in self.parts.items() if self.hangs[knot][0] == kind]

    # The light tip goes first, as in the turn that ties a cord.
    def cords(self):
        lights = {}
        darks = {}
        for point, hang in enumerate(self.hangs):
            if hang[0] == "light":
                lights[hang[2]] = point
            elif hang[0] == "dark":
                darks[hang[2]] = point
        return [(point, darks[number]) for number, point in lights.items()]


class Pieces:
    def __init__(self, size):
        self.above = list(range(size))
        self.many = size

    def piece_of(self, point):
        while self.above[point] != point:
            # Each walk halves the way for those that come later, so no way stays long.
            self.above[point] = self.above[self.above[point]]
            point = self.above[point]
        return point

    def same(self, one, other):
        return self.piece_of(one) == self.piece_of(other)

    # False where one piece has both points already: a line more between them would close a way round.
    def merge(self, one, other):
        if self.same(one, other):
            return False
        self.above[self.piece_of(one)] = self.piece_of(other)
        self.many -= 1
        return True
