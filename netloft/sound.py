"""Sound nets: whether a net holds by a choice, and a choice by which it does not."""

from netloft.points import Pieces, Points


def loose_knots(net):
    return len(Points(net).knots_of("loose"))


def holds(net, choice):
    if net.rings > 0:
        return False
    points = Points(net)
    lines = fixed_lines(points)
    for place, knot in enumerate(points.knots_of("loose")):
        lines.append((knot[0], knot[1 + choice[place]]))
    pieces = Pieces(len(points.hangs))
    return all_merge(pieces, lines) and pieces.many == 1


def sound(net):
    return fault(net) is None


def fault(net):
    points = Points(net)
    loose = points.knots_of("loose")
    pieces = Pieces(len(points.hangs))
    # What fails here fails by every choice.
    if net.rings > 0 or not all_merge(pieces, fixed_lines(points)):
        return [0 for knot in loose]
    unsettled = left_unsettled(pieces, loose)
    # A net without a point has no piece, and is not sound.
    if pieces.many == 1 and not unsettled:
        return None
    sides = failing_sides(pieces, unsettled)
    return [sides.get(knot, 0) for knot, left, right in loose]


def fixed_lines(points):
    lines = points.cords() + points.splices
    for knot, left, right in points.knots_of("fast"):
        lines.extend([(knot, left), (knot, right)])
    return lines


def all_merge(pieces, lines):
    return all([pieces.merge(one, other) for one, other in lines])


def left_unsettled(pieces, loose):
    waiting = loose
    while True:
        unsettled = []
        for knot, left, right in waiting:
            # Where both parts lie in one piece, either side joins the knot to that piece by one line.
            if not pieces.same(left, right) or not pieces.merge(knot, left):
                unsettled.append((knot, left, right))
        if len(unsettled) == len(waiting):
            return unsettled
        waiting = unsettled


def failing_sides(pieces, unsettled):
    for knot, left, right in unsettled:
        if pieces.same(knot, left):
            return {knot: 0}
        if pieces.same(knot, right):
            return {knot: 1}
    # Now there is more than one piece, and no knot has both parts in one. Where each piece has a knot, the lines
    # are too many for any choice to hold. Else a piece has none, and no line reaches it if all knots turn from it.
    lone = piece_without_knots(pieces, unsettled)
    sides = {}
    for knot, left, right in unsettled:
        sides[knot] = 1 if pieces.piece_of(left) == lone else 0
    return sides


def piece_without_knots(pieces, knots):
    taken = {}
    for knot, left, right in knots:
        taken[pieces.piece_of(knot)] = True
    for point in range(len(pieces.above)):
        if pieces.piece_of(point) not in taken:
            return pieces.piece_of(point)
    return None
