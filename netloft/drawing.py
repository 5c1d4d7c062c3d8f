"""Drawing: the splices of a net drawn, one by one or until none is left."""

from netloft.errors import NoPlace
from netloft.hangs import is_tip
from netloft.nets import Net, is_place, renamed_rack, renamed_splices


def drawn(net, place):
    if not is_place(place, net.splices):
        raise NoPlace("the splice is not there")
    first = net.splices[place][0]
    second = net.splices[place][1]
    before = net.splices[:place]
    behind = net.splices[place + 1:]
    if is_tip(first):
        return tips_drawn(net, before + behind, first[2], second[2])
    return Net(net.rack, before + [(first[1], second[1]), (first[2], second[2])] + behind, net.rings)


def tips_drawn(net, splices, one, other):
    # A cord that is spliced with itself has no tips left, so nothing bears its number any more.
    if one == other:
        return Net(net.rack, splices, net.rings + 1)
    names = {max(one, other): min(one, other)}
    return Net(renamed_rack(net.rack, names), renamed_splices(splices, names), net.rings)


def drawn_out(net):
    left = Net(net.rack, net.splices, net.rings)
    while left.splices:
        left = drawn(left, 0)
    return left
