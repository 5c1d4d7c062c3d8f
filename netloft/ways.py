"""Ways: from tip to tip along cords and over splices, and the net that they tell."""

from netloft.errors import NoPlace
from netloft.hangs import mirrored, tips
from netloft.nets import Net, renamed_rack


def way(net, tip):
    if tip not in tips_of_rack(net):
        raise NoPlace("the tip does not stand in the rack")
    return tips_met(tips_across(net), tip)


def by_ways(net):
    across = tips_across(net)
    names = {}
    for tip in tips_of_rack(net):
        names.update(names_by_way(across, tip))
    rings = net.rings
    # Cords that no way from the rack goes along lie on ways round.
    for tip in across:
        if tip[2] not in names:
            names.update(names_by_way(across, tip))
            rings += 1
    return Net(renamed_rack(net.rack, names), None, rings)


def tips_of_rack(net):
    met = []
    for hang in net.rack:
        met.extend(tips(hang))
    return met


def tips_across(net):
    across = {}
    for first, second in net.splices:
        # Hangs that mirror one another have as many tips, so each has one at the same place.
        for one, other in zip(tips(first), tips(second)):
            across[one] = other
            across[other] = one
    return across


def tips_met(across, tip):
    # The other tip of a cord is its tip's mirror.
    met = [tip, mirrored(tip)]
    # A tip of the rack has none across: there the way ends. One from a splice comes back to where it began.
    while across.get(met[-1], tip) != tip:
        onward = across[met[-1]]
        met.extend([onward, mirrored(onward)])
    return met


def names_by_way(across, tip):
    numbers = [met[2] for met in tips_met(across, tip)]
    least = min(numbers)
    return dict([(number, least) for number in numbers])
