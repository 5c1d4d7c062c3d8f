"""Short names for hangs, the edges of point 1, and nets and rows of turns, for the tests."""

import contextlib
import itertools
import signal
import unittest

from netloft.errors import BadText, NetError, NoMirror, NoPlace, NoTurn, Unfit, Unsound
from netloft.hangs import mirrored, mirrors, tips
from netloft.nets import Net

LARGE = 10 ** 30 - 1
LONG_DYE = "abcdefghijklmnopqrst"


def light(dye, number):
    return ("light", dye, number)


def dark(dye, number):
    return ("dark", dye, number)


def fast(left, right):
    return ("fast", left, right)


def loose(left, right):
    return ("loose", left, right)


def nested(depth, leftward):
    """A hang of so many knots within one another, each third one loose; cords 0 to depth from within."""
    hang = light("red", 0)
    for number in range(1, depth + 1):
        tip = dark("blue", number)
        knot = fast if number % 3 else loose
        hang = knot(hang, tip) if leftward else knot(tip, hang)
    return hang


def cords(dye, numbers):
    rack = []
    for number in numbers:
        rack.extend([light(dye, number), dark(dye, number)])
    return rack


def tree(knot, hangs):
    """All hangs in one, with as few knots within one another as can be."""
    if len(hangs) == 1:
        return hangs[0]
    half = len(hangs) // 2
    return knot(tree(knot, hangs[:half]), tree(knot, hangs[half:]))


def parts(net):
    return (net.rack, net.splices, net.rings)


class RefusalCase(unittest.TestCase):
    def assert_refused(self, error, call, *given):
        with self.assertRaises(error) as caught:
            call(*given)
        self.assertIs(type(caught.exception), error)
        self.assertIsInstance(caught.exception, NetError)
        self.assertIsInstance(caught.exception, ValueError)
        for other in (BadText, Unfit, NoMirror, NoPlace, NoTurn, Unsound):
            self.assertEqual(isinstance(caught.exception, other), other is error)


@contextlib.contextmanager
def in_time(seconds):
    """Fails a call that goes through too much, where it would else not end."""
    def stop(signum, frame):
        raise TimeoutError(f"not ended in {seconds} seconds")
    before = signal.signal(signal.SIGALRM, stop)
    signal.alarm(seconds)
    try:
        yield
    finally:
        signal.alarm(0)
        signal.signal(signal.SIGALRM, before)


def round_net(bad):
    """A net that holds by every choice but this one, which may be of a hundred loose knots and be any choice.

    By the bad side of each knot a way goes to the knot ahead of it, the first one's to the last one's: all bad
    sides together close a way round. Each other side goes to the rack's last hang.
    """
    size = len(bad)
    rack = []
    for place, side in enumerate(bad):
        onward, home = light("a", place), light("b", size + place)
        knot = loose(home, onward) if side else loose(onward, home)
        rack.append(fast(knot, dark("a", (place + 1) % size)))
    return Net(rack + [tree(fast, [dark("b", size + place) for place in range(size)])])


def chain_net(size, backward):
    """A sound net: the first knot's parts both go to the rack's last hang, each other one's also to the one before."""
    rack = [loose(light("a", place), light("b", size + place)) for place in range(size)]
    rack = [fast(rack[place], dark("a", place + 1)) for place in range(size - 1)] + rack[-1:]
    if backward:
        rack.reverse()
    return Net(rack + [tree(fast, [dark("a", 0)] + [dark("b", size + place) for place in range(size)])])


def row_of_cords(numbers):
    """Each cord's dark tip is spliced with the next one's light tip; the first and the last tip are in the rack."""
    pairs = [(dark("a", number), light("a", onward)) for number, onward in zip(numbers, numbers[1:])]
    return Net([light("a", numbers[0]), dark("a", numbers[-1])], pairs)


def straight_turns(hang, first):
    """Turns for a net with the rack hang, mirror; its cords numbered from first on, from left to right."""
    if hang[0] == "light":
        return [("cord", hang[1], first)]
    if hang[0] == "dark":
        return [("cord", hang[1], first), ("order", [1, 0])]
    row = straight_turns(hang[1], first) + straight_turns(hang[2], first + len(tips(hang[1])))
    if hang[0] == "fast":
        return row + [("fast", 0, 0), ("loose", 0, 1)]
    return row + [("fast", 1, 1), ("loose", 0, 1), ("order", [1, 0])]


def random_hang(rng, size):
    """A hang of so many tips, all of number nought."""
    if size == 1:
        return rng.choice([light, dark])(rng.choice(["a", "b"]), 0)
    left = rng.randrange(1, size)
    return rng.choice([fast, loose])(random_hang(rng, left), random_hang(rng, size - left))


def random_row(rng, free):
    """A row of turns that ties a net of cords with these numbers, and the rack and the splices of that net."""
    if len(free) == 1:
        dye = rng.choice(["a", "b"])
        return [("cord", dye, free[0])], [light(dye, free[0]), dark(dye, free[0])], []
    half = rng.randrange(1, len(free))
    one_row, one_rack, one_splices = random_row(rng, free[:half])
    other_row, other_rack, other_splices = random_row(rng, free[half:])
    row = one_row + other_row
    i = rng.randrange(len(one_rack))
    j = rng.randrange(len(other_rack))
    rack = one_rack[:i] + one_rack[i + 1:] + other_rack[:j] + other_rack[j + 1:]
    splices = one_splices + other_splices
    if mirrors(one_rack[i], other_rack[j]):
        return changed(rng, row + [("splice", i, j)], rack, splices + [(one_rack[i], other_rack[j])])
    return changed(rng, row + [("fast", i, j)], rack + [fast(one_rack[i], other_rack[j])], splices)


def changed(rng, row, rack, splices):
    """The same behind loose and order turns on the one net."""
    while len(rack) > 1 and rng.random() < 0.6:
        i, j = rng.sample(range(len(rack)), 2)
        row = row + [("loose", i, j)]
        rack = [rack[place] for place in range(len(rack)) if place not in (i, j)] + [loose(rack[i], rack[j])]
    if rng.random() < 0.4:
        places = rng.sample(range(len(rack)), len(rack))
        row = row + [("order", places)]
        rack = [rack[place] for place in places]
    return row, rack, splices


def spliced_row(rng, cords):
    """Like a random row, and then one of the hangs is spliced with its mirror in a straight net."""
    row, rack, splices = random_row(rng, rng.sample(range(cords), cords))
    place = rng.randrange(len(rack))
    hang = rack[place]
    first = 10 ** 20
    fresh = numbered(hang, iter(range(first, first + len(tips(hang)))))
    rest = rack[:place] + rack[place + 1:]
    if rng.random() < 0.5:
        row = row + straight_turns(hang, first) + [("splice", place, 1)]
        return row, rest + [fresh], splices + [(hang, mirrored(fresh))]
    row = straight_turns(hang, first) + row + [("splice", 1, place)]
    return row, [fresh] + rest, splices + [(mirrored(fresh), hang)]


def numbered(hang, names):
    if hang[0] in ("light", "dark"):
        return hang[:2] + (next(names),)
    return (hang[0], numbered(hang[1], names), numbered(hang[2], names))


def random_net(rng, size):
    """A net that fits, sound or not: hangs and splices of about so many tips, cords between them at random."""
    hangs = [random_hang(rng, rng.randint(1, size)) for turn in range(rng.randint(1, 2))]
    return net_at_random(rng, hangs, [random_hang(rng, rng.randint(1, 2)) for turn in range(rng.choice([0, 0, 1, 2]))])


def random_spliced_net(rng, most):
    """Likewise, of up to so many splices, with few hangs in the rack or none: ways round are often there."""
    hangs = [random_hang(rng, rng.randint(1, 4)) for turn in range(rng.randint(0, 2))]
    net = net_at_random(rng, hangs, [random_hang(rng, rng.randint(1, 4)) for turn in range(rng.randint(0, most))])
    return Net(net.rack, net.splices, rng.choice([0, 0, 1, 7]))


def net_at_random(rng, hangs, spliced):
    """The hangs in the rack, and tips more where cords ask for them; each of the others spliced with its mirror."""
    pairs = [(hang, mirrored(hang)) for hang in spliced]
    met = [tip for hang in hangs + [side for pair in pairs for side in pair] for tip in tips(hang)]
    for dye in ("a", "b"):
        more = met.count(light(dye, 0)) - met.count(dark(dye, 0))
        bare = [dark(dye, 0)] * more + [light(dye, 0)] * -more
        hangs.extend(bare)
        met.extend(bare)
    numbers = {}
    first = 0
    for dye in ("a", "b"):
        count = met.count(light(dye, 0))
        for tip in (light, dark):
            numbers[tip(dye, 0)] = rng.sample(range(first, first + count), count)
        first += count
    rng.shuffle(hangs)

    def named(hang):
        if hang[0] in ("light", "dark"):
            return hang[:2] + (numbers[hang].pop(),)
        return (hang[0], named(hang[1]), named(hang[2]))
    return Net([named(hang) for hang in hangs], [(named(one), named(other)) for one, other in pairs])


def trees(row):
    """Each hang that has just these tips, from left to right."""
    if len(row) == 1:
        return [row[0]]
    hangs = []
    for place in range(1, len(row)):
        for left, right in itertools.product(trees(row[:place]), trees(row[place:])):
            hangs.extend([fast(left, right), loose(left, right)])
    return hangs


def forests(row):
    """Each list of hangs that has just these tips, from left to right."""
    if not row:
        return [[]]
    return [[hang] + rest for place in range(1, len(row) + 1)
            for hang in trees(row[:place]) for rest in forests(row[place:])]


def pairings(row):
    """Each list of splices that has just these tips, from left to right."""
    if not row:
        return [[]]
    return [[(one, other)] + rest for size in range(1, len(row) // 2 + 1)
            for one in trees(row[:size]) for other in trees(row[size:2 * size]) if mirrors(one, other)
            for rest in pairings(row[2 * size:])]


def small_nets():
    """Each net of one or two cords, of one dye or two, and many of three with a splice: some sound, some not."""
    nets = []
    for dyes in ("a", "aa", "ab", "aaa"):
        ends = [tip(dye, number) for number, dye in enumerate(dyes) for tip in (light, dark)]
        for row in itertools.permutations(ends):
            # Of three cords the light tips stand in order, and not all tips in the rack: else there are too many.
            if len(dyes) < 3 or [tip[2] for tip in row if tip[0] == "light"] == [0, 1, 2]:
                most = min(len(row), 4)
                nets.extend(Net(rack, pairs) for place in range(most, -1, -2)
                            for rack in forests(list(row[:place])) for pairs in pairings(list(row[place:])))
    return nets
