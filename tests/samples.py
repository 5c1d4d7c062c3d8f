"""Short names for hangs, the edges of point 1, and nets and rows of turns, for the tests."""

import contextlib
import signal
import unittest

from netloft.errors import BadText, NetError, NoMirror, NoPlace, NoTurn, Unfit, Unsound
from netloft.hangs import mirrored, mirrors, tips
from netloft.nets import Net

LARGE = 10 ** 30 - 1
LONG_DYE = "abcdefghijklmnopqrst"


def light(dye, number):
    return ("light", dye, number)


def dark(dye, number):
    return ("dark", dye, number)


def fast(left, right):
    return ("fast", left, right)


def loose(left, right):
    return ("loose", left, right)


def nested(depth, leftward):
    """A hang of so many knots within one another, each third one loose; cords 0 to depth from within."""
    hang = light("red", 0)
    for number in range(1, depth + 1):
        tip = dark("blue", number)
        knot = fast if number % 3 else loose
        hang = knot(hang, tip) if leftward else knot(tip, hang)
    return hang


def cords(dye, numbers):
    rack = []
    for number in numbers:
        rack.extend([light(dye, number), dark(dye, number)])
    return rack


def tree(knot, hangs):
    """All hangs in one, with as few knots within one another as can be."""
    if len(hangs) == 1:
        return hangs[0]
    half = len(hangs) // 2
    return knot(tree(knot, hangs[:half]), tree(knot, hangs[half:]))


def parts(net):
    return (net.rack, net.splices, net.rings)


class RefusalCase(unittest.TestCase):
    def assert_refused(self, error, call, *given):
        with self.assertRaises(error) as caught:
            call(*given)
        self.assertIsInstance(caught.exception, NetError)
        self.assertIsInstance(caught.exception, ValueError)
        for other in (BadText, Unfit, NoMirror, NoPlace, NoTurn, Unsound):
            self.assertEqual(isinstance(caught.exception, other), other is error)


@contextlib.contextmanager
def in_time(seconds):
    """Fails a call that goes through too much, where it would else not end."""
    def stop(signum, frame):
        raise TimeoutError(f"not ended in {seconds} seconds")
    before = signal.signal(signal.SIGALRM, stop)
    signal.alarm(seconds)
    try:
        yield
    finally:
        signal.alarm(0)
        signal.signal(signal.SIGALRM, before)


def round_net(bad):
    """A net that holds by every choice but this one, which may be of a hundred loose knots and be any choice.

    By the bad side of each knot a way goes to the knot ahead of it, the first one's to the last one's: all bad
    sides together close a way round. Each other side goes to the rack's last hang.
    """
    size = len(bad)
    rack = []
    for place, side in enumerate(bad):
        onward, home = light("a", place), light("b", size + place)
        knot = loose(home, onward) if side else loose(onward, home)
        rack.append(fast(knot, dark("a", (place + 1) % size)))
    return Net(rack + [tree(fast, [dark("b", size + place) for place in range(size)])])


def chain_net(size, backward):
    """A sound net: the first knot's parts both go to the rack's last hang, each other one's also to the one before."""
    rack = [loose(light("a", place), light("b", size + place)) for place in range(size)]
    rack = [fast(rack[place], dark("a", place + 1)) for place in range(size - 1)] + rack[-1:]
    if backward:
        rack.reverse()
    return Net(rack + [tree(fast, [dark("a", 0)] + [dark("b", size + place) for place in range(size)])])


def straight_turns(hang, first):
    """Turns for a net with the rack hang, mirror; its cords numbered from first on, from left to right."""
    if hang[0] == "light":
        return [("cord", hang[1], first)]
    if hang[0] == "dark":
        return [("cord", hang[1], first), ("order", [1, 0])]
    row = straight_turns(hang[1], first) + straight_turns(hang[2], first + len(tips(hang[1])))
    if hang[0] == "fast":
        return row + [("fast", 0, 0), ("loose", 0, 1)]
    return row + [("fast", 1, 1), ("loose", 0, 1), ("order", [1, 0])]


def random_hang(rng, size):
    """A hang of so many tips, all of number nought."""
    if size == 1:
        return rng.choice([light, dark])(rng.choice(["a", "b"]), 0)
    left = rng.randrange(1, size)
    return rng.choice([fast, loose])(random_hang(rng, left), random_hang(rng, size - left))


def random_row(rng, free):
    """A row of turns that ties a net of cords with these numbers, and the rack and the splices of that net."""
    if len(free) == 1:
        dye = rng.choice(["a", "b"])
        return [("cord", dye, free[0])], [light(dye, free[0]), dark(dye, free[0])], []
    half = rng.randrange(1, len(free))
    one_row, one_rack, one_splices = random_row(rng, free[:half])
    other_row, other_rack, other_splices = random_row(rng, free[half:])
    row = one_row + other_row
    i = rng.randrange(len(one_rack))
    j = rng.randrange(len(other_rack))
    rack = one_rack[:i] + one_rack[i + 1:] + other_rack[:j] + other_rack[j + 1:]
    splices = one_splices + other_splices
    if mirrors(one_rack[i], other_rack[j]):
        return changed(rng, row + [("splice", i, j)], rack, splices + [(one_rack[i], other_rack[j])])
    return changed(rng, row + [("fast", i, j)], rack + [fast(one_rack[i], other_rack[j])], splices)


def changed(rng, row, rack, splices):
    """The same behind loose and order turns on the one net."""
    while len(rack) > 1 and rng.random() < 0.6:
        i, j = rng.sample(range(len(rack)), 2)
        row = row + [("loose", i, j)]
        rack = [rack[place] for place in range(len(rack)) if place not in (i, j)] + [loose(rack[i], rack[j])]
    if rng.random() < 0.4:
        places = rng.sample(range(len(rack)), len(rack))
        row = row + [("order", places)]
        rack = [rack[place] for place in places]
    return row, rack, splices


def spliced_row(rng, cords):
    """Like a random row, and then one of the hangs is spliced with its mirror in a straight net."""
    row, rack, splices = random_row(rng, rng.sample(range(cords), cords))
    place = rng.randrange(len(rack))
    hang = rack[place]
    first = 10 ** 20
    fresh = numbered(hang, iter(range(first, first + len(tips(hang)))))
    rest = rack[:place] + rack[place + 1:]
    if rng.random() < 0.5:
        row = row + straight_turns(hang, first) + [("splice", place, 1)]
        return row, rest + [fresh], splices + [(hang, mirrored(fresh))]
    row = straight_turns(hang, first) + row + [("splice", 1, place)]
    return row, [fresh] + rest, splices + [(mirrored(fresh), hang)]


def numbered(hang, names):
    if hang[0] in ("light", "dark"):
        return hang[:2] + (next(names),)
    return (hang[0], numbered(hang[1], names), numbered(hang[2], names))


def random_net(rng, size):
    """A net that fits, sound or not: hangs and splices of about so many tips, cords between them at random."""
    hangs = [random_hang(rng, rng.randint(1, size)) for turn in range(rng.randint(1, 2))]
    pairs = []
    for turn in range(rng.choice([0, 0, 1, 2])):
        hang = random_hang(rng, rng.randint(1, 2))
        pairs.append((hang, mirrored(hang)))
    met = [tip for hang in hangs + [side for pair in pairs for side in pair] for tip in tips(hang)]
    for dye in ("a", "b"):
        more = met.count(light(dye, 0)) - met.count(dark(dye, 0))
        bare = [dark(dye, 0)] * more + [light(dye, 0)] * -more
        hangs.extend(bare)
        met.extend(bare)
    numbers = {}
    first = 0
    for dye in ("a", "b"):
        count = met.count(light(dye, 0))
        for tip in (light, dark):
            numbers[tip(dye, 0)] = rng.sample(range(first, first + count), count)
        first += count
    rng.shuffle(hangs)

    def named(hang):
        if hang[0] in ("light", "dark"):
            return hang[:2] + (numbers[hang].pop(),)
        return (hang[0], named(hang[1]), named(hang[2]))
    return Net([named(hang) for hang in hangs], [(named(one), named(other)) for one, other in pairs])
