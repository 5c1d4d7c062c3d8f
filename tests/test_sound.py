import itertools
import random
import unittest

from netloft.hangs import mirrored, renamed
from netloft.nets import Net
from netloft.sound import fault, holds, loose_knots, sound
from netloft.texts import read
from samples import (
    LARGE, chain_net, cords, dark, fast, in_time, light, loose, nested, parts, random_net, random_row, round_net, tree)

# Holds by the right side of its loose knot alone: the left side closes a way round.
PICKY = fast(loose(light("a", 1), light("b", 2)), dark("a", 1))
EASY = loose(light("c", 3), dark("c", 3))


def choices(net):
    return [list(choice) for choice in itertools.product((0, 1), repeat=loose_knots(net))]


def faults(net):
    return [choice for choice in choices(net) if not holds(net, choice)]


def lines_by(net, choice):
    """All points, named by the way to them, and the lines between them, straight from point 9."""
    sides = iter(choice)
    points = []
    lines = []
    ends = {}

    def add(name, hang):
        points.append(name)
        if hang[0] in ("light", "dark"):
            ends.setdefault(hang[2], []).append(name)
            return
        if hang[0] == "fast":
            lines.extend([(name, name + "l"), (name, name + "r")])
        else:
            lines.append((name, name + ("l" if next(sides) == 0 else "r")))
        add(name + "l", hang[1])
        add(name + "r", hang[2])

    for place, hang in enumerate(net.rack):
        add(f"rack{place}", hang)
    for place, pair in enumerate(net.splices):
        add(f"first{place}", pair[0])
        add(f"second{place}", pair[1])
        lines.append((f"first{place}", f"second{place}"))
    lines.extend([tuple(names) for names in ends.values()])
    return points, lines


def holds_by_walking(net, choice):
    points, lines = lines_by(net, choice)
    if not points or net.rings or len(lines) != len(points) - 1:
        return False
    beside = {point: [] for point in points}
    for one, other in lines:
        beside[one].append(other)
        beside[other].append(one)
    met = {points[0]}
    waiting = [points[0]]
    while waiting:
        for point in beside[waiting.pop()]:
            if point not in met:
                met.add(point)
                waiting.append(point)
    # With one line less than points, all in one piece means that there is no way round.
    return len(met) == len(points)


def with_kinds_changed(rng, hang, share):
    if hang[0] in ("light", "dark"):
        return hang
    kind = rng.choice(["fast", "loose"]) if rng.random() < share else hang[0]
    return (kind, with_kinds_changed(rng, hang[1], share), with_kinds_changed(rng, hang[2], share))


class LooseKnotsTest(unittest.TestCase):
    def test_in_rack_and_splices_and_within_one_another(self):
        for text, many in [
            ("", 0), (" @ 3", 0), ("a.1, a'1", 0), ("(a.1 * a'1)", 0), ("(a.1 + a'1)", 1), ("(a.1 + a'1) @ 2", 1),
            ("((a.1 + a'1) + (b.2 * (c.3 + c'3))), b'2", 3), (" | (a.1 + b.2) = (a'1 * b'2)", 1),
            ("(c.3 + c'3) | (a.1 + (b.2 + d.4)) = (a'1 * (b'2 * d'4)) | (e.5 * f.6) = (e'5 + f'6)", 4),
        ]:
            self.assertEqual(loose_knots(read(text)), many)

    def test_sixty_knots_within_one_another(self):
        for leftward in (True, False):
            hang = nested(60, leftward)
            self.assertEqual(loose_knots(Net([hang, mirrored(hang)])), 60)


class HoldsTest(unittest.TestCase):
    def check(self, text, answers):
        net = read(text)
        self.assertEqual([holds(net, choice) for choice in choices(net)], answers)

    def test_answers_are_true_or_false(self):
        self.assertIs(holds(Net(cords("a", [1])), []), True)
        self.assertIs(holds(Net([]), []), False)
        self.assertIs(holds(Net([EASY]), [1]), True)
        self.assertIs(holds(Net([PICKY, dark("b", 2)]), [0]), False)

    def test_without_loose_knots(self):
        self.check("a.1, a'1", [True])
        self.check("a.1, a'1, b.2, b'2", [False])
        self.check("(a.1 * a'1)", [False])
        self.check("(a.1 * b.2), a'1, b'2", [True])
        self.check("(a.1 * b.2), (a'1 * b'2)", [False])
        self.check("(a.1 * a'1), b.2, b'2", [False])
        self.check("((a.1 * b.2) * c'3), a'1, b'2, c.3", [True])

    def test_a_net_of_nothing_and_rings(self):
        self.check("", [False])
        self.check(" @ 1", [False])
        self.check("a.1, a'1 @ 1", [False])
        self.check("(a.1 + a'1) @ 7", [False, False])
        self.assertIs(holds(Net([EASY], [], LARGE), [0]), False)

    def test_lines_of_splices(self):
        self.check(" | a.1 = a'1", [False])
        self.check("a.1, a'1 | b.2 = b'2", [False])
        self.check("a.1, a'2 | a'1 = a.2", [True])
        self.check(" | a.1 = a'2 | a'1 = a.2", [False])
        self.check("(a'1 * b'2), (a.3 + b.4) | (a.1 + b.2) = (a'3 * b'4)", [True] * 4)
        self.check("a'1, b'2, a.3, b.4 | (a.1 * b.2) = (a'3 + b'4)", [False, False])
        self.check("a'1, b'2, (a.3 * b.4) | (a.1 * b.2) = (a'3 + b'4)", [True, True])

    def test_loose_knots(self):
        self.check("(a.1 + a'1)", [True, True])
        self.check("(a.1 + b.2), a'1, b'2", [False, False])
        self.check("(a.1 * b.2), (a'1 + b'2)", [True, True])
        self.check("(a.1 + b.2), (a'1 + b'2)", [False] * 4)
        self.check("((a.1 + b.2) * a'1), b'2", [False, True])
        self.check("((b.2 + a.1) * a'1), b'2", [True, False])

    def test_a_knot_is_counted_ahead_of_its_parts(self):
        self.assertEqual(faults(Net([loose(PICKY, dark("b", 2))])), [[0, 0], [1, 0]])
        self.assertEqual(faults(Net([loose(dark("b", 2), PICKY)])), [[0, 0], [1, 0]])

    def test_left_parts_are_counted_ahead_of_right_parts(self):
        self.assertEqual(faults(Net([fast(PICKY, EASY), dark("b", 2)])), [[0, 0], [0, 1]])
        self.assertEqual(faults(Net([fast(EASY, PICKY), dark("b", 2)])), [[0, 0], [1, 0]])

    def test_the_racks_hangs_are_counted_in_order(self):
        hang = loose(light("d", 4), light("e", 5))
        rest = [fast(dark("d", 4), fast(dark("e", 5), dark("b", 2)))]
        self.assertEqual(faults(Net([PICKY, hang] + rest)), [[0, 0], [0, 1]])
        self.assertEqual(faults(Net([hang, PICKY] + rest)), [[0, 0], [1, 0]])

    def test_splices_are_counted_behind_the_rack_in_order_and_first_hangs_ahead_of_second_ones(self):
        second = renamed(mirrored(PICKY), {1: 11, 2: 12})
        easy = (loose(light("d", 4), light("e", 5)), fast(dark("d", 6), dark("e", 7)))
        rest = fast(light("b", 12), fast(dark("d", 4), dark("e", 5)))
        rack = [loose(dark("b", 2), light("d", 6)), rest, light("e", 7)]
        for splices, place in [
            ([(PICKY, second), easy], 1), ([(second, PICKY), easy], 2),
            ([easy, (PICKY, second)], 2), ([easy, (second, PICKY)], 3),
        ]:
            net = Net(rack, splices)
            self.assertEqual(loose_knots(net), 4)
            self.assertEqual(faults(net), [choice for choice in choices(net) if choice[place] == 0])

    def test_against_a_walk_over_all_lines(self):
        rng = random.Random(11)
        seen = {True: 0, False: 0}
        for turn in range(2500):
            net = random_net(rng, 4)
            for choice in choices(net)[:64]:
                answer = holds(net, choice)
                self.assertIs(answer, holds_by_walking(net, choice), parts(net))
                seen[answer] += 1
        self.assertGreater(min(seen.values()), 500)


class FaultTest(unittest.TestCase):
    def check(self, net):
        """A fault is told just where some choice is one; gives back whether the net is sound."""
        bad = faults(net)
        told = fault(net)
        if bad:
            self.assertIsInstance(told, list)
            self.assertIn(told, bad, parts(net))
        else:
            self.assertIsNone(told, parts(net))
        self.assertIs(sound(net), not bad)
        self.assertEqual(fault(net) is None, told is None)
        return not bad

    def test_small_nets_told_one_by_one(self):
        for text, answer in [
            ("", False), (" @ 1", False), ("a.1, a'1", True), ("a.1, a'1 @ 1", False), ("a.1, a'1, b.2, b'2", False),
            ("(a.1 * a'1)", False), ("(a.1 + a'1)", True), ("(a.1 + a'1) @ 1", False), (" | a.1 = a'1", False),
            ("a.1, a'2 | a'1 = a.2", True), ("(a.1 * b.2), (a'1 + b'2)", True), ("(a.1 + b.2), (a'1 + b'2)", False),
            ("((a.1 + b.2) * a'1), b'2", False), ("((b.2 + a.1) * a'1), b'2", False),
            ("((a.1 + a'1) * b.2), b'2", True),
            ("(a.1 + (b.2 * (a'1 + c.3))), b'2, c'3", False),
            ("(a'1 * b'2), (a.3 + b.4) | (a.1 + b.2) = (a'3 * b'4)", True),
            ("(a.1 + a'1), (b.2 + b'2)", False), ("((a.1 + a'1) * (b.2 + b'2))", True),
            ("((a.1 + a'1) + (b.2 + b'2))", False),
        ]:
            with self.subTest(text):
                self.assertIs(self.check(read(text)), answer)

    def test_nothing_and_rings(self):
        self.assertEqual(fault(Net([])), [])
        self.assertEqual(fault(Net([], [], 3)), [])
        self.assertEqual(len(fault(Net([EASY], [], 1))), 1)
        self.assertIs(sound(Net([EASY], [], LARGE)), False)

    def test_the_one_fault_among_all_choices(self):
        for size in (1, 2, 3, 5):
            for bad in itertools.product((0, 1), repeat=size):
                net = round_net(list(bad))
                self.assertEqual(faults(net), [list(bad)])
                self.assertEqual(fault(net), list(bad))

    def test_small_nets_at_random(self):
        rng = random.Random(12)
        seen = {True: 0, False: 0}
        for turn in range(2500):
            net = random_net(rng, 4)
            if loose_knots(net) <= 6:
                seen[self.check(net)] += 1
        self.assertGreater(min(seen.values()), 200)

    def test_sound_nets_with_some_knots_changed(self):
        rng = random.Random(13)
        seen = {True: 0, False: 0}
        for turn in range(800):
            row, rack, splices = random_row(rng, list(range(rng.randint(2, 6))))
            net = Net([with_kinds_changed(rng, hang, 0.2) for hang in rack], splices)
            if loose_knots(net) <= 8:
                seen[self.check(net)] += 1
        self.assertGreater(min(seen.values()), 100)

    def test_sound_nets_with_a_ring(self):
        rng = random.Random(14)
        for turn in range(50):
            row, rack, splices = random_row(rng, list(range(4)))
            self.assertIsNone(fault(Net(rack, splices)))
            self.assertEqual(fault(Net(rack, splices, 1)) is None, False)
            self.assertIs(holds(Net(rack, splices, 1), fault(Net(rack, splices, 1))), False)


class LargeTest(unittest.TestCase):
    def check_fault(self, net):
        with in_time(20):
            told = fault(net)
        self.assertIsNotNone(told)
        self.assertEqual(len(told), loose_knots(net))
        self.assertEqual(sorted(set(told) - {0, 1}), [])
        self.assertIs(holds(net, told), False)
        self.assertIs(holds_by_walking(net, told), False)
        self.assertIs(sound(net), False)

    def check_sound(self, net):
        with in_time(20):
            self.assertIsNone(fault(net))
            self.assertIs(sound(net), True)
        for choice in ([0] * loose_knots(net), [1] * loose_knots(net)):
            self.assertIs(holds(net, choice), True)

    def test_one_fault_of_a_hundred_loose_knots(self):
        rng = random.Random(21)
        for bad in ([0] * 100, [1] * 100, [rng.randrange(2) for turn in range(100)]):
            net = round_net(bad)
            with in_time(20):
                self.assertEqual(fault(net), bad)
                self.assertEqual(fault(net), bad)
            self.check_fault(net)
            for place in (0, 50, 99):
                other = list(bad)
                other[place] = 1 - other[place]
                self.assertIs(holds(net, other), True)

    def test_chains_of_a_hundred_loose_knots(self):
        for backward in (True, False):
            net = chain_net(100, backward)
            self.check_sound(net)
            self.check_fault(Net(net.rack, net.splices, 1))
            self.check_fault(Net(net.rack + cords("z", [999])))

    def test_two_hundred_cords_straight_and_crossed(self):
        rng = random.Random(22)
        lights = [light("a", number) for number in range(200)]
        names = dict(enumerate(rng.sample(range(200), 200)))
        for knot in (fast, loose):
            hang = tree(knot, lights)
            self.check_sound(Net([hang, mirrored(hang)]))
            # Where all knots of a hang are of one kind, the order of its cords does not count.
            self.check_sound(Net([hang, renamed(mirrored(hang), names)]))
            self.check_fault(Net([hang, tree(knot, [mirrored(tip) for tip in lights])]))
        hang = with_kinds_changed(rng, tree(fast, lights), 1)
        self.check_sound(Net([hang, mirrored(hang)]))
        self.check_fault(Net([hang, renamed(mirrored(hang), names)]))

    def test_two_hundred_cords_in_splices(self):
        hang = tree(loose, [light("a", number) for number in range(100)])
        second = renamed(mirrored(hang), {number: number + 100 for number in range(100)})
        self.check_sound(Net([mirrored(hang), mirrored(second)], [(hang, second)]))
        self.check_fault(Net([], [(hang, second), (mirrored(hang), mirrored(second))]))
        chain = [(light("a", number), dark("a", number + 1)) for number in range(199)]
        self.check_sound(Net([dark("a", 0), light("a", 199)], chain))
        self.check_fault(Net([], chain + [(light("a", 199), dark("a", 0))]))

    def test_sixty_knots_within_one_another(self):
        for leftward in (True, False):
            hang = nested(60, leftward)
            self.check_sound(Net([hang, mirrored(hang)]))
            self.check_fault(Net([hang, renamed(mirrored(hang), {1: 60, 60: 1})]))
            self.check_fault(Net([], [(hang, mirrored(hang))]))

    def test_large_nets_with_some_knots_changed(self):
        rng = random.Random(23)
        for turn in range(20):
            row, rack, splices = random_row(rng, list(range(200)))
            self.check_sound(Net(rack, splices))
            net = Net([with_kinds_changed(rng, hang, 0.02) for hang in rack], splices)
            if net.rack != rack and not sound(net):
                self.check_fault(net)


class HandedInTest(unittest.TestCase):
    def test_nets_and_choices_are_as_they_were(self):
        for net in (round_net([0, 1, 0]), chain_net(3, True), read("(a.1 + a'1) | b.2 = b'2 @ 4"), Net([])):
            before = repr(parts(net))
            lists = net.rack, net.splices
            choice = [0] * loose_knots(net)
            holds(net, choice)
            fault(net)
            sound(net)
            self.assertEqual(repr(parts(net)), before)
            self.assertIs(net.rack, lists[0])
            self.assertIs(net.splices, lists[1])
            self.assertEqual(choice, [0] * len(choice))

    def test_a_fault_that_is_changed_leaves_the_next_one(self):
        net = round_net([0, 1, 0])
        told = fault(net)
        told.clear()
        self.assertEqual(fault(net), [0, 1, 0])
