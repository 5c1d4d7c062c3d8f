import random
import unittest

from netloft.drawing import drawn_out
from netloft.errors import NoMirror, NoPlace, Unfit
from netloft.hangs import mirrored, mirrors, tips
from netloft.joining import joined, straight
from netloft.nets import Net, alike, lifted, told
from netloft.sound import fault, holds, sound
from netloft.texts import read, shown
from netloft.turns import tied, turns_of
from netloft.ways import by_ways
from samples import (
    LARGE, LONG_DYE, RefusalCase, cords, dark, fast, in_time, light, loose, nested, parts, random_hang,
    random_spliced_net, row_of_cords, small_nets, tree)


class JoinedTest(unittest.TestCase):
    def check(self, one, i, other, j, text):
        first, second = read(one), read(other)
        answer = joined(first, i, second, j)
        self.assertIsInstance(answer, Net)
        self.assertEqual(shown(answer), text)
        self.assertEqual((shown(first), shown(second)), (one, other))

    def test_tips(self):
        self.check("a.1, a'1", 0, "a.2, a'2", 1, "a'1, a.2 | a.1 = a'2")
        self.check("a.1, a'1", 1, "a.2, a'2", 0, "a.1, a'2 | a'1 = a.2")
        self.check("a.2, a'2", 1, "a.1, a'1", 0, "a.2, a'1 | a'2 = a.1")
        self.check(
            f"{LONG_DYE}.{LARGE}, {LONG_DYE}'{LARGE}", 0, f"{LONG_DYE}.0, {LONG_DYE}'0", 1,
            f"{LONG_DYE}'{LARGE}, {LONG_DYE}.0 | {LONG_DYE}.{LARGE} = {LONG_DYE}'0")

    def test_knots(self):
        self.check("(a.1 * b.2), a'1, b'2", 0, "a.3, b.4, (a'3 + b'4)", 2,
                   "a'1, b'2, a.3, b.4 | (a.1 * b.2) = (a'3 + b'4)")
        self.check("a.3, b.4, (a'3 + b'4)", 2, "(a.1 * b.2), a'1, b'2", 0,
                   "a.3, b.4, a'1, b'2 | (a'3 + b'4) = (a.1 * b.2)")
        self.check("(a.1 * a'1)", 0, "(a'2 + a.2)", 0, " | (a.1 * a'1) = (a'2 + a.2)")

    def test_the_racks_in_order(self):
        self.check("b.1, a.2, b'1, a'2, c.3, c'3", 3, "d.4, d'4, a.5, a'5, e.6, e'6", 2,
                   "b.1, a.2, b'1, c.3, c'3, d.4, d'4, a'5, e.6, e'6 | a'2 = a.5")
        self.check("b.1, b'1, a.2, a'2", 3, "a.5, a'5, b.6, b'6", 0, "b.1, b'1, a.2, a'5, b.6, b'6 | a'2 = a.5")

    def test_splices_and_rings_in_order(self):
        one = "a.1, a'1 | b.2 = b'2 | c'3 = c.3 @ 2"
        other = "a.4, a'4 | d.5 = d'5 | e'6 = e.6 @ 30"
        self.check(one, 0, other, 1,
                   "a'1, a.4 | b.2 = b'2 | c'3 = c.3 | d.5 = d'5 | e'6 = e.6 | a.1 = a'4 @ 32")
        self.check(other, 0, one, 1,
                   "a'4, a.1 | d.5 = d'5 | e'6 = e.6 | b.2 = b'2 | c'3 = c.3 | a.4 = a'1 @ 32")
        self.check("a.1, a'1 @ 2", 0, "a.4, a'4", 1, "a'1, a.4 | a.1 = a'4 @ 2")
        self.check("a.1, a'1", 0, "a.4, a'4 @ 3", 1, "a'1, a.4 | a.1 = a'4 @ 3")

    def test_nothing_is_changed_or_shared(self):
        one, other = read("a.1, a'1 | b.2 = b'2"), read("a.4, a'4 | d.5 = d'5")
        answer = joined(one, 0, other, 1)
        text = shown(answer)
        answer.rack.clear()
        answer.splices.clear()
        self.assertEqual((shown(one), shown(other)), ("a.1, a'1 | b.2 = b'2", "a.4, a'4 | d.5 = d'5"))
        answer = joined(one, 0, other, 1)
        for net in (one, other):
            net.rack.clear()
            net.splices.clear()
        self.assertEqual(shown(answer), text)

    def test_in_time(self):
        hang = tree(fast, [light("a", 0)] * 100)
        for given in (hang, nested(60, True), nested(60, False)):
            with in_time(10):
                net = joined(straight(given, 0), 1, straight(given, 1000), 0)
                self.assertTrue(sound(net))
                self.assertEqual(parts(drawn_out(net)), parts(straight(given, 0)))
        with in_time(10):
            one, other = row_of_cords(list(range(100))), row_of_cords(list(range(100, 200)))
            net = joined(one, 1, other, 0)
            self.assertEqual(len(net.splices), 199)
            self.assertEqual(parts(drawn_out(net)), ([light("a", 0), dark("a", 0)], [], 0))


class RefusedTest(RefusalCase):
    def refuse(self, error, one, i, other, j):
        first, second = read(one), read(other)
        self.assert_refused(error, joined, first, i, second, j)
        self.assertEqual((shown(first), shown(second)), (one, other))

    def test_no_place(self):
        for place in (-3, -2, -1, 2, 3, LARGE, -LARGE):
            self.refuse(NoPlace, "a.1, a'1", place, "a.2, a'2", 0)
            self.refuse(NoPlace, "a.1, a'1", 0, "a.2, a'2", place)
            self.refuse(NoPlace, "a.1, a'1", place, "a.2, a'2", place)

    def test_each_rack_has_its_own_places(self):
        self.refuse(NoPlace, "a.1, a'1", 2, "b.2, b'2, a.3, a'3", 3)
        self.refuse(NoPlace, "b.2, b'2, a.3, a'3", 3, "a.1, a'1", 2)
        self.refuse(NoPlace, "a.1, a'1", 1, "(a.3 + a'3)", 1)

    def test_no_place_in_an_empty_rack(self):
        self.refuse(NoPlace, "", 0, "a.1, a'1", 0)
        self.refuse(NoPlace, "a.1, a'1", 0, "", 0)
        self.refuse(NoPlace, "", 0, "", 0)
        self.refuse(NoPlace, " | a.2 = a'2 @ 1", 0, "a.1, a'1", 0)

    def test_no_mirror(self):
        self.refuse(NoMirror, "a.1, a'1", 0, "a.2, a'2", 0)
        self.refuse(NoMirror, "a.1, a'1", 1, "a.2, a'2", 1)
        self.refuse(NoMirror, "a.1, a'1", 0, "b.2, b'2", 1)
        self.refuse(NoMirror, "(a.1 * b.2), (a'1 * b'2)", 0, "(a.3 * b.4), (a'3 * b'4)", 1)
        self.refuse(NoMirror, "(a.1 * b.2), a'1, b'2", 0, "(b'4 + a'3), a.3, b.4", 0)
        self.refuse(NoMirror, "(a.1 * b.2), a'1, b'2", 0, "a.3, a'3", 1)
        self.refuse(NoMirror, "(a.1 * b.2), a'1, b'2", 0, "a'3, (a.3 + b.4), b'4", 1)

    def test_a_number_in_common(self):
        self.refuse(Unfit, "a.1, a'1", 0, "a.1, a'1", 1)
        self.refuse(Unfit, "a.1, a'1, b.2, b'2", 0, "a.3, a'3, b.2, b'2", 1)
        self.refuse(Unfit, "a.1, a'1, b.2, b'2", 0, "a.3, a'3, c.2, c'2", 1)
        self.refuse(Unfit, "a.1, a'1 | b.2 = b'2", 0, "a.3, a'3, b.2, b'2", 1)
        self.refuse(Unfit, "a.1, a'1 | b.2 = b'2", 0, "a.3, a'3 | b.2 = b'2", 1)
        self.refuse(Unfit, "a.1, a'1", 0, "a.3, a'3 | c.1 = c'1", 1)
        self.refuse(Unfit, "a.1, a'1, b.3, b'3", 0, "a.3, a'3", 1)
        self.refuse(Unfit, "(a.1 * b.2), a'1, b'2", 0, "(a'3 + b'2), a.3, b.2", 0)

    def test_a_net_with_itself(self):
        net = read("a.1, a'1")
        self.assert_refused(Unfit, joined, net, 0, net, 1)
        self.assert_refused(NoMirror, joined, net, 0, net, 0)
        self.assert_refused(NoPlace, joined, net, 0, net, 2)

    def test_no_place_goes_first(self):
        # No mirror stands at the place that is there, and the number is in common too.
        self.refuse(NoPlace, "a.1, a'1", -1, "b.2, b'2", 0)
        self.refuse(NoPlace, "a.1, a'1", 0, "b.2, b'2", 2)
        self.refuse(NoPlace, "a.1, a'1", 2, "a.1, a'1", 0)
        self.refuse(NoPlace, "a.1, a'1", 0, "a.1, a'1", -1)
        self.refuse(NoPlace, "a.1, a'1", 0, "b.1, b'1", 2)
        self.refuse(NoPlace, "a.1, a'1", -2, "b.1, b'1", 0)

    def test_no_mirror_goes_ahead_of_a_number_in_common(self):
        self.refuse(NoMirror, "a.1, a'1", 0, "a.1, a'1", 0)
        self.refuse(NoMirror, "a.1, a'1", 1, "b.1, b'1", 0)
        self.refuse(NoMirror, "(a.1 * b.2), a'1, b'2", 0, "(a.1 * b.2), a'1, b'2", 0)


class SoundJoinedTest(unittest.TestCase):
    def pairs(self):
        """Two small nets, the one over cords 0, 1 .., the other lifted, and places whose hangs mirror one another."""
        nets = [net for net in small_nets() if net.rack]
        rng = random.Random(71)
        both = [net for net in nets if sound(net)], [net for net in nets if not sound(net)]
        for one_kind in both:
            for other_kind in both:
                met = 0
                while met < 300:
                    one, other = rng.choice(one_kind), lifted(rng.choice(other_kind), 10)
                    places = mirrored_places(one, other)
                    if places:
                        met += 1
                        yield (one, other) + rng.choice(places)

    def test_sound_just_where_both_are(self):
        counts = {True: 0, False: 0}
        for one, other, i, j in self.pairs():
            net = joined(one, i, other, j)
            expected = sound(one) and sound(other)
            counts[expected] += 1
            self.check(net, expected)
        self.assertEqual(counts, {True: 300, False: 900})

    def check(self, net, expected):
        self.assertIs(sound(net), expected)
        if expected:
            again = tied(turns_of(net))
            self.assertEqual(again.rack, net.rack)
            self.assertEqual(sorted(again.splices), sorted(net.splices))
            self.assertTrue(sound(drawn_out(net)))
        else:
            self.assertFalse(holds(net, fault(net)))

    def test_small_nets_gone_through(self):
        nets = [net for net in small_nets() if len(tips_in(net)) < 5 and parts(net) == parts(told(net))]
        ones = [lifted(net, 10) for net in nets if len(tips_in(net)) == 2]
        counts = {True: 0, False: 0}
        for one in ones:
            for other in nets:
                for i, j in mirrored_places(one, other):
                    for net in (joined(one, i, other, j), joined(other, j, one, i)):
                        expected = sound(one) and sound(other)
                        self.check(net, expected)
                        counts[expected] += 1
        self.assertGreater(min(counts.values()), 500)

    def test_rings(self):
        for rings in ((0, 1), (1, 0), (2, 3)):
            one, other = Net(cords("a", [1]), None, rings[0]), Net(cords("a", [2]), None, rings[1])
            net = joined(one, 0, other, 1)
            self.assertEqual(net.rings, sum(rings))
            self.assertFalse(sound(net))


def mirrored_places(one, other):
    return [(i, j) for i in range(len(one.rack)) for j in range(len(other.rack))
            if mirrors(one.rack[i], other.rack[j])]


def tips_in(net):
    hangs = net.rack + [hang for pair in net.splices for hang in pair]
    return [tip for hang in hangs for tip in tips(hang)]


class ThreeNetsTest(unittest.TestCase):
    def test_tips(self):
        nets = [Net(cords("a", [number])) for number in (2, 1, 3)]
        one_way = joined(joined(nets[0], 0, nets[1], 1), 1, nets[2], 1)
        other_way = joined(nets[0], 0, joined(nets[1], 0, nets[2], 1), 0)
        self.assertEqual(shown(drawn_out(one_way)), "a'1, a.1")
        self.assertEqual(parts(drawn_out(one_way)), parts(drawn_out(other_way)))

    def test_nets_at_random(self):
        rng = random.Random(72)
        met = 0
        while met < 150:
            met += self.join_three(rng, random_spliced_net(rng, 3))

    def join_three(self, rng, middle):
        """The middle net with a net at each of two of its hangs, first the one or first the other."""
        if len(middle.rack) < 2:
            return 0
        i, j = sorted(rng.sample(range(len(middle.rack)), 2))
        one = self.net_with(rng, mirrored(middle.rack[i]), 1000)
        other = self.net_with(rng, mirrored(middle.rack[j]), 2000)
        middle = lifted(middle, rng.choice([0, 1800, 5000]))
        one_place, other_place = len(one.rack) - 1, len(other.rack) - 1
        left = joined(one, one_place, middle, i)
        one_way = joined(left, one_place + j - 1, other, other_place)
        right = joined(middle, j, other, other_place)
        other_way = joined(one, one_place, right, i)
        self.assertEqual(parts(drawn_out(one_way)), parts(drawn_out(other_way)))
        self.assertEqual(parts(by_ways(one_way)), parts(by_ways(other_way)))
        return 1

    def net_with(self, rng, hang, first):
        """A net with this hang, or one like it, at its rack's end, and rings and splices of others beside it."""
        more = lifted(random_spliced_net(rng, 2), first + 500)
        line = straight(hang, first)
        return Net(more.rack + [line.rack[1], line.rack[0]], more.splices, more.rings)


class StraightTest(unittest.TestCase):
    def check(self, hang, first, text):
        net = straight(hang, first)
        self.assertIsInstance(net, Net)
        self.assertEqual(shown(net), text)
        self.assertEqual((net.splices, net.rings), ([], 0))
        self.assertTrue(sound(net))

    def test_tips(self):
        self.check(light("a", 7), 3, "a.3, a'3")
        self.check(dark("a", 7), 3, "a'3, a.3")
        self.check(light("a", 7), 0, "a.0, a'0")
        self.check(dark(LONG_DYE, 0), LARGE, f"{LONG_DYE}'{LARGE}, {LONG_DYE}.{LARGE}")

    def test_numbers_from_left_to_right(self):
        self.check(fast(light("a", 9), dark("b", 2)), 4, "(a.4 * b'5), (a'4 + b.5)")
        self.check(loose(light("a", 9), dark("b", 2)), 4, "(a.4 + b'5), (a'4 * b.5)")
        self.check(
            fast(loose(light("a", 9), dark("b", 2)), light("c", 3)), 10,
            "((a.10 + b'11) * c.12), ((a'10 * b.11) + c'12)")
        self.check(
            loose(light("a", 9), fast(dark("b", 2), loose(light("c", 3), dark("d", 1)))), 0,
            "(a.0 + (b'1 * (c.2 + d'3))), (a'0 * (b.1 + (c'2 * d.3)))")
        self.check(
            fast(fast(light("a", 9), dark("b", 2)), loose(light("c", 3), dark("d", 1))), 98,
            "((a.98 * b'99) * (c.100 + d'101)), ((a'98 + b.99) + (c'100 * d.101))")

    def test_a_cord_that_stands_twice(self):
        self.check(fast(light("a", 5), dark("a", 5)), 5, "(a.5 * a'6), (a'5 + a.6)")
        self.check(loose(light("a", 0), light("a", 0)), 0, "(a.0 + a.1), (a'0 * a'1)")
        self.check(
            loose(fast(light("a", 1), dark("a", 1)), light("b", 1)), 1, "((a.1 * a'2) + b.3), ((a'1 + a.2) * b'3)")

    def test_hangs_at_random(self):
        rng = random.Random(73)
        for turn in range(100):
            hang = random_hang(rng, rng.randint(1, 12))
            first = rng.choice([0, 1, 1000])
            net = straight(hang, first)
            self.assertEqual([tip[2] for tip in tips(net.rack[0])], list(range(first, first + len(tips(hang)))))
            self.assertEqual(net.rack[1], mirrored(net.rack[0]))
            self.assertTrue(mirrors(mirrored(hang), net.rack[0]))
            self.assertTrue(sound(net))
            self.assertEqual(tied(turns_of(net)).rack, net.rack)

    def test_in_time_at_the_bounds(self):
        flat = [tree(fast, cords("a", range(100))), tree(loose, cords("a", [1] * 90))]
        for hang in flat + [nested(60, True), nested(60, False)]:
            with in_time(10):
                net = straight(hang, 5)
                self.assertEqual([tip[2] for tip in tips(net.rack[1])], list(range(5, 5 + len(tips(hang)))))
                self.assertTrue(sound(net))


class StraightJoinedTest(unittest.TestCase):
    def check(self, net, place, first):
        before = shown(net)
        hang = net.rack[place]
        answer = drawn_out(joined(net, place, straight(mirrored(hang), first), 0))
        moved = Net(net.rack[:place] + net.rack[place + 1:] + [hang], net.splices, net.rings)
        self.assertTrue(alike(answer, drawn_out(moved)))
        if first > 1000:
            self.assertEqual(parts(answer), parts(drawn_out(moved)))
        self.assertEqual(shown(net), before)

    def test_written_nets(self):
        net = read("(a.1 * b.2), (a'1 + b'2)")
        answer = joined(net, 0, straight(mirrored(net.rack[0]), 10), 0)
        self.assertEqual(shown(answer), "(a'1 + b'2), (a.10 * b.11) | (a.1 * b.2) = (a'10 + b'11)")
        self.assertEqual(shown(drawn_out(answer)), "(a'1 + b'2), (a.1 * b.2)")
        net = read("(a.1 * a'1), b.2, b'2")
        answer = joined(net, 0, straight(mirrored(net.rack[0]), 10), 0)
        self.assertEqual(shown(answer), "b.2, b'2, (a.10 * a'11) | (a.1 * a'1) = (a'10 + a.11)")
        self.assertEqual(shown(drawn_out(answer)), "b.2, b'2, (a.1 * a'1)")
        net = read("a.7, a'7")
        self.assertEqual(shown(drawn_out(joined(net, 0, straight(dark("a", 0), 3), 0))), "a'3, a.3")

    def test_small_nets(self):
        for net in small_nets():
            for place in range(len(net.rack)):
                self.check(net, place, 50)

    def test_nets_at_random(self):
        rng = random.Random(74)
        for turn in range(300):
            net = random_spliced_net(rng, 5)
            for place in range(len(net.rack)):
                self.check(net, place, 10 ** 20)
            net = lifted(net, 500)
            for place in range(len(net.rack)):
                self.check(net, place, 0)
