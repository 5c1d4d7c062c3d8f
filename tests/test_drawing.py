import random
import unittest

from netloft.drawing import drawn, drawn_out
from netloft.errors import NoPlace
from netloft.hangs import mirrored, tips
from netloft.nets import Net
from netloft.sound import sound
from netloft.texts import read, shown
from netloft.turns import tied
from samples import (
    LARGE, LONG_DYE, RefusalCase, cords, dark, fast, in_time, light, nested, numbered, parts, random_row,
    random_spliced_net, row_of_cords, small_nets, spliced_row, tree)


class DrawnTest(unittest.TestCase):
    def check(self, text, place, behind):
        net = read(text)
        answer = drawn(net, place)
        self.assertIsInstance(answer, Net)
        self.assertEqual(shown(answer), behind)
        self.assertEqual(parts(answer), parts(read(behind)))
        self.assertEqual(shown(net), text)

    def test_knots(self):
        self.check("a'1, b.2, a.3, b'4 | (a.1 * b'2) = (a'3 + b.4)", 0, "a'1, b.2, a.3, b'4 | a.1 = a'3 | b'2 = b.4")
        self.check("a'1, b.2, a.3, b'4 | (a'3 + b.4) = (a.1 * b'2)", 0, "a'1, b.2, a.3, b'4 | a'3 = a.1 | b.4 = b'2")
        self.check(" | (a.1 + a.2) = (a'2 * a'1)", 0, " | a.1 = a'2 | a.2 = a'1")
        self.check(" | (a.1 + a'1) = (a'2 * a.2) @ 3", 0, " | a.1 = a'2 | a'1 = a.2 @ 3")

    def test_knots_within_knots(self):
        self.check(
            " | ((a.1 + b.2) * (c.3 * d.4)) = ((a'1 * b'2) + (c'3 + d'4))", 0,
            " | (a.1 + b.2) = (a'1 * b'2) | (c.3 * d.4) = (c'3 + d'4)")
        self.check(
            " | (a.1 * (b.2 + c.3)) = (a'1 + (b'2 * c'3))", 0,
            " | a.1 = a'1 | (b.2 + c.3) = (b'2 * c'3)")
        self.check(
            " | ((a'1 * b'2) + c'3) = ((a.1 + b.2) * c.3)", 0,
            " | (a'1 * b'2) = (a.1 + b.2) | c'3 = c.3")

    def test_the_other_splices_stay_where_they_stood(self):
        text = " | z.9 = z'9 | (a.1 * b.2) = (a'1 + b'2) | y'8 = y.8"
        self.check(text, 1, " | z.9 = z'9 | a.1 = a'1 | b.2 = b'2 | y'8 = y.8")
        text = " | (a.1 * b.2) = (a'1 + b'2) | z.9 = z'9 | y'8 = y.8"
        self.check(text, 0, " | a.1 = a'1 | b.2 = b'2 | z.9 = z'9 | y'8 = y.8")
        text = " | z.9 = z'9 | y'8 = y.8 | (a.1 * b.2) = (a'1 + b'2)"
        self.check(text, 2, " | z.9 = z'9 | y'8 = y.8 | a.1 = a'1 | b.2 = b'2")
        text = "x'3, x.4 | (a.1 * b.2) = (a'1 + b'2) | x.3 = x'4 | (c.5 + c.6) = (c'5 * c'6)"
        self.check(text, 0, "x'3, x.4 | a.1 = a'1 | b.2 = b'2 | x.3 = x'4 | (c.5 + c.6) = (c'5 * c'6)")
        self.check(text, 1, "x'3, x.3 | (a.1 * b.2) = (a'1 + b'2) | (c.5 + c.6) = (c'5 * c'6)")
        self.check(text, 2, "x'3, x.4 | (a.1 * b.2) = (a'1 + b'2) | x.3 = x'4 | c.5 = c'5 | c.6 = c'6")

    def test_tips_of_two_cords_either_way_round(self):
        self.check("a'1, a.2 | a.1 = a'2", 0, "a'1, a.1")
        self.check("a'1, a.2 | a'2 = a.1", 0, "a'1, a.1")
        self.check("a'2, a.1 | a.2 = a'1", 0, "a'1, a.1")
        self.check("a'2, a.1 | a'1 = a.2", 0, "a'1, a.1")
        self.check("a.2, a'1 | a'2 = a.1", 0, "a.1, a'1")

    def test_the_lesser_number_is_told_by_its_worth(self):
        self.check("a'9, a.10 | a.9 = a'10", 0, "a'9, a.9")
        self.check("a'10, a.9 | a.10 = a'9", 0, "a'9, a.9")
        self.check("a'0, a.1 | a.0 = a'1", 0, "a'0, a.0")
        self.check("a'7, a.0 | a.7 = a'0", 0, "a'0, a.0")
        text = f"{LONG_DYE}'{LARGE}, {LONG_DYE}.{LARGE - 1} | {LONG_DYE}.{LARGE} = {LONG_DYE}'{LARGE - 1}"
        self.check(text, 0, f"{LONG_DYE}'{LARGE - 1}, {LONG_DYE}.{LARGE - 1}")

    def test_the_tips_that_are_left_stand_within_knots(self):
        self.check("((a'1 * b.5) + a.2), b'5 | a.1 = a'2", 0, "((a'1 * b.5) + a.1), b'5")
        self.check("(b.5 + (b'5 * a'4)), a.2 | a.4 = a'2", 0, "(b.5 + (b'5 * a'2)), a.2")
        self.check("a.4, (b.5 + (a'2 * b'5)) | a.2 = a'4", 0, "a.2, (b.5 + (a'2 * b'5))")

    def test_the_tips_that_are_left_stand_in_other_splices(self):
        self.check("a'1, a.3 | a.1 = a'2 | a.2 = a'3", 0, "a'1, a.3 | a.1 = a'3")
        self.check("a'1, a.3 | a.1 = a'2 | a.2 = a'3", 1, "a'1, a.2 | a.1 = a'2")
        self.check("a'3, a.1 | a.3 = a'2 | a.2 = a'1", 0, "a'2, a.1 | a.2 = a'1")
        self.check("a'3, a.1 | a.3 = a'2 | a.2 = a'1", 1, "a'3, a.1 | a.3 = a'1")
        self.check("a'1, a.4 | a.1 = a'3 | a.3 = a'2 | a.2 = a'4", 1, "a'1, a.4 | a.1 = a'2 | a.2 = a'4")

    def test_the_tips_that_are_left_stand_within_knots_of_other_splices(self):
        self.check(
            "a'1, b'5, a.6, b.7 | (a.1 * b.5) = (a'2 + b'7) | a.2 = a'6", 1,
            "a'1, b'5, a.2, b.7 | (a.1 * b.5) = (a'2 + b'7)")
        self.check(
            "b'5, a.9, b.7, a'3 | a.3 = a'9 | (b.5 * b'8) = (b'7 + b.8)", 0,
            "b'5, a.3, b.7, a'3 | (b.5 * b'8) = (b'7 + b.8)")
        self.check(
            "b'5, b.7 | (b.5 * a'3) = (b'7 + a.9) | a.3 = a'9", 1,
            "b'5, b.7 | (b.5 * a'3) = (b'7 + a.3)")
        self.check(
            "b'5, b.7 | a.9 = a'3 | (b.5 * a'9) = (b'7 + a.3)", 0,
            "b'5, b.7 | (b.5 * a'3) = (b'7 + a.3)")

    def test_both_tips_that_are_left_stand_in_one_splice(self):
        self.check(" | a.1 = a'2 | a'1 = a.2", 0, " | a'1 = a.1")
        self.check(" | a.1 = a'2 | a'1 = a.2", 1, " | a.1 = a'1")
        self.check(" | a.2 = a'1 | a'2 = a.1 @ 4", 0, " | a'1 = a.1 @ 4")

    def test_other_cords_keep_their_numbers(self):
        self.check("a'1, a.2, a.3, a'3, b.4, b'4 | a.1 = a'2", 0, "a'1, a.1, a.3, a'3, b.4, b'4")
        self.check("a.0, a'5, a.7, a'0 | a.5 = a'7", 0, "a.0, a'5, a.5, a'0")

    def test_the_two_tips_of_one_cord(self):
        self.check(" | a.1 = a'1", 0, " @ 1")
        self.check(" | a'1 = a.1", 0, " @ 1")
        self.check(" | a.1 = a'1 @ 1", 0, " @ 2")
        self.check(" | a.0 = a'0 @ 99", 0, " @ 100")
        self.check("b.2, b'2 | a.1 = a'1 | c'3 = c.3", 0, "b.2, b'2 | c'3 = c.3 @ 1")
        self.check("b.2, b'2 | a.1 = a'1 | c'3 = c.3", 1, "b.2, b'2 | a.1 = a'1 @ 1")
        self.check("b.2, b'3 | a.1 = a'1 | b'2 = b.3", 0, "b.2, b'3 | b'2 = b.3 @ 1")

    def test_rings_stay_where_tips_are_of_two_cords(self):
        self.check("a'1, a.2 | a.1 = a'2 @ 5", 0, "a'1, a.1 @ 5")

    def test_like_dyes_in_other_knots(self):
        hang = tree(fast, [light("a", number) for number in range(5)])
        net = Net(cords("b", [7]), [(hang, mirrored(hang))])
        answer = drawn(net, 0)
        self.assertEqual(answer.splices, [(hang[1], mirrored(hang[1])), (hang[2], mirrored(hang[2]))])
        self.assertEqual((answer.rack, answer.rings), (net.rack, 0))

    def test_nothing_is_changed_or_shared(self):
        for text in ("b.3, b'3 | (a.1 * a.2) = (a'1 + a'2) @ 1", "a'1, a.2 | a.1 = a'2", "b.3, b'3 | a.1 = a'1"):
            net = read(text)
            answer = drawn(net, 0)
            self.assertIsNot(answer, net)
            kept = parts(drawn(net, 0))
            net.rack.clear()
            net.splices.clear()
            self.assertEqual(parts(answer), kept)
            net = read(text)
            answer = drawn(net, 0)
            answer.rack.append(light("z", 9))
            answer.splices.append((light("z", 9), dark("z", 9)))
            self.assertEqual(shown(net), text)


class NoPlaceTest(RefusalCase):
    def refuse(self, text, *places):
        net = read(text)
        for place in places:
            with self.subTest(text=text, place=place):
                self.assert_refused(NoPlace, drawn, net, place)
        self.assertEqual(shown(net), text)

    def test_a_net_without_splices(self):
        self.refuse("", -1, 0, 1)
        self.refuse("a.1, a'1", -2, -1, 0, 1, 2)
        self.refuse(" @ 3", -1, 0, 2, 3)

    def test_below_nought_and_beyond(self):
        self.refuse(" | a.1 = a'1", -2, -1, 1, 2, LARGE, -LARGE)
        self.refuse("a'1, a.2, b.3, b'3 | a.1 = a'2", -1, 1, 2, 3)
        self.refuse(" | (a.1 * a.2) = (a'1 + a'2)", -1, 1)
        self.refuse(" | a.1 = a'1 | a.2 = a'2 | a.3 = a'3", -4, -3, -2, -1, 3, 4)

    def test_behind_the_last_drawing(self):
        self.assert_refused(NoPlace, drawn, drawn(read(" | a.1 = a'1"), 0), 0)


class DrawnOutTest(unittest.TestCase):
    def check(self, text, behind):
        net = read(text)
        answer = drawn_out(net)
        self.assertIsInstance(answer, Net)
        self.assertEqual(shown(answer), behind)
        self.assertEqual(answer.splices, [])
        self.assertEqual(shown(net), text)

    def test_without_splices(self):
        for text in ("", "a.1, a'1", "(a.5 * b.2), (a'5 + b'2) @ 3", " @ 1"):
            self.check(text, text)

    def test_a_net_without_splices_is_not_handed_back(self):
        net = read("a.1, a'1")
        answer = drawn_out(net)
        self.assertIsNot(answer, net)
        answer.rack.clear()
        answer.splices.append((light("a", 1), dark("a", 1)))
        self.assertEqual(shown(net), "a.1, a'1")

    def test_tips_and_knots(self):
        self.check("a'3, a.2 | a.3 = a'2", "a'2, a.2")
        self.check("a'5, a.3 | a.5 = a'4 | a.4 = a'3", "a'3, a.3")
        self.check("a'1, b.2, a.3, b'4 | (a.1 * b'2) = (a'3 + b.4)", "a'1, b.2, a.1, b'2")
        self.check(
            "((a'1 + b'2) * c'3), (a.4 + (b.5 * c.6)) | ((a.1 * b.2) + c.3) = ((a'4 + b'5) * c'6)",
            "((a'1 + b'2) * c'3), (a.1 + (b.2 * c.3))")

    def test_ways_round_become_rings(self):
        self.check(" | a.1 = a'1", " @ 1")
        self.check(" | a.1 = a'2 | a'1 = a.2", " @ 1")
        self.check(" | a.1 = a'1 | a.2 = a'2 @ 5", " @ 7")
        self.check(" | (a.1 * a'1) = (a'2 + a.2)", " @ 1")
        self.check(" | (a.1 * a.2) = (a'1 + a'2)", " @ 2")
        self.check(" | (a.1 * a.2) = (a'2 + a'1)", " @ 1")
        self.check("b.4, b'7 | b'4 = b.7 | a.1 = a'2 | a.2 = a'3 | a.3 = a'1", "b.4, b'4 @ 1")

    def ends_of(self, net):
        if not net.splices:
            return [net]
        return [end for place in range(len(net.splices)) for end in self.ends_of(drawn(net, place))]

    def test_whichever_splice_is_drawn_first_for_small_nets(self):
        for net in small_nets():
            before = parts(Net(net.rack, net.splices, net.rings))
            expected = parts(drawn_out(net))
            self.assertEqual(expected[1], [])
            for end in self.ends_of(net):
                self.assertEqual(parts(end), expected)
            self.assertEqual(parts(net), before)

    def test_whichever_splice_is_drawn_first_for_nets_at_random(self):
        rng = random.Random(51)
        round_ones = 0
        for turn in range(300):
            net = random_spliced_net(rng, 6)
            before = shown(net)
            expected = drawn_out(net)
            self.assertEqual(shown(net), before)
            round_ones += expected.rings > net.rings
            for again in range(4):
                left = net
                while left.splices:
                    left = drawn(left, rng.randrange(len(left.splices)))
                self.assertEqual(parts(left), parts(expected))
        self.assertGreater(round_ones, 100)

    def test_numbers_count_only_by_their_order(self):
        rng = random.Random(52)
        for turn in range(100):
            net = random_spliced_net(rng, 4)
            far = Net([renumbered_far(hang) for hang in net.rack],
                      [(renumbered_far(one), renumbered_far(other)) for one, other in net.splices], net.rings)
            self.assertEqual(drawn_out(far).rack, [renumbered_far(hang) for hang in drawn_out(net).rack])


def renumbered_far(hang):
    if hang[0] in ("light", "dark"):
        return hang[:2] + (hang[2] * 10 ** 20 + 7,)
    return (hang[0], renumbered_far(hang[1]), renumbered_far(hang[2]))


class SoundStaysTest(unittest.TestCase):
    def check(self, net):
        self.assertTrue(sound(net))
        for place in range(len(net.splices)):
            self.assertTrue(sound(drawn(net, place)))
        self.assertTrue(sound(drawn_out(net)))

    def test_small_nets(self):
        spliced = 0
        for net in small_nets():
            if sound(net):
                spliced += len(net.splices) > 0
                self.check(net)
        self.assertGreater(spliced, 500)

    def test_nets_at_random(self):
        rng = random.Random(53)
        for turn in range(150):
            row = rng.choice([spliced_row, random_numbered_row])(rng, rng.randint(1, 8))[0]
            net = tied(row)
            self.check(net)
            while net.splices:
                net = drawn(net, rng.randrange(len(net.splices)))
                self.assertTrue(sound(net))

    def test_knots_within_knots(self):
        net = read(
            "((a'1 + b'2) * c'3), (a.4 + (b.5 * c.6)) | ((a.1 * b.2) + c.3) = ((a'4 + b'5) * c'6)")
        self.assertFalse(sound(net))
        net = read(
            "((a'1 + b'2) * c'3), ((a.4 * b.5) + c.6) | ((a.1 * b.2) + c.3) = ((a'4 + b'5) * c'6)")
        while net.splices:
            self.check(net)
            net = drawn(net, len(net.splices) - 1)


def random_numbered_row(rng, size):
    return random_row(rng, rng.sample(range(1000), size))


class InTimeTest(unittest.TestCase):
    def test_a_long_row_of_spliced_cords(self):
        for size in (200, 300):
            for order in (range(size), range(size - 1, -1, -1)):
                net = row_of_cords(list(order))
                with in_time(10):
                    answer = drawn_out(net)
                self.assertEqual(parts(answer), ([light("a", 0), dark("a", 0)], [], 0))
                with in_time(10):
                    self.assertEqual(len(drawn(net, size // 2).splices), size - 2)

    def test_many_ways_round(self):
        pairs = [(light("a", number), dark("a", number)) for number in range(200)]
        with in_time(10):
            self.assertEqual(parts(drawn_out(Net([], pairs))), ([], [], 200))
        pairs = [(light("a", number), dark("a", (number + 1) % 200)) for number in range(200)]
        with in_time(10):
            self.assertEqual(parts(drawn_out(Net([], pairs, LARGE))), ([], [], LARGE + 1))

    def test_large_spliced_knots(self):
        for hang in (tree(fast, cords("a", range(50))), nested(60, True), nested(60, False)):
            one = numbered(hang, iter(range(200)))
            other = numbered(hang, iter(range(500, 700)))
            net = Net([mirrored(one), other], [(one, mirrored(other))])
            with in_time(10):
                self.assertEqual(parts(drawn_out(net)), ([mirrored(one), one], [], 0))
            with in_time(10):
                self.assertEqual(len(drawn(net, 0).splices), 2)
            closed = Net([], [(one, mirrored(one))])
            with in_time(10):
                self.assertEqual(parts(drawn_out(closed)), ([], [], len(tips(one))))
