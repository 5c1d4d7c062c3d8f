import random
import unittest

from netloft.drawing import drawn_out
from netloft.errors import NoPlace
from netloft.hangs import mirrored, tips
from netloft.nets import Net
from netloft.texts import read, shown
from netloft.ways import by_ways, way
from samples import (
    LARGE, LONG_DYE, RefusalCase, cords, dark, fast, in_time, light, nested, numbered, parts, random_spliced_net,
    row_of_cords, small_nets, tree)


def tip_of(text):
    dye, mark, number = text.partition("." if "." in text else "'")
    return ({".": "light", "'": "dark"}[mark], dye, int(number))


class WayTest(unittest.TestCase):
    def check(self, text, steps):
        net = read(text)
        expected = [tip_of(step) for step in steps.split()]
        answer = way(net, expected[0])
        self.assertIs(type(answer), list)
        self.assertEqual(answer, expected)
        self.assertEqual(way(net, expected[-1]), expected[::-1])
        self.assertEqual(shown(net), text)

    def test_one_cord_in_the_rack(self):
        self.check("a.1, a'1", "a.1 a'1")
        self.check("a'1, a.1 @ 4", "a.1 a'1")
        self.check("b.0, a.1, b'0, a'1 | c.2 = c'2", "b.0 b'0")
        self.check(f"{LONG_DYE}.{LARGE}, {LONG_DYE}'{LARGE}", f"{LONG_DYE}.{LARGE} {LONG_DYE}'{LARGE}")

    def test_one_cord_within_knots_of_the_rack(self):
        self.check("((a.1 * b.2) + a'1), b'2", "a.1 a'1")
        self.check("((a.1 * b.2) + a'1), b'2", "b.2 b'2")
        self.check("((a.1 * (b.2 + b'2)) + a'1)", "b.2 b'2")

    def test_over_one_splice(self):
        self.check("a'1, a.2 | a.1 = a'2", "a'1 a.1 a'2 a.2")
        self.check("a'1, a.2 | a'2 = a.1", "a'1 a.1 a'2 a.2")
        self.check("a'5, a.2 | a.5 = a'2", "a'5 a.5 a'2 a.2")
        self.check("(b.3 * (b'3 + a'1)), a.2 | a.1 = a'2", "a'1 a.1 a'2 a.2")
        self.check("(b.3 * (b'3 + a'1)), a.2 | a.1 = a'2", "b.3 b'3")

    def test_over_two_splices(self):
        self.check("a'1, a.3 | a.1 = a'2 | a.2 = a'3", "a'1 a.1 a'2 a.2 a'3 a.3")
        self.check("a'1, a.3 | a.2 = a'3 | a'2 = a.1", "a'1 a.1 a'2 a.2 a'3 a.3")
        self.check("a'3, a.2 | a.1 = a'2 | a.3 = a'1", "a'3 a.3 a'1 a.1 a'2 a.2")

    def test_the_same_place_in_the_other_hang_of_a_spliced_knot(self):
        text = "a'1, a'2, a.3, a.4 | (a.1 * a.2) = (a'3 + a'4)"
        self.check(text, "a'1 a.1 a'3 a.3")
        self.check(text, "a'2 a.2 a'4 a.4")
        text = "a'1, a'2, a.3, a.4 | (a'4 + a'3) = (a.1 * a.2)"
        self.check(text, "a'1 a.1 a'4 a.4")
        self.check(text, "a'2 a.2 a'3 a.3")
        text = "a'1, a'2, a'3, a.4, a.5, a.6 | ((a.3 + a.1) * a.2) = ((a'4 * a'5) + a'6)"
        self.check(text, "a'3 a.3 a'4 a.4")
        self.check(text, "a'1 a.1 a'5 a.5")
        self.check(text, "a'2 a.2 a'6 a.6")
        text = "a'1, a'2, a'3, a.4, a.5, a.6 | (a'4 * (a'5 + a'6)) = (a.3 + (a.1 * a.2))"
        self.check(text, "a'3 a.3 a'4 a.4")
        self.check(text, "a'1 a.1 a'5 a.5")
        self.check(text, "a'2 a.2 a'6 a.6")

    def test_more_than_once_over_one_splice(self):
        text = "a'1, a.3 | (a.1 * a.2) = (a'2 + a'3)"
        self.check(text, "a'1 a.1 a'2 a.2 a'3 a.3")
        text = "a'1, a.9 | (a.1 * (a'5 + a.4)) = (a'4 + (a.5 * a'9))"
        self.check(text, "a'1 a.1 a'4 a.4 a'9 a.9")

    def test_out_and_back_within_one_knot(self):
        self.check("a'1, a.2 | (a.1 * a'2) = (a'3 + a.3)", "a'1 a.1 a'3 a.3 a'2 a.2")
        self.check("a'4, a.2 | (a.4 + a'2) = (a'3 * a.3)", "a'4 a.4 a'3 a.3 a'2 a.2")

    def test_beside_ways_round(self):
        self.check("a'1, a.2 | a.4 = a'4 | a.1 = a'2 | a.5 = a'6 | a'5 = a.6", "a'1 a.1 a'2 a.2")

    def test_over_many_splices(self):
        for size in (10, 199):
            numbers = random.Random(61).sample(range(size), size)
            net = row_of_cords(numbers)
            steps = [tip for number in numbers for tip in (light("a", number), dark("a", number))]
            self.assertEqual(way(net, light("a", numbers[0])), steps)
            self.assertEqual(way(net, dark("a", numbers[-1])), steps[::-1])

    def test_nets_of_all_kinds(self):
        rng = random.Random(62)
        for net in small_nets() + [random_spliced_net(rng, 6) for turn in range(200)]:
            racked = [tip for hang in net.rack for tip in tips(hang)]
            for tip in racked:
                self.check_way(net, racked, way(net, tip), tip)

    def check_way(self, net, racked, steps, tip):
        self.assertEqual(steps[0], tip)
        self.assertIn(steps[-1], racked)
        self.assertEqual(len(steps), len(set(steps)))
        self.assertEqual([step for step in steps if step in racked], [steps[0], steps[-1]])
        self.assertEqual(steps[1::2], [mirrored(step) for step in steps[::2]])
        for one, other in zip(steps[1::2], steps[2::2]):
            self.assertTrue(any(stand_across(pair, one, other) for pair in net.splices))
        self.assertEqual(way(net, steps[-1]), steps[::-1])

    def test_the_list_is_its_own(self):
        net = read("a'1, a.2 | a.1 = a'2")
        way(net, dark("a", 1)).clear()
        self.assertEqual(len(way(net, dark("a", 1))), 4)
        self.assertEqual(shown(net), "a'1, a.2 | a.1 = a'2")


def stand_across(pair, one, other):
    both = list(zip(tips(pair[0]), tips(pair[1])))
    return (one, other) in both or (other, one) in both


class NoPlaceTest(RefusalCase):
    def refuse(self, text, *others):
        net = read(text)
        for other in others:
            with self.subTest(text=text, tip=other):
                self.assert_refused(NoPlace, way, net, tip_of(other))
        self.assertEqual(shown(net), text)

    def test_a_tip_of_a_splice(self):
        self.refuse("a'1, a.2 | a.1 = a'2", "a.1", "a'2")
        self.refuse("b.4, b'4 | (a.1 * b.3) = (a'1 + b'3)", "a.1", "a'1", "b.3", "b'3")
        self.refuse(" | a.1 = a'1", "a.1", "a'1")

    def test_a_cord_that_is_not_there(self):
        self.refuse("a.1, a'1", "a.2", "a'2", "a.0", f"a.{LARGE}", "b.2")
        self.refuse("", "a.0", "a'0")
        self.refuse(" @ 2", "a.0")

    def test_another_dye(self):
        self.refuse("a.1, a'1", "b.1", "b'1", "aa.1")
        self.refuse("a.1, a'1, b.2, b'2", "b.1", "a.2", "b'1", "a'2")
        self.refuse("((a.1 * b.2) + a'1), b'2", "b.1", "a'2")

    def test_the_other_kind(self):
        self.refuse("(b.3 * a'1), b'3, a.2 | a.1 = a'2", "a.1", "a'2")

    def test_each_tip_of_small_nets_that_is_not_in_the_rack(self):
        for net in small_nets():
            for pair in net.splices:
                for tip in tips(pair[0]) + tips(pair[1]):
                    with self.assertRaises(NoPlace):
                        way(net, tip)


class ByWaysTest(unittest.TestCase):
    def check(self, text, expected):
        net = read(text)
        answer = by_ways(net)
        self.assertIsInstance(answer, Net)
        self.assertEqual(shown(answer), expected)
        self.assertEqual(answer.splices, [])
        self.assertEqual(shown(net), text)

    def test_without_splices(self):
        for text in ("", "a.1, a'1", "(a.5 * b.2), (a'5 + b'2) @ 3", " @ 1"):
            self.check(text, text)

    def test_the_least_number_stands_anywhere_on_the_way(self):
        self.check("a'1, a.2 | a.1 = a'2", "a'1, a.1")
        self.check("a'2, a.1 | a.2 = a'1", "a'1, a.1")
        self.check("a'1, a.3 | a.1 = a'2 | a.2 = a'3", "a'1, a.1")
        self.check("a'3, a.2 | a.3 = a'1 | a.1 = a'2", "a'1, a.1")
        self.check("a'3, a.1 | a.3 = a'2 | a.2 = a'1", "a'1, a.1")
        self.check("a'10, a.9 | a.10 = a'9", "a'9, a.9")
        self.check("a'5, a.8 | (a.5 * a'8) = (a'0 + a.0)", "a'0, a.0")

    def test_numbers_within_knots(self):
        self.check("((a'7 * b.5) + a.2), b'5 | a.7 = a'2", "((a'2 * b.5) + a.2), b'5")
        self.check("(a'7 * b'1), (a.4 + b.9) | (a.7 + b.1) = (a'4 * b'9)", "(a'4 * b'1), (a.4 + b.1)")

    def test_cords_on_ways_round_give_the_rack_no_number(self):
        self.check("a'4, a.5 | a.4 = a'5 | a.1 = a'1", "a'4, a.4 @ 1")

    def test_a_ring_for_each_way_round(self):
        self.check(" | a.1 = a'1", " @ 1")
        self.check(" | a'1 = a.1 @ 2", " @ 3")
        self.check(" | a.1 = a'2 | a'1 = a.2", " @ 1")
        self.check(" | a.1 = a'2 | a.2 = a'1", " @ 1")
        self.check(" | a.1 = a'1 | a.2 = a'2", " @ 2")
        self.check(" | (a.1 * a'1) = (a'2 + a.2)", " @ 1")
        self.check(" | (a.1 * a.2) = (a'1 + a'2)", " @ 2")
        self.check(" | (a.1 * a.2) = (a'2 + a'1)", " @ 1")
        self.check(" | ((a.1 * a.2) + b.3) = ((a'2 + a'1) * b'3) | c.4 = c'5 | c.5 = c'6 | c.6 = c'4 @ 10", " @ 13")
        self.check("b.4, b'7 | b'4 = b.7 | a.1 = a'2 | a.2 = a'3 | a.3 = a'1", "b.4, b'4 @ 1")

    def test_ways_round_and_rings_at_the_bounds(self):
        pairs = [(light("a", number), dark("a", number)) for number in range(200)]
        with in_time(5):
            self.assertEqual(parts(by_ways(Net([], pairs, 5))), ([], [], 205))
        pairs = [(light("a", number), dark("a", (number + 1) % 200)) for number in range(200)]
        with in_time(5):
            self.assertEqual(parts(by_ways(Net([], pairs))), ([], [], 1))
        pairs = [(light("a", number), dark("a", number ^ 1)) for number in range(200)]
        with in_time(5):
            self.assertEqual(parts(by_ways(Net([], pairs))), ([], [], 100))

    def test_it_is_the_net_drawn_out_for_small_nets(self):
        for net in small_nets():
            for rings in (0, 3):
                given = Net(net.rack, net.splices, rings)
                self.assertEqual(parts(by_ways(given)), parts(drawn_out(given)))

    def test_it_is_the_net_drawn_out_for_nets_at_random(self):
        rng = random.Random(63)
        for turn in range(400):
            net = random_spliced_net(rng, rng.choice([3, 6, 20]))
            before = shown(net)
            answer = by_ways(net)
            self.assertEqual(parts(answer), parts(drawn_out(net)))
            self.assertEqual(shown(net), before)
            for hang, other in zip(net.rack, answer.rack):
                for tip, named in zip(tips(hang), tips(other)):
                    self.assertEqual(named, tip[:2] + (min(step[2] for step in way(net, tip)),))

    def test_nothing_is_shared(self):
        for text in ("a.1, a'1", "a'1, a.2 | a.1 = a'2"):
            net = read(text)
            answer = by_ways(net)
            answer.rack.clear()
            answer.splices.append((light("z", 9), dark("z", 9)))
            self.assertEqual(shown(net), text)


class InTimeTest(unittest.TestCase):
    def test_a_long_row_of_spliced_cords(self):
        for size in (200, 300):
            net = row_of_cords(list(range(size - 1, -1, -1)))
            with in_time(5):
                self.assertEqual(len(way(net, light("a", size - 1))), 2 * size)
            with in_time(5):
                self.assertEqual(parts(by_ways(net)), ([light("a", 0), dark("a", 0)], [], 0))

    def test_many_tips_in_the_rack(self):
        net = Net(cords("a", range(200)))
        with in_time(5):
            self.assertEqual(parts(by_ways(net)), parts(net))
        pairs = [(light("a", number), dark("a", number + 100)) for number in range(100)]
        rack = [tip for number in range(100) for tip in (dark("a", number), light("a", number + 100))]
        with in_time(5):
            self.assertEqual(by_ways(Net(rack, pairs)).rack, [(tip[0], "a", tip[2] % 100) for tip in rack])

    def test_large_spliced_knots(self):
        for hang in (tree(fast, cords("a", range(50))), nested(60, True), nested(60, False)):
            one = numbered(hang, iter(range(200)))
            other = numbered(hang, iter(range(500, 700)))
            net = Net([mirrored(one), other], [(one, mirrored(other))])
            with in_time(5):
                self.assertEqual(parts(by_ways(net)), ([mirrored(one), one], [], 0))
            for mine, theirs in zip(tips(one), tips(other)):
                self.assertEqual(way(net, theirs), [theirs, mirrored(theirs), mine, mirrored(mine)])
