import random
import unittest

from netloft.errors import NoMirror, NoTurn, Unsound
from netloft.hangs import mirrored, renamed, tips
from netloft.nets import Net
from netloft.sound import fault, sound
from netloft.texts import read, shown
from netloft.turns import tied, turns_of
from samples import (
    LARGE, LONG_DYE, RefusalCase, chain_net, cords, dark, fast, in_time, light, loose, nested, parts, random_net,
    random_row, round_net, spliced_row, straight_turns, tree)

A = ("cord", "a", 1)
B = ("cord", "b", 2)
OTHER_A = ("cord", "a", 3)


class TiedTest(unittest.TestCase):
    def check(self, row, text):
        net = tied(row)
        self.assertIsInstance(net, Net)
        self.assertEqual(shown(net), text)
        self.assertIs(sound(net), True)

    def test_cord(self):
        self.check([A], "a.1, a'1")
        self.check([("cord", LONG_DYE, LARGE)], f"{LONG_DYE}.{LARGE}, {LONG_DYE}'{LARGE}")
        self.check([("cord", "light", 0)], "light.0, light'0")

    def test_loose(self):
        self.check([A, ("loose", 0, 1)], "(a.1 + a'1)")
        self.check([A, ("loose", 1, 0)], "(a'1 + a.1)")
        self.check([A, B, ("fast", 0, 0), ("loose", 0, 1)], "(a.1 * b.2), (a'1 + b'2)")
        self.check([A, B, ("fast", 0, 0), ("loose", 1, 0)], "(a.1 * b.2), (b'2 + a'1)")
        self.check([A, B, ("fast", 0, 0), ("loose", 2, 0)], "b'2, ((a.1 * b.2) + a'1)")
        self.check([A, B, ("fast", 0, 0), ("loose", 0, 2), ("loose", 1, 0)], "((a'1 + (a.1 * b.2)) + b'2)")

    def test_fast(self):
        self.check([A, B, ("fast", 0, 0)], "a'1, b'2, (a.1 * b.2)")
        self.check([A, B, ("fast", 1, 0)], "a.1, b'2, (a'1 * b.2)")
        self.check([A, B, ("fast", 0, 1)], "a'1, b.2, (a.1 * b'2)")
        self.check([B, A, ("fast", 0, 1)], "b'2, a.1, (b.2 * a'1)")
        self.check([A, B, OTHER_A, ("fast", 0, 0), ("fast", 1, 2)], "a.1, b'2, a'3, (a'1 * (b.2 * a.3))")
        self.check([A, B, ("fast", 0, 0), OTHER_A, ("fast", 2, 1)], "a'1, b'2, a.3, ((a.1 * b.2) * a'3)")

    def test_splice(self):
        self.check([A, OTHER_A, ("splice", 0, 1)], "a'1, a.3 | a.1 = a'3")
        self.check([A, OTHER_A, ("splice", 1, 0)], "a.1, a'3 | a'1 = a.3")
        row = straight_turns(fast(light("a", 0), dark("b", 0)), 10)
        row = row + straight_turns(loose(dark("a", 0), light("b", 0)), 4)
        self.check(row + [("splice", 0, 0)], "(a'10 + b.11), (a.4 * b'5) | (a.10 * b'11) = (a'4 + b.5)")
        self.check(row + [("splice", 1, 1)], "(a.10 * b'11), (a'4 + b.5) | (a'10 + b.11) = (a.4 * b'5)")

    def test_the_splices_of_two_nets_that_become_one(self):
        one = [("cord", "a", 1), ("cord", "a", 2), ("splice", 0, 1)]
        other = [("cord", "a", 3), ("cord", "a", 4), ("splice", 0, 1)]
        self.check(one + other + [("fast", 0, 1)], "a.2, a'3, (a'1 * a.4) | a.1 = a'2 | a.3 = a'4")
        self.check(other + one + [("fast", 0, 1)], "a.4, a'1, (a'3 * a.2) | a.3 = a'4 | a.1 = a'2")
        self.check(one + other + [("splice", 0, 1)], "a.2, a'3 | a.1 = a'2 | a.3 = a'4 | a'1 = a.4")
        self.check(one + [("loose", 0, 1)], "(a'1 + a.2) | a.1 = a'2")
        self.check(one + [("order", [1, 0])], "a.2, a'1 | a.1 = a'2")

    def test_order(self):
        self.check([A, ("order", [0, 1])], "a.1, a'1")
        self.check([A, ("order", [1, 0])], "a'1, a.1")
        self.check([A, B, ("fast", 0, 0), ("order", [2, 0, 1])], "(a.1 * b.2), a'1, b'2")
        self.check([A, B, ("fast", 0, 0), ("order", [1, 2, 0])], "b'2, (a.1 * b.2), a'1")
        self.check([A, B, ("order", [1, 0]), ("fast", 0, 0)], "a'1, b.2, (a.1 * b'2)")
        self.check([A, ("loose", 0, 1), ("order", [0])], "(a.1 + a'1)")

    def test_turns_on_the_top_net_leave_those_beneath(self):
        self.check([A, B, ("loose", 0, 1), ("fast", 0, 0)], "a'1, (a.1 * (b.2 + b'2))")
        self.check([A, B, ("order", [1, 0]), ("fast", 1, 0)], "a.1, b.2, (a'1 * b'2)")

    def test_rows_at_random(self):
        rng = random.Random(31)
        for turn in range(400):
            row, rack, splices = spliced_row(rng, rng.randint(1, 12))
            net = tied(row)
            self.assertEqual(parts(net), (rack, splices, 0))
            self.assertIs(sound(net), True)

    def test_two_thousand_turns_and_two_hundred_cords(self):
        rng = random.Random(32)
        row, rack, splices = random_row(rng, list(range(200)))
        while len(row) < 2000:
            places = rng.sample(range(len(rack)), len(rack))
            row.append(("order", places))
            rack = [rack[place] for place in places]
        self.assertEqual(len(row), 2000)
        with in_time(20):
            self.assertEqual(parts(tied(row)), (rack, splices, 0))

    def test_wide_racks_and_two_thousand_turns(self):
        row = [("cord", "a", 0)]
        for number in range(1, 200):
            row.extend([("cord", "a", number), ("fast", 0, 0)])
        rack = tied(row).rack
        row.extend([("order", list(range(len(rack)))[::-1])] * (2000 - len(row)))
        with in_time(20):
            self.assertEqual(tied(row).rack, rack if (2000 - 399) % 2 == 0 else rack[::-1])


class RefusedTest(RefusalCase):
    def no_turn(self, *row):
        self.assert_refused(NoTurn, tied, list(row))

    def test_no_turns_and_more_than_one_net(self):
        self.no_turn()
        self.no_turn(A, B)
        self.no_turn(A, B, OTHER_A)
        self.no_turn(A, B, OTHER_A, ("fast", 0, 0))

    def test_too_few_nets(self):
        self.no_turn(("loose", 0, 1))
        self.no_turn(("order", []))
        self.no_turn(("order", [0, 1]))
        self.no_turn(("fast", 0, 0))
        self.no_turn(("splice", 0, 1))
        self.no_turn(A, ("fast", 0, 0))
        self.no_turn(A, ("fast", 0, 1))
        self.no_turn(A, ("splice", 0, 1))
        self.no_turn(("fast", 0, 0), A, B, ("fast", 0, 0))
        self.no_turn(("loose", 0, 1), A)
        self.no_turn(A, B, ("fast", 0, 0), ("splice", 0, 1))

    def test_places_that_are_not_there(self):
        for i, j in [(2, 0), (0, 2), (-1, 0), (0, -1), (-2, 0), (1, -2), (100, 0), (0, 100), (2, 2), (-1, -1)]:
            self.no_turn(A, ("loose", i, j))
            self.no_turn(A, B, ("fast", i, j))
            self.no_turn(A, OTHER_A, ("splice", i, j))

    def test_places_are_those_of_each_nets_own_rack(self):
        one = [A, ("loose", 0, 1)]
        self.no_turn(*one, B, ("fast", 1, 0))
        self.no_turn(B, *one, ("fast", 0, 1))
        self.no_turn(*one, ("loose", 0, 1))
        self.assertEqual(len(tied(one + [B, ("fast", 0, 1)]).rack), 2)
        self.assertEqual(len(tied([B] + one + [("fast", 1, 0)]).rack), 2)

    def test_like_places_in_loose(self):
        self.no_turn(A, ("loose", 0, 0))
        self.no_turn(A, ("loose", 1, 1))
        self.no_turn(A, ("loose", 0, 1), ("loose", 0, 0))

    def test_lists_that_have_not_each_place_once(self):
        for places in ([], [0], [1], [0, 0], [1, 1], [0, 2], [1, 2], [-1, 0], [0, -1], [-2, -1], [0, 1, 0], [0, 1, 2],
                       [0, 1, 1], [0, 1, -1]):
            self.no_turn(A, ("order", places))
        self.no_turn(A, ("loose", 0, 1), ("order", []))
        self.no_turn(A, ("loose", 0, 1), ("order", [1]))
        self.no_turn(A, ("loose", 0, 1), ("order", [0, 0]))

    def test_a_number_in_common(self):
        self.no_turn(A, A, ("fast", 0, 0))
        self.no_turn(A, A, ("splice", 0, 1))
        self.no_turn(A, ("cord", "b", 1), ("fast", 0, 0))
        self.no_turn(A, B, ("fast", 0, 0), ("cord", "c", 2), ("fast", 0, 0))
        self.no_turn(("cord", "c", 2), A, B, ("fast", 0, 0), ("fast", 0, 0))
        spliced = [A, OTHER_A, ("splice", 0, 1)]
        self.no_turn(*spliced, ("cord", "b", 3), ("fast", 0, 0))
        self.no_turn(*spliced, ("cord", "a", 1), ("splice", 0, 0))

    def test_a_number_that_stands_in_splices_alone_is_in_common_too(self):
        inner = [A, OTHER_A, ("splice", 0, 1), ("cord", "a", 5), ("splice", 0, 0)]
        self.assertEqual(shown(tied(inner)), "a.3, a'5 | a.1 = a'3 | a'1 = a.5")
        self.no_turn(*inner, ("cord", "b", 1), ("fast", 0, 0))
        self.no_turn(("cord", "b", 1), *inner, ("fast", 0, 0))

    def test_hangs_that_do_not_mirror(self):
        for row in (
            [A, B, ("splice", 0, 1)],
            [A, OTHER_A, ("splice", 0, 0)],
            [A, OTHER_A, ("splice", 1, 1)],
            [A, ("loose", 0, 1), B, ("splice", 0, 0)],
            [A, B, ("loose", 0, 1), ("splice", 0, 0)],
            [A, ("loose", 0, 1), OTHER_A, ("loose", 0, 1), ("splice", 0, 0)],
            [A, ("loose", 0, 1), OTHER_A, ("loose", 1, 0), ("splice", 0, 0)],
        ):
            self.assert_refused(NoMirror, tied, row)

    def test_a_splice_that_is_wrong_in_something_else_too(self):
        self.no_turn(A, ("splice", 0, 0))
        self.no_turn(A, A, ("splice", 0, 0))
        self.no_turn(A, ("cord", "b", 1), ("splice", 0, 1))
        self.no_turn(A, B, ("splice", 0, 2))
        self.no_turn(A, B, ("splice", -1, 1))
        self.no_turn(A, B, ("splice", 2, 0))

    def test_the_first_turn_that_is_refused_tells(self):
        wrong_splice = [A, B, ("splice", 0, 1)]
        self.assert_refused(NoMirror, tied, wrong_splice + [("loose", 0, 0)])
        self.assert_refused(NoMirror, tied, wrong_splice + [("fast", 9, 9), ("order", [])])
        self.assert_refused(NoMirror, tied, [("cord", "c", 7)] + wrong_splice)
        # Two nets with a number in common are refused where they become one, not where they lie on the pile.
        self.assert_refused(NoMirror, tied, [A] + wrong_splice)
        self.no_turn(A, ("loose", 0, 0), B, OTHER_A, ("splice", 0, 1))
        self.no_turn(("order", []), *wrong_splice)


class TurnsOfTest(RefusalCase):
    def check(self, net):
        """The row that is told ties this very net, but for the splices' order; gives back how long the row is."""
        row = turns_of(net)
        self.assertIsInstance(row, list)
        again = tied(row)
        self.assertEqual(again.rack, net.rack)
        self.assertEqual(sorted(again.splices), sorted(net.splices))
        self.assertEqual(again.rings, 0)
        self.assertLessEqual(len(row), 2000)
        self.assertIsNone(fault(net))
        for turn in row:
            self.assertIsInstance(turn, tuple)
            self.assertIn(turn[0], ("cord", "loose", "fast", "splice", "order"))
            self.assertEqual(len(turn), 2 if turn[0] == "order" else 3)
        return len(row)

    def refuse(self, *texts):
        for text in texts:
            with self.subTest(text):
                self.assert_refused(Unsound, turns_of, read(text))
                self.assertIsNotNone(fault(read(text)))

    def test_small_nets_told_one_by_one(self):
        for text in (
            "a.1, a'1", "a'1, a.1", "(a.1 + a'1)", "(a'1 + a.1)", "(a.1 * b.2), a'1, b'2", "b'2, (a.1 * b.2), a'1",
            "(b.2 * a.1), (a'1 + b'2)", "(a.1 * b.2), (b'2 + a'1)", "((a.1 + a'1) * (b.2 + b'2))",
            "a.1, a'2 | a'1 = a.2", "a.1, a'2 | a.2 = a'1", "a'2, a.1 | a.2 = a'1", "a.1, a'3 | a'2 = a.3 | a'1 = a.2",
            "(a'1 * b'2), (a.3 + b.4) | (a.1 + b.2) = (a'3 * b'4)",
            "(a.3 + b.4), (a'1 * b'2) | (a'3 * b'4) = (a.1 + b.2)",
        ):
            with self.subTest(text):
                self.check(read(text))

    def test_nets_that_rows_have_tied(self):
        rng = random.Random(41)
        for turn in range(400):
            row, rack, splices = spliced_row(rng, rng.randint(1, 10))
            self.check(tied(row))
            places = rng.sample(range(len(rack)), len(rack))
            self.check(Net([rack[place] for place in places], rng.sample(splices, len(splices))))

    def test_nets_at_random_have_a_row_or_a_fault(self):
        rng = random.Random(42)
        seen = {True: 0, False: 0}
        for turn in range(2000):
            net = random_net(rng, 4)
            seen[sound(net)] += 1
            if fault(net) is None:
                self.check(net)
            else:
                self.assert_refused(Unsound, turns_of, net)
        self.assertGreater(min(seen.values()), 200)

    def test_unsound_nets(self):
        self.refuse("", " @ 1", "a.1, a'1 @ 1", "(a.1 + a'1) @ 2", "a.1, a'1, b.2, b'2", "(a.1 * a'1)", " | a.1 = a'1",
                    "a.1, a'1 | b.2 = b'2", "(a.1 + b.2), (a'1 + b'2)", "(a.1 * b.2), (a'1 * b'2)",
                    "((a.1 + b.2) * a'1), b'2", "(a.1 + b.2), a'1, b'2", "a.1, a'2 | a'1 = a.2 @ 1",
                    " | a.1 = a'2 | a'1 = a.2", "(a.1 + a'1), (b.2 + b'2)")

    def test_a_hundred_loose_knots(self):
        with in_time(20):
            for backward in (True, False):
                self.check(chain_net(100, backward))
            self.assert_refused(Unsound, turns_of, round_net([0, 1] * 50))
            self.assert_refused(Unsound, turns_of, Net(chain_net(100, True).rack, [], 1))

    def test_two_hundred_cords(self):
        lights = [light("a", number) for number in range(200)]
        with in_time(30):
            for knot in (fast, loose):
                hang = tree(knot, lights)
                self.check(Net([hang, mirrored(hang)]))
                self.check(Net([mirrored(hang), hang]))
                self.check(Net([loose(mirrored(hang), hang)]))
            chain = [(light("a", number), dark("a", number + 1)) for number in range(199)]
            for splices in (chain, chain[::-1]):
                self.check(Net([dark("a", 0), light("a", 199)], splices))
            self.assert_refused(Unsound, turns_of, Net(cords("a", range(200))))
            rng = random.Random(43)
            for turn in range(10):
                row, rack, splices = random_row(rng, list(range(200)))
                self.check(Net(rack, splices))

    def test_two_hundred_cords_in_large_splices(self):
        hang = tree(loose, [light("a", number) for number in range(100)])
        second = renamed(mirrored(hang), {number: number + 100 for number in range(100)})
        with in_time(20):
            self.check(Net([mirrored(hang), mirrored(second)], [(hang, second)]))
            self.check(Net([mirrored(second), mirrored(hang)], [(second, hang)]))

    def test_sixty_knots_within_one_another(self):
        for leftward in (True, False):
            hang = nested(60, leftward)
            self.check(Net([hang, mirrored(hang)]))
            other = renamed(hang, {number: number + 100 for number in range(61)})
            self.check(Net([hang, mirrored(other)], [(mirrored(hang), other)]))
            self.assert_refused(Unsound, turns_of, Net([hang] + tips(mirrored(hang))))

    def test_edges_of_dyes_and_numbers(self):
        self.check(Net([dark(LONG_DYE, LARGE), light(LONG_DYE, LARGE)]))
        self.check(Net([loose(dark("fast", 0), light("fast", 0))]))


class HandedInTest(unittest.TestCase):
    def test_rows_are_as_they_were(self):
        row = [A, B, ("fast", 0, 0), ("order", [2, 0, 1]), ("loose", 0, 1)]
        before = repr(row)
        net = tied(row)
        self.assertEqual(repr(row), before)
        row[3][1].clear()
        row.clear()
        self.assertEqual(shown(net), "b'2, ((a.1 * b.2) + a'1)")

    def test_refused_rows_are_as_they_were(self):
        row = [A, B, ("fast", 0, 0), ("order", [2, 1, 1])]
        before = repr(row)
        with self.assertRaises(NoTurn):
            tied(row)
        self.assertEqual(repr(row), before)

    def test_nets_are_as_they_were_and_rows_are_lists_of_their_own(self):
        net = read("b'2, (a.1 * b.2), a'3 | a.3 = a'1")
        before = repr(parts(net))
        row = turns_of(net)
        copy = repr(row)
        for turn in row:
            if turn[0] == "order":
                turn[1].clear()
        row.clear()
        self.assertEqual(repr(turns_of(net)), copy)
        self.assertEqual(repr(parts(net)), before)
