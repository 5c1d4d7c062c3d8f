import random
import re
import unittest

from netloft.errors import BadText, NoMirror, Unfit
from netloft.hangs import mirrored, renamed
from netloft.nets import Net
from netloft.texts import read, shown, shown_hang
from samples import (
    LARGE, LONG_DYE, RefusalCase, cords, dark, fast, in_time, light, loose, nested, parts, random_net, tree)

RACK_NET = "(red.3 * (blue'1 + red'3)), blue.1"
SPLICE_NET = "a.1, b'2, a'5, b.6 | (a'1 + b.2) = (a.3 * b'4) | a'3 = a.5 | b.4 = b'6"
EACH_SIGN_NET = "(ab.10 * (c'0 + d.7)), (c.0 + ab'10), e.2, e'3, d'9 | (d'7 + e'2) = (d.8 * e.3) | d'8 = d.9 @ 12"
TEXTS = [
    "",
    " @ 1",
    " @ 10",
    "red.3, red'3",
    "red'0, red.0 @ 5",
    " | a.1 = a'1",
    " | a'1 = a.1 | b.2 = b'2 @ 3",
    "(red.3 * red'3)",
    "(red.3 + red'3)",
    RACK_NET,
    SPLICE_NET,
    EACH_SIGN_NET,
    "(a.1 * b.2), (a'1 + b'2) @ 999",
    "a.1, a'2 | a'1 = a.2",
    "((a.1 * a'1) + (b.2 * b'2)), (c.30 + (c'30 * (d.4 + d'4)))",
    "(a.1 + b.2), (a'3 * b'4) | (a'1 * b'2) = (a.3 + b.4)",
    f"z.0, z'0, {LONG_DYE}.{LARGE}, {LONG_DYE}'{LARGE} @ {LARGE}",
]


def is_written(text):
    """Whether some rack, splices and rings are written so, found out by putting T for ever larger hangs."""
    if "T" in text:
        return False
    text = re.sub(r"(?<![a-z])[a-z]{1,20}[.'](0|[1-9][0-9]{0,29})(?![0-9])", "T", text)
    shorter = re.sub(r"\(T [*+] T\)", "T", text)
    while shorter != text:
        text = shorter
        shorter = re.sub(r"\(T [*+] T\)", "T", text)
    return re.fullmatch(r"(T(, T)*)?( \| T = T)*( @ [1-9][0-9]{0,29})?", text) is not None


def changed_texts(text):
    signs = " \t\n().',*+|=@019azAZ_-"
    for place in range(len(text) + 1):
        yield text[:place]
        yield text[place:]
        yield text[:place] + text[place + 1:]
        yield text[:place] + text[place:place + 1] + text[place:]
        yield text[:place] + text[place + 1:place + 2] + text[place:place + 1] + text[place + 2:]
        for sign in signs:
            yield text[:place] + sign + text[place:]
            yield text[:place] + sign + text[place + 1:]


class ShownTest(unittest.TestCase):
    def test_tips(self):
        self.assertEqual(shown_hang(light("red", 3)), "red.3")
        self.assertEqual(shown_hang(dark("red", 3)), "red'3")
        self.assertEqual(shown_hang(light("a", 0)), "a.0")
        self.assertEqual(shown_hang(dark(LONG_DYE, LARGE)), f"{LONG_DYE}'{'9' * 30}")
        self.assertEqual(shown_hang(light("light", 10 ** 29)), "light.1" + "0" * 29)

    def test_knots(self):
        self.assertEqual(shown_hang(fast(light("a", 1), dark("b", 2))), "(a.1 * b'2)")
        self.assertEqual(shown_hang(loose(dark("a", 1), light("b", 2))), "(a'1 + b.2)")

    def test_knots_within_knots(self):
        hang = fast(loose(light("a", 1), dark("b", 2)), fast(dark("c", 3), loose(light("d", 4), light("e", 5))))
        self.assertEqual(shown_hang(hang), "((a.1 + b'2) * (c'3 * (d.4 + e.5)))")

    def test_sixty_knots_within_one_another(self):
        text = shown_hang(nested(60, True))
        self.assertTrue(text.startswith("(" * 60 + "red.0 * blue'1) * blue'2) + blue'3) * "))
        self.assertTrue(text.endswith(" * blue'59) + blue'60)"))
        text = shown_hang(nested(60, False))
        self.assertTrue(text.startswith("(blue'60 + (blue'59 * "))
        self.assertTrue(text.endswith("(blue'1 * red.0" + ")" * 60))

    def test_a_net_of_nothing(self):
        self.assertEqual(shown(Net([])), "")

    def test_rings_alone(self):
        self.assertEqual(shown(Net([], [], 1)), " @ 1")
        self.assertEqual(shown(Net([], [], LARGE)), " @ " + "9" * 30)

    def test_a_rack(self):
        self.assertEqual(shown(Net([loose(light("red", 3), dark("red", 3))])), "(red.3 + red'3)")
        self.assertEqual(shown(Net(cords("a", [4, 0]))), "a.4, a'4, a.0, a'0")

    def test_splices(self):
        pair = (light("a", 1), dark("a", 1))
        self.assertEqual(shown(Net([], [pair])), " | a.1 = a'1")
        self.assertEqual(shown(Net([], [pair[::-1]])), " | a'1 = a.1")
        self.assertEqual(shown(Net(cords("b", [2]), [pair], 2)), "b.2, b'2 | a.1 = a'1 @ 2")

    def test_all_at_once(self):
        hang = fast(light("a", 1), loose(dark("b", 2), light("c", 3)))
        other = renamed(mirrored(hang), {1: 4, 2: 5, 3: 6})
        net = Net([mirrored(hang), mirrored(other)], [(hang, other), (dark("d", 0), light("d", 0))], 7)
        self.assertEqual(
            shown(net),
            "(a'1 + (b.2 * c'3)), (a.4 * (b'5 + c.6))"
            " | (a.1 * (b'2 + c.3)) = (a'4 + (b.5 * c'6)) | d'0 = d.0 @ 7")


class ReadTest(unittest.TestCase):
    def test_parts(self):
        net = read("(a.1 + b.2), c.7, c'7, a'5, b'6"
                   " | (a'1 * b'2) = (a.3 + b.4) | (a'3 + b'4) = (a.5 * b.6) @ 12")
        self.assertIsInstance(net, Net)
        self.assertEqual(
            net.rack,
            [loose(light("a", 1), light("b", 2)), light("c", 7), dark("c", 7), dark("a", 5), dark("b", 6)])
        self.assertEqual(net.splices, [
            (fast(dark("a", 1), dark("b", 2)), loose(light("a", 3), light("b", 4))),
            (loose(dark("a", 3), dark("b", 4)), fast(light("a", 5), light("b", 6))),
        ])
        self.assertEqual(net.rings, 12)

    def test_a_net_of_nothing(self):
        self.assertEqual(parts(read("")), ([], [], 0))
        self.assertEqual(parts(read(" @ 4")), ([], [], 4))

    def test_what_is_read_is_shown_the_same(self):
        for text in TEXTS:
            with self.subTest(text):
                self.assertEqual(shown(read(text)), text)

    def test_what_is_shown_is_read_to_the_same_net(self):
        rng = random.Random(7)
        for turn in range(500):
            net = random_net(rng, 6)
            net = Net(net.rack, net.splices, rng.choice([0, 1, 10, LARGE]))
            self.assertEqual(parts(read(shown(net))), parts(net))

    def test_sixty_brackets_and_somewhat_more(self):
        for depth in (60, 61, 80):
            for leftward in (True, False):
                hang = nested(depth, leftward)
                for net in (Net([hang, mirrored(hang)]), Net([], [(mirrored(hang), hang)], 3)):
                    self.assertEqual(parts(read(shown(net))), parts(net))

    def test_two_hundred_cords_and_four_thousand_signs(self):
        hang = tree(loose, [light("red", number) for number in range(200)])
        dyed = tree(fast, [light("abcdefghijkl", 1000 + number) for number in range(100)])
        with in_time(20):
            for net in (Net([hang, mirrored(hang)]), Net(cords("a", range(200)), [], 1), Net([dyed, mirrored(dyed)])):
                text = shown(net)
                self.assertEqual(parts(read(text)), parts(net))
        self.assertGreater(len(text), 3900)


class BadTextTest(RefusalCase):
    def refuse(self, *texts):
        for text in texts:
            with self.subTest(text):
                self.assert_refused(BadText, read, text)

    def test_blanks(self):
        self.refuse(" ", "a.1,a'1", "a.1,  a'1", "a.1 , a'1", " a.1, a'1", "a.1, a'1 ", "(a.1* a'1)", "(a.1 *a'1)",
                    "(a.1  * a'1)", "( a.1 * a'1)", "(a.1 * a'1 )", "a .1, a'1", "a. 1, a'1", "a.1 2, a'1")
        self.refuse("| a.1 = a'1", "  | a.1 = a'1", " |a.1 = a'1", " | a.1= a'1", " | a.1 =a'1", " | a.1 = a'1 ",
                    " | a.1  = a'1", " |  a.1 = a'1")
        self.refuse("@ 1", " @1", "  @ 1", " @  1", " @ 1 ", " @ 1 2", "a.1, a'1@ 1", "a.1, a'1  @ 1")

    def test_tabs_and_line_ends(self):
        for text in TEXTS:
            self.refuse(text + "\n", text + "\t", "\n" + text, "\t" + text)
            for place in [place for place, sign in enumerate(text) if sign == " "]:
                for sign in "\t\n":
                    self.refuse(text[:place] + sign + text[place + 1:])

    def test_noughts_ahead(self):
        self.refuse("a.00, a'00", "a.01, a'01", "a.1, a'01", "a.0" + "1" * 29 + ", a'0" + "1" * 29, " @ 01", " @ 00")
        self.assertEqual(read("a.0, a'0").rack, cords("a", [0]))
        self.assertEqual(read("a.10, a'10").rack, cords("a", [10]))

    def test_thirty_and_thirty_one_figures(self):
        for figures in ("9" * 30, "1" + "0" * 29, "1" * 30):
            self.assertEqual(read(f"a.{figures}, a'{figures}").rack, cords("a", [int(figures)]))
            self.assertEqual(read(f" @ {figures}").rings, int(figures))
            self.refuse(f"a.{figures}0, a'{figures}0", f" @ {figures}0", f"a.1, a'1 @ {figures}0", f" @ 0{figures}")
            self.refuse(f"a.{figures}, a'{figures}0", f"a.1, a'1 | b.{figures}1 = b'{figures}1")
        self.refuse("a." + "1" * 3900 + ", a'1", " @ " + "9" * 3900)

    def test_rings_of_nought(self):
        self.refuse(" @ 0", "a.1, a'1 @ 0", " @ ", " @ -1", " @ +1", " @ 1_0", " @ a", " @ 1.0", " @ 1 @ 1")

    def test_dyes(self):
        dye = LONG_DYE
        self.assertEqual(read(f"{dye}.1, {dye}'1").rack, cords(dye, [1]))
        self.refuse(f"{dye}z.1, {dye}z'1", f"z{dye}.1, z{dye}'1", f"a.1, a'1, {dye}a.2, {dye}a'2")
        self.refuse("A.1, A'1", "aB.1, aB'1", "a1.1, a1'1", "1.1, 1'1", "a_.1, a_'1", ".1, '1", "a-b.1, a-b'1")

    def test_tips_that_are_not_whole(self):
        self.refuse("a", "a.", "a'", "1", ".", "a1", "a., a'1", "a.x, a'x", "a..1, a'1", "a.'1, a'1", "a:1, a'1",
                    "a.-1, a'-1", "a.+1, a'+1", "a.1_0, a'1_0", "a.1.1, a'1", "a.1a'1", "a`1, a.1", 'a"1, a.1')

    def test_brackets(self):
        self.refuse("(a.1 * a'1", "a.1 * a'1)", "(a.1 * a'1))", "((a.1 * a'1)", "(a.1), a'1", "((a.1 * a'1))", "()",
                    "(", ")", ")(", "(a.1 * a'1)(b.1 * b'1)", "[a.1 * a'1]", "(a.1, a'1)", "(a.1 * )", "( * a'1)",
                    "(a.1 * a'1 * b.2), b'2", "a.1 * a'1", "a.1 + a'1", "(a.1 a'1)", "(a.1  a'1)", "(a.1 - a'1)",
                    "(" * 60, "(" * 61, "(" * 60 + "a.1", "(a.1 * " * 60, ")" * 60,
                    shown_hang(nested(60, True))[:-1], shown_hang(nested(60, False)) + ")")

    def test_racks_splices_and_rings_out_of_place(self):
        self.refuse("a.1, ", ", a.1", "a.1, , a'1", "a.1; a'1", "a.1 a'1", ",", ", ", "a.1, a'1,")
        self.refuse(" | ", " = ", " | a.1", " | a.1 = ", " |  = a.1", " | a.1 = a'1 = a.1", " | a.1, a'1", "a.1 = a'1",
                    " | a.1 = a'1, b.2", " | a.1 = a'1 | ", " |  | a.1 = a'1", " | a.1 | a'1", " = a.1 | a'1",
                    " | (a.1 = a'1)", "(a.1 | a'1)", " || a.1 = a'1", " | a.1 == a'1")
        self.refuse(" @ 1a.1, a'1", " @ 1, a.1", " @ 1 | a.1 = a'1", "a.1 @ 1, a'1", " | a.1 @ 1 = a'1", "@", " @")

    def test_a_bad_text_is_bad_ahead_of_its_net(self):
        self.refuse("a.1, a'1, b.2 @ 0", "a.1,b'2", "a.1, b.01", " | a.1 = b.2 ", "a.1, a.1, a.1, (a.1")

    def test_each_sign_taken_out_put_in_changed_and_doubled(self):
        seen = {True: 0, False: 0}
        for text in ["", " @ 10", " | a'1 = a.1 @ 3", RACK_NET, SPLICE_NET, EACH_SIGN_NET]:
            self.assertTrue(is_written(text))
            for other in changed_texts(text):
                written = is_written(other)
                seen[written] += 1
                if written:
                    self.check_written(other)
                else:
                    self.assert_refused(BadText, read, other)
        self.assertGreater(min(seen.values()), 100)

    def check_written(self, text):
        try:
            net = read(text)
        except (Unfit, NoMirror):
            return
        self.assertEqual(shown(net), text)


class RefusedNetTest(RefusalCase):
    def test_unfit(self):
        for text in ("a.1", "a'1 @ 3", "a.1, a.1", "a.1, b'1", "(a.1 * a'1), a.1", " | a.1 = a'2", "a.1, a'1, b.1, b'1",
                     "a.1, a'1 | a.1 = a'1", shown_hang(nested(60, True))):
            with self.subTest(text):
                self.assert_refused(Unfit, read, text)

    def test_no_mirror(self):
        for text in ("a'1, b.2 | a.1 = b'2", "a'1, a'2 | a.1 = a.2", " | (a.1 * b.2) = (a'1 * b'2)",
                     " | (a.1 * b.2) = (b'2 + a'1)", " | c.3 = c'3 | (a.1 + b.2) = (a'1 + b'2) @ 4"):
            with self.subTest(text):
                self.assert_refused(NoMirror, read, text)

    def test_unfit_goes_first(self):
        self.assert_refused(Unfit, read, " | a.1 = b'2")
        self.assert_refused(Unfit, read, "c.3 | (a.1 * b.2) = (a'1 * b'2)")

    def test_sixty_brackets_that_do_not_mirror(self):
        for leftward in (True, False):
            one = shown_hang(nested(60, leftward))
            other = shown_hang(mirrored(nested(60, leftward)))
            self.assertEqual(shown(read(f" | {one} = {other}")), f" | {one} = {other}")
            innermost = other.replace("red'0 + ", "red'0 * ").replace(" + red'0", " * red'0")
            self.assert_refused(NoMirror, read, f" | {one} = {innermost}")
