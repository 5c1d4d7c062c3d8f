import unittest

from netloft.hangs import knots, mirrored, mirrors, renamed, tips
from samples import LARGE, LONG_DYE, dark, fast, light, loose, nested

MIXED = fast(loose(light("red", 4), dark("blue", 2)), fast(dark("red", 7), light("a", 0)))
MIXED_MIRROR = loose(fast(dark("red", 4), light("blue", 2)), loose(light("red", 7), dark("a", 0)))
SAMPLES = [
    light("red", 3),
    dark("red", 3),
    light("a", 0),
    dark(LONG_DYE, LARGE),
    fast(light("red", 1), dark("red", 1)),
    loose(light("red", 1), dark("red", 1)),
    MIXED,
    nested(60, True),
    nested(60, False),
]


def with_innermost(hang, tip, leftward):
    if hang[0] in ("light", "dark"):
        return tip
    if leftward:
        return (hang[0], with_innermost(hang[1], tip, leftward), hang[2])
    return (hang[0], hang[1], with_innermost(hang[2], tip, leftward))


class MirroredTest(unittest.TestCase):
    def test_tips(self):
        self.assertEqual(mirrored(light("red", 3)), dark("red", 3))
        self.assertEqual(mirrored(dark("red", 3)), light("red", 3))

    def test_knots_keep_their_parts_in_place(self):
        self.assertEqual(mirrored(fast(light("a", 1), light("b", 2))), loose(dark("a", 1), dark("b", 2)))
        self.assertEqual(mirrored(loose(light("a", 1), light("b", 2))), fast(dark("a", 1), dark("b", 2)))
        self.assertEqual(mirrored(MIXED), MIXED_MIRROR)

    def test_the_mirror_of_the_mirror_is_the_hang(self):
        for hang in SAMPLES:
            self.assertEqual(mirrored(mirrored(hang)), hang)
            self.assertNotEqual(mirrored(hang), hang)

    def test_dyes_that_are_called_like_knots_and_tips_stay(self):
        for dye in ("fast", "loose", "light", "dark"):
            self.assertEqual(mirrored(light(dye, 5)), dark(dye, 5))
            self.assertEqual(tips(dark(dye, 5)), [dark(dye, 5)])

    def test_edges_stay_as_they_are(self):
        self.assertEqual(mirrored(dark(LONG_DYE, LARGE)), light(LONG_DYE, LARGE))
        self.assertEqual(mirrored(light("z", 9)), dark("z", 9))


class MirrorsTest(unittest.TestCase):
    def check(self, one, other, answer):
        self.assertIs(mirrors(one, other), answer)
        self.assertIs(mirrors(other, one), answer)

    def test_a_hang_and_its_mirror(self):
        for hang in SAMPLES:
            self.check(hang, mirrored(hang), True)

    def test_other_numbers(self):
        self.check(light("red", 1), dark("red", 2), True)
        self.check(MIXED, renamed(MIXED_MIRROR, {4: 11, 2: LARGE, 7: 0, 0: 7}), True)
        self.check(fast(light("a", 1), light("a", 2)), loose(dark("a", 3), dark("a", 3)), True)

    def test_no_hang_mirrors_itself(self):
        for hang in SAMPLES:
            self.check(hang, hang, False)

    def test_two_tips_of_one_side(self):
        self.check(light("red", 1), light("red", 2), False)
        self.check(dark("red", 1), dark("red", 2), False)

    def test_one_tip_turned(self):
        self.check(fast(light("a", 1), light("b", 2)), loose(dark("a", 1), light("b", 2)), False)
        self.check(fast(light("a", 1), light("b", 2)), loose(light("a", 1), dark("b", 2)), False)

    def test_another_dye(self):
        self.check(light("red", 1), dark("blue", 1), False)
        self.check(light("red", 1), dark("re", 1), False)
        self.check(fast(light("a", 1), light("b", 2)), loose(dark("a", 1), dark("c", 2)), False)
        self.check(fast(light("a", 1), light("b", 2)), loose(dark("c", 1), dark("b", 2)), False)

    def test_parts_in_each_others_place(self):
        self.check(fast(light("a", 1), light("b", 2)), loose(dark("b", 2), dark("a", 1)), False)

    def test_a_knot_in_the_place_of_a_tip(self):
        knot = loose(dark("a", 1), dark("b", 2))
        for tip in (light("a", 1), dark("a", 1)):
            self.check(knot, tip, False)
            self.check(fast(light("c", 3), tip), loose(dark("c", 3), knot), False)
            self.check(fast(tip, light("c", 3)), loose(knot, dark("c", 3)), False)

    def test_one_knot_turned(self):
        self.check(fast(light("a", 1), light("b", 2)), fast(dark("a", 1), dark("b", 2)), False)
        self.check(loose(light("a", 1), light("b", 2)), loose(dark("a", 1), dark("b", 2)), False)
        left = loose(loose(dark("red", 4), light("blue", 2)), loose(light("red", 7), dark("a", 0)))
        right = loose(fast(dark("red", 4), light("blue", 2)), fast(light("red", 7), dark("a", 0)))
        self.check(MIXED, left, False)
        self.check(MIXED, right, False)

    def test_a_fault_sixty_knots_within(self):
        for leftward in (True, False):
            hang = nested(60, leftward)
            other = mirrored(hang)
            turned = with_innermost(other, light("red", 0), leftward)
            self.check(hang, other, True)
            self.check(hang, turned, False)


class TipsTest(unittest.TestCase):
    def test_a_tip_is_its_own_tip(self):
        self.assertEqual(tips(light("red", 3)), [("light", "red", 3)])
        self.assertEqual(tips(dark("red", 3)), [("dark", "red", 3)])

    def test_knots_within_knots_from_left_to_right(self):
        self.assertEqual(tips(MIXED), [light("red", 4), dark("blue", 2), dark("red", 7), light("a", 0)])
        one_sided = loose(light("a", 3), fast(light("b", 2), loose(dark("c", 1), light("d", 0))))
        self.assertEqual(tips(one_sided), [light("a", 3), light("b", 2), dark("c", 1), light("d", 0)])

    def test_a_tip_that_stands_twice_is_told_twice(self):
        self.assertEqual(tips(fast(light("a", 1), light("a", 1))), [light("a", 1), light("a", 1)])

    def test_sixty_knots_within_one_another(self):
        outward = [light("red", 0)] + [dark("blue", number) for number in range(1, 61)]
        self.assertEqual(tips(nested(60, True)), outward)
        self.assertEqual(tips(nested(60, False)), outward[::-1])

    def test_a_list_is_given_that_may_be_changed(self):
        found = tips(MIXED)
        self.assertIsInstance(found, list)
        found.clear()
        self.assertEqual(len(tips(MIXED)), 4)


class KnotsTest(unittest.TestCase):
    def test_a_tip_has_none(self):
        self.assertEqual(knots(light("red", 3)), (0, 0))
        self.assertEqual(knots(dark("fast", 3)), (0, 0))

    def test_fast_ones_ahead_of_loose_ones(self):
        self.assertEqual(knots(fast(light("a", 1), light("b", 2))), (1, 0))
        self.assertEqual(knots(loose(light("a", 1), light("b", 2))), (0, 1))

    def test_knots_within_knots(self):
        self.assertEqual(knots(MIXED), (2, 1))
        self.assertEqual(knots(MIXED_MIRROR), (1, 2))
        self.assertIsInstance(knots(MIXED), tuple)

    def test_sixty_knots_within_one_another(self):
        self.assertEqual(knots(nested(60, True)), (40, 20))
        self.assertEqual(knots(nested(60, False)), (40, 20))


class RenamedTest(unittest.TestCase):
    def test_some_cords_named_and_one_that_is_not_there(self):
        names = {4: 9, 7: 4, 100: 2}
        hang = renamed(MIXED, names)
        self.assertEqual(hang, fast(loose(light("red", 9), dark("blue", 2)), fast(dark("red", 4), light("a", 0))))
        self.assertEqual(names, {4: 9, 7: 4, 100: 2})

    def test_numbers_are_put_all_at_once(self):
        hang = fast(light("a", 1), loose(dark("a", 1), light("b", 2)))
        self.assertEqual(renamed(hang, {1: 2, 2: 1}), fast(light("a", 2), loose(dark("a", 2), light("b", 1))))

    def test_an_empty_dict_changes_nothing(self):
        for hang in SAMPLES:
            self.assertEqual(renamed(hang, {}), hang)

    def test_a_number_may_become_nought_or_large(self):
        self.assertEqual(renamed(light("a", 5), {5: 0}), light("a", 0))
        self.assertEqual(renamed(dark("a", 0), {0: LARGE}), dark("a", LARGE))

    def test_sixty_knots_within_one_another(self):
        hang = renamed(nested(60, False), {0: 500, 60: 501})
        numbers = [tip[2] for tip in tips(hang)]
        self.assertEqual(numbers, [501] + list(range(59, 0, -1)) + [500])
        self.assertEqual(knots(hang), (40, 20))


class HandedInTest(unittest.TestCase):
    def test_hangs_are_as_they_were(self):
        before = repr(SAMPLES)
        for hang in SAMPLES:
            mirrored(hang)
            mirrors(hang, mirrored(hang))
            tips(hang)
            knots(hang)
            renamed(hang, {0: 1, 1: 0})
        self.assertEqual(repr(SAMPLES), before)

    def test_hangs_are_plain_tuples(self):
        for hang in (mirrored(MIXED), renamed(MIXED, {4: 1})):
            for part in (hang, hang[1], hang[2], hang[1][1]):
                self.assertIs(type(part), tuple)
