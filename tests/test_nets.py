import unittest

from netloft.errors import NoMirror, Unfit
from netloft.hangs import mirrored, renamed, tips
from netloft.nets import Net, alike, lifted, told
from samples import LARGE, LONG_DYE, RefusalCase, cords, dark, fast, light, loose, nested, parts


def spliced():
    """Cords 8, 5, 30, 9 go from the rack into the first splice; cord 2 lies in the second one alone."""
    rack = [fast(light("red", 8), dark("blue", 5)), loose(light("blue", 9), dark("red", 30))]
    splices = [
        (fast(dark("red", 8), light("blue", 5)), loose(light("red", 30), dark("blue", 9))),
        (light("red", 2), dark("red", 2)),
    ]
    return Net(rack, splices, 4)


class NetTest(unittest.TestCase):
    def test_rack_alone(self):
        net = Net([light("red", 3), dark("red", 3)])
        self.assertEqual(parts(net), ([light("red", 3), dark("red", 3)], [], 0))

    def test_none_for_no_splices(self):
        net = Net([dark("red", 3), light("red", 3)], None, 2)
        self.assertEqual(parts(net), ([dark("red", 3), light("red", 3)], [], 2))

    def test_lists_and_tuples(self):
        rack = [fast(light("a", 1), light("b", 2)), loose(dark("a", 3), dark("b", 4))]
        splices = [(dark("a", 1), light("a", 3)), (light("b", 4), dark("b", 2))]
        for given_rack in (rack, tuple(rack)):
            for given_splices in (splices, tuple(splices)):
                net = Net(given_rack, given_splices, 1)
                self.assertEqual(parts(net), (rack, splices, 1))
                self.assertIs(type(net.rack), list)
                self.assertIs(type(net.splices), list)
                self.assertEqual([type(pair) for pair in net.splices], [tuple, tuple])

    def test_arguments_by_name(self):
        net = Net(rack=[], splices=[(light("a", 0), dark("a", 0))], rings=3)
        self.assertEqual(parts(net), ([], [(light("a", 0), dark("a", 0))], 3))

    def test_a_net_of_nothing(self):
        for net in (Net([]), Net(()), Net([], None), Net([], []), Net((), (), 0)):
            self.assertEqual(parts(net), ([], [], 0))
            self.assertIs(type(net.rack), list)
            self.assertIs(type(net.splices), list)

    def test_nets_of_nothing_share_no_list(self):
        one = Net([])
        other = Net([])
        self.assertIsNot(one.rack, other.rack)
        self.assertIsNot(one.splices, other.splices)

    def test_lists_are_its_own(self):
        rack = [light("a", 1), dark("a", 1)]
        splices = [(light("b", 2), dark("b", 2))]
        net = Net(rack, splices)
        rack.append(light("c", 3))
        rack[0] = dark("a", 1)
        splices.clear()
        self.assertEqual(parts(net), ([light("a", 1), dark("a", 1)], [(light("b", 2), dark("b", 2))], 0))

    def test_what_is_handed_in_is_as_it_was(self):
        rack = [fast(light("a", 5), dark("b", 1)), dark("a", 5), light("b", 3)]
        splices = [(light("b", 1), dark("b", 3)), (dark("c", 4), light("c", 4))]
        before = repr((rack, splices))
        Net(rack, splices)
        self.assertEqual(repr((rack, splices)), before)

    def test_a_refused_net_leaves_what_is_handed_in(self):
        rack = [fast(light("a", 5), dark("b", 1)), dark("a", 5)]
        splices = [(light("b", 1), dark("c", 4))]
        before = repr((rack, splices))
        with self.assertRaises(Unfit):
            Net(rack, splices)
        self.assertEqual(repr((rack, splices)), before)

    def test_both_tips_of_a_cord_within_one_hang(self):
        rack = [fast(light("a", 1), dark("a", 1)), loose(dark("b", 2), fast(light("c", 3), light("b", 2)))]
        self.assertEqual(Net(rack + [dark("c", 3)]).rack, rack + [dark("c", 3)])

    def test_a_splice_of_one_cord(self):
        self.assertEqual(Net([], [(dark("a", 1), light("a", 1))]).splices, [(dark("a", 1), light("a", 1))])


class RefusedTest(RefusalCase):
    def refuse(self, error, rack, splices=None):
        self.assert_refused(error, Net, rack, splices)

    def test_a_tip_left_out_of_the_rack(self):
        self.refuse(Unfit, [light("a", 1)])
        self.refuse(Unfit, [dark("a", 1)])
        self.refuse(Unfit, [light("a", 1), dark("a", 1), fast(light("b", 2), light("c", 3)), dark("b", 2)])

    def test_a_tip_left_out_of_the_splices(self):
        self.refuse(Unfit, [], [(light("a", 1), dark("a", 2))])
        self.refuse(Unfit, [], [(light("a", 1), dark("a", 2)), (light("a", 2), dark("a", 3))])

    def test_a_tip_left_out_over_both(self):
        self.refuse(Unfit, [dark("a", 1)], [(light("a", 1), dark("a", 2))])
        self.refuse(Unfit, [dark("a", 1)], [(light("b", 2), dark("b", 2))])

    def test_a_tip_twice_in_the_rack(self):
        self.refuse(Unfit, [light("a", 1), dark("a", 1), light("a", 1)])
        self.refuse(Unfit, [light("a", 1), dark("a", 1), dark("a", 1)])
        self.refuse(Unfit, [fast(light("a", 1), light("a", 1)), dark("a", 1)])
        self.refuse(Unfit, [light("a", 1), dark("a", 1), light("a", 1), dark("a", 1)])

    def test_a_tip_twice_in_the_splices(self):
        pair = (light("a", 1), dark("a", 1))
        self.refuse(Unfit, [], [pair, pair])
        self.refuse(Unfit, [], [(fast(light("a", 1), light("a", 1)), loose(dark("a", 1), dark("a", 1)))])

    def test_a_tip_twice_over_both(self):
        pair = (light("a", 1), dark("a", 1))
        self.refuse(Unfit, [light("a", 1)], [pair])
        self.refuse(Unfit, [dark("a", 1)], [pair])
        self.refuse(Unfit, [light("a", 1), dark("a", 1)], [pair])

    def test_unlike_dyes_of_one_number(self):
        self.refuse(Unfit, [light("a", 1), dark("b", 1)])
        self.refuse(Unfit, [loose(light("a", 1), dark("b", 1))])
        self.refuse(Unfit, [], [(light("a", 1), dark("a", 2)), (light("b", 2), dark("b", 1))])
        self.refuse(Unfit, [light("b", 1), dark("b", 2)], [(light("a", 2), dark("a", 1))])

    def test_two_cords_of_unlike_dyes_and_one_number(self):
        self.refuse(Unfit, cords("a", [1]) + cords("b", [1]))
        self.refuse(Unfit, cords("a", [1]), [(light("b", 1), dark("b", 1))])

    def test_two_tips_of_one_side(self):
        self.refuse(Unfit, [light("a", 1), light("a", 1)])
        self.refuse(Unfit, [dark("a", 1), dark("a", 1)])
        self.refuse(Unfit, [], [(light("a", 1), dark("a", 2)), (light("a", 1), dark("a", 2))])
        self.refuse(Unfit, [light("a", 1), dark("a", 2)], [(light("a", 1), dark("a", 2))])

    def test_two_cords_with_all_tips_but_of_the_wrong_side(self):
        self.refuse(Unfit, [light("a", 1), light("a", 1), dark("a", 2), dark("a", 2)])

    def test_a_hang_that_is_both_parts_of_a_knot_many_times_over(self):
        hang = light("a", 1)
        for turn in range(60):
            hang = fast(hang, hang)
        self.refuse(Unfit, [hang, dark("a", 1)])
        self.refuse(Unfit, [], [(dark("a", 1), hang)])

    def test_tips_that_do_not_mirror(self):
        self.refuse(NoMirror, [dark("a", 1), light("b", 2)], [(light("a", 1), dark("b", 2))])
        self.refuse(NoMirror, [dark("a", 1), dark("a", 2)], [(light("a", 1), light("a", 2))])
        self.refuse(NoMirror, [light("a", 1), light("a", 2)], [(dark("a", 1), dark("a", 2))])

    def test_knots_that_do_not_mirror(self):
        one = fast(light("a", 1), light("b", 2))
        self.refuse(NoMirror, [], [(one, fast(dark("a", 1), dark("b", 2)))])
        self.refuse(NoMirror, [], [(one, loose(dark("b", 2), dark("a", 1)))])
        self.refuse(NoMirror, [dark("b", 2)], [(one, dark("a", 1))])
        self.refuse(NoMirror, [dark("b", 2)], [(dark("a", 1), one)])
        Net([], [(one, loose(dark("a", 1), dark("b", 2)))])

    def test_any_of_the_splices_may_be_the_one_that_does_not_mirror(self):
        right = (light("a", 1), dark("a", 1))
        wrong = (fast(light("b", 2), light("b", 3)), fast(dark("b", 2), dark("b", 3)))
        self.refuse(NoMirror, [], [right, wrong])
        self.refuse(NoMirror, [], [wrong, right])

    def test_unfit_goes_first(self):
        self.refuse(Unfit, [], [(light("a", 1), dark("b", 2))])
        self.refuse(Unfit, [], [(light("a", 1), light("a", 1))])
        self.refuse(Unfit, [light("c", 3)], [(fast(light("a", 1), dark("a", 1)), fast(light("b", 2), dark("b", 2)))])
        wrong = (light("a", 1), light("a", 2))
        self.refuse(Unfit, [dark("a", 1), dark("a", 2)], [wrong, (light("b", 3), dark("b", 4))])


class ToldTest(unittest.TestCase):
    def test_rack_ahead_of_splices_and_first_hangs_ahead_of_second_ones(self):
        net = told(spliced())
        rack = [fast(light("red", 0), dark("blue", 1)), loose(light("blue", 2), dark("red", 3))]
        splices = [
            (fast(dark("red", 0), light("blue", 1)), loose(light("red", 3), dark("blue", 2))),
            (light("red", 4), dark("red", 4)),
        ]
        self.assertIsInstance(net, Net)
        self.assertEqual(parts(net), (rack, splices, 4))

    def test_cords_of_splices_alone(self):
        pair = (fast(light("a", 9), light("b", 7)), loose(dark("a", 4), dark("b", 10)))
        net = Net([], [pair, (light("a", 4), dark("a", 9)), (dark("b", 7), light("b", 10))])
        self.assertEqual(told(net).splices, [
            (fast(light("a", 0), light("b", 1)), loose(dark("a", 2), dark("b", 3))),
            (light("a", 2), dark("a", 0)),
            (dark("b", 1), light("b", 3)),
        ])

    def test_first_tips_count_by_place_and_not_by_side(self):
        rack = [loose(dark("a", 3), fast(dark("b", 0), light("a", 3))), light("c", 1), light("b", 0), dark("c", 1)]
        self.assertEqual(
            told(Net(rack)).rack,
            [loose(dark("a", 0), fast(dark("b", 1), light("a", 0))), light("c", 2), light("b", 1), dark("c", 2)],
        )

    def test_numbers_that_change_places(self):
        self.assertEqual(told(Net(cords("a", [1, 2, 0]))).rack, cords("a", [0, 1, 2]))

    def test_told_again_is_the_same(self):
        net = told(spliced())
        self.assertEqual(parts(told(net)), parts(net))

    def test_a_net_of_nothing(self):
        self.assertEqual(parts(told(Net([]))), ([], [], 0))
        self.assertEqual(parts(told(Net([], [], 7))), ([], [], 7))


class AlikeTest(unittest.TestCase):
    def check(self, one, other, answer):
        self.assertIs(alike(one, other), answer)
        self.assertIs(alike(other, one), answer)

    def test_a_net_is_alike_itself(self):
        net = spliced()
        self.check(net, net, True)
        self.check(net, spliced(), True)
        self.check(Net([]), Net((), ()), True)

    def test_other_numbers(self):
        net = spliced()
        names = {8: 30, 30: 8, 5: 0, 9: LARGE, 2: 1}
        rack = [renamed(hang, names) for hang in net.rack]
        splices = [(renamed(first, names), renamed(second, names)) for first, second in net.splices]
        self.check(net, Net(rack, splices, 4), True)
        self.check(net, told(net), True)

    def test_cords_joined_otherwise(self):
        one = Net([light("a", 0), light("a", 1), dark("a", 0), dark("a", 1)])
        other = Net([light("a", 0), light("a", 1), dark("a", 1), dark("a", 0)])
        self.check(one, other, False)

    def test_a_ring_more(self):
        net = spliced()
        self.check(net, Net(net.rack, net.splices, 5), False)
        self.check(Net([]), Net([], [], 1), False)

    def test_another_order_of_the_rack(self):
        net = spliced()
        self.check(net, Net(net.rack[::-1], net.splices, 4), False)
        self.check(Net([light("a", 1), dark("a", 1)]), Net([dark("a", 1), light("a", 1)]), False)

    def test_another_order_of_the_splices(self):
        net = spliced()
        self.check(net, Net(net.rack, net.splices[::-1], 4), False)

    def test_the_hangs_of_a_splice_changed_for_one_another(self):
        net = spliced()
        for place in (0, 1):
            splices = list(net.splices)
            splices[place] = splices[place][::-1]
            self.check(net, Net(net.rack, splices, 4), False)

    def test_a_splice_less(self):
        net = spliced()
        self.check(net, Net(net.rack, net.splices[:1], 4), False)

    def test_a_knot_turned(self):
        net = spliced()
        turned = ("loose",) + net.rack[0][1:]
        self.check(net, Net([turned, net.rack[1]], net.splices, 4), False)

    def test_another_dye(self):
        self.check(Net(cords("a", [1])), Net(cords("b", [1])), False)


class LiftedTest(unittest.TestCase):
    def test_by_nought(self):
        net = spliced()
        same = lifted(net, 0)
        self.assertIsInstance(same, Net)
        self.assertEqual(parts(same), parts(net))
        self.assertIsNot(same, net)
        self.assertIsNot(same.rack, net.rack)
        self.assertIsNot(same.splices, net.splices)

    def test_by_more(self):
        net = lifted(spliced(), 3)
        rack = [fast(light("red", 11), dark("blue", 8)), loose(light("blue", 12), dark("red", 33))]
        splices = [
            (fast(dark("red", 11), light("blue", 8)), loose(light("red", 33), dark("blue", 12))),
            (light("red", 5), dark("red", 5)),
        ]
        self.assertEqual(parts(net), (rack, splices, 4))
        self.assertIs(alike(net, spliced()), True)

    def test_onto_numbers_that_the_net_has(self):
        self.assertEqual(lifted(Net(cords("a", [0, 1, 2])), 1).rack, cords("a", [1, 2, 3]))
        self.assertEqual(lifted(Net(cords("a", [2, 1, 0])), 1).rack, cords("a", [3, 2, 1]))

    def test_by_a_large_step(self):
        self.assertEqual(lifted(Net(cords("a", [0])), LARGE).rack, cords("a", [LARGE]))

    def test_a_net_of_nothing(self):
        self.assertEqual(parts(lifted(Net([], [], 2), 5)), ([], [], 2))


class EdgesTest(unittest.TestCase):
    def check(self, net):
        lift = lifted(net, 1000)
        self.assertEqual(lift.rings, net.rings)
        self.assertIs(alike(net, lift), True)
        self.assertIs(alike(lift, net), True)
        self.assertEqual(parts(told(net)), parts(told(lift)))

    def test_numbers_of_one_and_of_thirty_figures(self):
        rack = [light("a", LARGE), light("b", 0), dark("a", LARGE), dark("b", 0)] + cords("c", [10 ** 29])
        net = Net(rack)
        self.assertEqual(net.rack, rack)
        self.assertEqual([hang[2] for hang in told(net).rack], [0, 1, 0, 1, 2, 2])
        self.check(net)

    def test_dyes_of_one_and_of_twenty_letters(self):
        rack = [light("z", 4), dark(LONG_DYE, 3), dark("z", 4), light(LONG_DYE, 3)]
        net = Net(rack)
        self.assertEqual(told(net).rack, [light("z", 0), dark(LONG_DYE, 1), dark("z", 0), light(LONG_DYE, 1)])
        self.check(net)
        with self.assertRaises(Unfit):
            Net(rack[:3] + [light(LONG_DYE[:-1] + "z", 3)])

    def test_dyes_that_are_called_like_knots_and_tips(self):
        rack = [loose(light("fast", 1), dark("light", 2)), dark("fast", 1), light("light", 2)]
        self.check(Net(rack, [(light("loose", 3), dark("loose", 3)), (dark("dark", 4), light("dark", 4))]))

    def test_sixty_knots_within_one_another(self):
        for leftward in (True, False):
            hang = nested(60, leftward)
            self.check(Net([hang, mirrored(hang)]))
            self.check(Net([], [(hang, mirrored(hang))], 1))
            # All of the second hang is turned but its outmost knot.
            second = renamed(mirrored(hang)[:1] + hang[1:], {number: number + 100 for number in range(61)})
            with self.assertRaises(NoMirror):
                Net(tips(mirrored(hang)) + tips(mirrored(second)), [(hang, second)])

    def test_two_hundred_cords(self):
        numbers = list(range(199, -1, -1))
        net = Net(cords("red", numbers), [], LARGE)
        self.assertEqual(told(net).rack, cords("red", range(200)))
        self.check(net)
        with self.assertRaises(Unfit):
            Net(cords("red", numbers)[:-1])

    def test_two_hundred_cords_in_splices(self):
        splices = [(light("red", number), dark("red", number + 1)) for number in range(199)]
        net = Net([dark("red", 0), light("red", 199)], splices)
        self.assertEqual(len(net.splices), 199)
        self.check(net)

    def test_rings_of_nought_and_large_ones(self):
        for rings in (0, 1, LARGE):
            net = Net(cords("a", [1]), [(light("b", 2), dark("b", 2))], rings)
            self.assertEqual([net.rings, told(net).rings, lifted(net, 4).rings], [rings] * 3)
            self.check(net)


class HandedInTest(unittest.TestCase):
    def test_nets_are_as_they_were(self):
        net = spliced()
        other = lifted(spliced(), 1)
        before = repr(parts(net)), repr(parts(other))
        lists = net.rack, net.splices
        told(net)
        alike(net, other)
        lifted(net, 0)
        lifted(net, 12)
        self.assertEqual((repr(parts(net)), repr(parts(other))), before)
        self.assertIs(net.rack, lists[0])
        self.assertIs(net.splices, lists[1])

    def test_answers_have_lists_of_their_own(self):
        net = told(spliced())
        for answer in (told(net), lifted(net, 0)):
            self.assertEqual(parts(answer), parts(net))
            self.assertIsNot(answer.rack, net.rack)
            self.assertIsNot(answer.splices, net.splices)
