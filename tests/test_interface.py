"""Holds the package to the interface at the document's end: names, arguments and kinds."""

import importlib
import inspect
import unittest

from netloft.nets import Net

FUNCTIONS = {
    "hangs": ["mirrored(hang)", "mirrors(one, other)", "tips(hang)", "knots(hang)", "renamed(hang, names)"],
    "nets": ["told(net)", "lifted(net, step)", "alike(one, other)"],
    "texts": ["shown_hang(hang)", "shown(net)", "read(text)"],
    "sound": ["loose_knots(net)", "holds(net, choice)", "fault(net)", "sound(net)"],
    "turns": ["tied(turns)", "turns_of(net)"],
    "drawing": ["drawn(net, place)", "drawn_out(net)"],
    "ways": ["way(net, tip)", "by_ways(net)"],
    "joining": ["joined(one, i, other, j)", "straight(hang, first)"],
}
TIP = ("light", "a", 1)
LINE = Net([TIP, ("dark", "a", 1)])
OTHER = Net([("light", "a", 2), ("dark", "a", 2)])
SPLICED = Net([("dark", "a", 1), ("light", "a", 2)], [(TIP, ("dark", "a", 2))])
KINDS = {
    "mirrored": (tuple, [TIP]), "mirrors": (bool, [TIP, TIP]), "tips": (list, [TIP]), "knots": (tuple, [TIP]),
    "renamed": (tuple, [TIP, {}]), "told": (Net, [LINE]), "lifted": (Net, [LINE, 1]), "alike": (bool, [LINE, LINE]),
    "shown_hang": (str, [TIP]), "shown": (str, [LINE]), "read": (Net, [""]), "loose_knots": (int, [LINE]),
    "holds": (bool, [LINE, []]), "fault": (list, [Net([])]), "sound": (bool, [LINE]),
    "tied": (Net, [[("cord", "a", 1)]]), "turns_of": (list, [LINE]), "drawn": (Net, [SPLICED, 0]),
    "drawn_out": (Net, [SPLICED]), "way": (list, [LINE, TIP]), "by_ways": (Net, [SPLICED]),
    "joined": (Net, [LINE, 0, OTHER, 1]), "straight": (Net, [TIP, 0]),
}


class InterfaceTest(unittest.TestCase):
    def functions(self):
        for stem, forms in FUNCTIONS.items():
            module = importlib.import_module(f"netloft.{stem}")
            for form in forms:
                yield form, getattr(module, form.partition("(")[0])

    def test_names_and_arguments(self):
        for form, function in self.functions():
            self.assertEqual(function.__name__ + str(inspect.signature(function)), form)
        self.assertEqual(str(inspect.signature(Net)), "(rack, splices=None, rings=0)")

    def test_kinds(self):
        for form, function in self.functions():
            with self.subTest(form):
                kind, given = KINDS[function.__name__]
                self.assertIs(type(function(*given)), kind)

    def test_arguments_by_name(self):
        for form, function in self.functions():
            with self.subTest(form):
                given = dict(zip(inspect.signature(function).parameters, KINDS[function.__name__][1]))
                function(**given)

    def test_no_fault_in_a_sound_net(self):
        module = importlib.import_module("netloft.sound")
        self.assertIsNone(module.fault(LINE))

    def test_fields_of_a_net(self):
        for net in (LINE, SPLICED, Net((), ()), Net(rack=[], splices=None, rings=4)):
            self.assertIs(type(net.rack), list)
            self.assertIs(type(net.splices), list)
            self.assertIs(type(net.rings), int)
        self.assertEqual(sorted(vars(LINE)), ["rack", "rings", "splices"])
