"""Texts: how hangs and nets are written, and nets read from what is written."""

from netloft.errors import BadText
from netloft.hangs import is_tip
from netloft.nets import Net

SIGNS = {"light": ".", "dark": "'", "fast": " * ", "loose": " + "}
LETTERS = "abcdefghijklmnopqrstuvwxyz"
FIGURES = "0123456789"
MOST_LETTERS = 20
MOST_FIGURES = 30


def shown_hang(hang):
    sign = SIGNS[hang[0]]
    if is_tip(hang):
        return hang[1] + sign + str(hang[2])
    return "(" + shown_hang(hang[1]) + sign + shown_hang(hang[2]) + ")"


def shown(net):
    text = ", ".join([shown_hang(hang) for hang in net.rack])
    for first, second in net.splices:
        text += " | " + shown_hang(first) + " = " + shown_hang(second)
    if net.rings > 0:
        text += " @ " + str(net.rings)
    return text


def read(text):
    reader = Reader(text)
    rack = reader.read_rack()
    splices = reader.read_splices()
    rings = reader.read_rings()
    if not reader.at_end():
        raise BadText("the text goes on behind the net")
    return Net(rack, splices, rings)


class Reader:
    def __init__(self, text):
        self.text = text
        self.place = 0

    def at_end(self):
        return self.place == len(self.text)

    def met(self, sign):
        if not self.text.startswith(sign, self.place):
            return False
        self.place += len(sign)
        return True

    def choose(self, kinds):
        for kind in kinds:
            if self.met(SIGNS[kind]):
                return kind
        raise BadText("a sign is not there")

    def run_of(self, signs, most):
        start = self.place
        while not self.at_end() and self.text[self.place] in signs:
            self.place += 1
        length = self.place - start
        if length < 1 or length > most:
            raise BadText("a dye or a number is too short or too long")
        return self.text[start:self.place]

    def read_number(self):
        figures = self.run_of(FIGURES, MOST_FIGURES)
        if figures[0] == "0" and len(figures) > 1:
            raise BadText("a number has noughts ahead")
        return int(figures)

    def read_hang(self):
        if not self.met("("):
            return self.read_tip()
        left = self.read_hang()
        kind = self.choose(("fast", "loose"))
        right = self.read_hang()
        if not self.met(")"):
            raise BadText("a bracket is not closed")
        return (kind, left, right)

    def read_tip(self):
        dye = self.run_of(LETTERS, MOST_LETTERS)
        kind = self.choose(("light", "dark"))
        return (kind, dye, self.read_number())

    def read_rack(self):
        # What is written behind a rack begins with a blank, and no hang does.
        if self.at_end() or self.text.startswith(" "):
            return []
        rack = [self.read_hang()]
        while self.met(", "):
            rack.append(self.read_hang())
        return rack

    def read_splices(self):
        splices = []
        while self.met(" | "):
            first = self.read_hang()
            if not self.met(" = "):
                raise BadText("a splice has no second hang")
            splices.append((first, self.read_hang()))
        return splices

    def read_rings(self):
        if not self.met(" @ "):
            return 0
        rings = self.read_number()
        if rings == 0:
            raise BadText("rings are written from one on")
        return rings
