"""Short names for hangs, and the edges of point 1, for the tests."""

LARGE = 10 ** 30 - 1
LONG_DYE = "abcdefghijklmnopqrst"


def light(dye, number):
    return ("light", dye, number)


def dark(dye, number):
    return ("dark", dye, number)


def fast(left, right):
    return ("fast", left, right)


def loose(left, right):
    return ("loose", left, right)


def nested(depth, leftward):
    """A hang of so many knots within one another, each third one loose; cords 0 to depth from within."""
    hang = light("red", 0)
    for number in range(1, depth + 1):
        tip = dark("blue", number)
        knot = fast if number % 3 else loose
        hang = knot(hang, tip) if leftward else knot(tip, hang)
    return hang
