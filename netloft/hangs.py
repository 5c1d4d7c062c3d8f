"""Hangs: tips and knots as tuples, their mirrors, their parts and their numbers."""

OPPOSITES = {"light": "dark", "dark": "light", "fast": "loose", "loose": "fast"}


def is_tip(hang):
    return hang[0] in ("light", "dark")


def mirrored(hang):
    opposite = OPPOSITES[hang[0]]
    if is_tip(hang):
        return (opposite, hang[1], hang[2])
    return (opposite, mirrored(hang[1]), mirrored(hang[2]))


def mirrors(one, other):
    if one[0] != OPPOSITES[other[0]]:
        return False
    if is_tip(one):
        return one[1] == other[1]
    return mirrors(one[1], other[1]) and mirrors(one[2], other[2])


def tips(hang):
    if is_tip(hang):
        return [hang]
    return tips(hang[1]) + tips(hang[2])


def knots(hang):
    if is_tip(hang):
        return (0, 0)
    left = knots(hang[1])
    right = knots(hang[2])
    fast = left[0] + right[0]
    loose = left[1] + right[1]
    if hang[0] == "fast":
        return (fast + 1, loose)
    return (fast, loose + 1)


def renamed(hang, names):
    if is_tip(hang):
        return (hang[0], hang[1], names.get(hang[2], hang[2]))
    return (hang[0], renamed(hang[1], names), renamed(hang[2], names))
