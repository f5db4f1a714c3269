"""Reckoning with parts: tuples of a top and a bottom in lowest terms."""


def common(one, other):
    while other != 0:
        rest = one % other
        one = other
        other = rest
    return one


def joint_multiple(numbers):
    joint = 1
    for number in numbers:
        joint = joint // common(joint, number) * number
    return joint


def lowest(top, bottom):
    shared = common(top, bottom)
    return (top // shared, bottom // shared)


def is_part(pair):
    # The bounds come first: `common` is only sure of numbers from nought on.
    return pair[0] >= 0 and pair[1] >= 1 and common(pair[0], pair[1]) == 1


def joint_bottom(parts):
    return joint_multiple([part[1] for part in parts])


def tops_over(parts, bottom):
    return [part[0] * (bottom // part[1]) for part in parts]


def parts_over(tops, bottom):
    return [lowest(top, bottom) for top in tops]


def come_to_one(parts):
    bottom = joint_bottom(parts)
    return sum(tops_over(parts, bottom)) == bottom
