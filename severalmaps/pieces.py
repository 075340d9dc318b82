"""Parts that two small modules have in common, one piece after the other.

Let there be a passage from one module to the other, and one back, so that no
power of the two one after the other is 0. Then what a high power leaves is a
part of both modules.
"""

from severalmaps.passages import composed, identity, image, inverse, mix, passages


def common_piece(module, other):
    """Splits of the two modules with equal parts of a size above 0, or None if they are strangers."""
    pair = lasting_pair(module, other)
    if pair is None:
        return None
    there, back = pair
    part, onto, into = image(module, module, high_power(module, composed(module, there, back)))
    # There and back again is invertible on what the power leaves: so the ways
    # by the other module lead its part to itself, too.
    other_into = composed(part, into, there)
    other_onto = composed(other, back, onto)
    return split_off(module, part, into, onto), split_off(other, part, other_into, other_onto)


def lasting_pair(module, other):
    """A passage to the other module and one back, no power of which together is 0, or None.

    It is enough to try the passages of two bases. If there is a pair at all,
    there is one for some passage there of each basis (point 6). What is this one
    and then any one back is closed under sums and products; and if those of a
    basis had powers that are 0, all long products would be 0 (a theorem of
    Wedderburn's).
    """
    backs = passages(other, module)
    for there in passages(module, other):
        for back in backs:
            power = high_power(module, composed(module, there, back))
            if any([any(row) for matrix in power for row in matrix]):
                return there, back
    return None


def high_power(module, loop):
    """The eighth power of a passage from a small module to itself: the module's size is less."""
    for _ in range(3):
        loop = composed(module, loop, loop)
    return loop


def split_off(module, part, into, onto):
    """The split of a module with this part, where onto after into is invertible."""
    change = inverse(part, part, composed(part, into, onto))
    straight = composed(module, onto, change)
    kept = composed(module, straight, into)
    # What is left is the image of the identity less the way by the part, which
    # leads this image to itself.
    left = mix(module, module, (identity(module), kept), (1, module[0] - 1))
    remaining, onto_rest, into_rest = image(module, module, left)
    return part, remaining, into, straight, into_rest, onto_rest
