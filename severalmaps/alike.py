"""Papers that two modules are alike, or that a third module tells them apart."""

from severalmaps.modules import check_small_pair, is_of_kind, size
from severalmaps.papers import is_paper
from severalmaps.parts import by_the_part, common, is_way_back
from severalmaps.passages import kernel_of, number, passages, rest, stacked


def alike(module, other):
    """A paper that tells whether two small modules are alike."""
    split, other_split = common(module, other)
    remaining, others = split[1], other_split[1]
    if size(remaining) > 0 or size(others) > 0:
        return "apart", telling(remaining, others)
    return ("alike",) + by_the_part(module, other, split, other_split)


def telling(module, other):
    """A module that tells two strangers apart, which are not both of size 0.

    What has such strangers as rests, beside equal parts, is told apart as well.
    """
    thirds = (module, other, seen_part(module, other), seen_part(other, module))
    return [third for third in thirds if tells(third, module, other)][0]


def tells(third, module, other):
    """Tells whether a third module tells two modules apart."""
    return number(third, module) != number(third, other)


def seen_part(module, other):
    """A module without what all passages to the other one lead to 0."""
    unseen, into = kernel_of(module, stacked(passages(module, other), len(module[2])))
    return rest(unseen, module, into)[0]


def is_likeness(module, other, paper):
    """Tells whether a paper tells rightly whether two small modules are alike."""
    check_small_pair(module, other)
    if is_paper(paper, "alike", 3):
        _, there, back = paper
        return is_way_back(module, other, there, back) and is_way_back(other, module, back, there)
    if not is_paper(paper, "apart", 2):
        return False
    return is_of_kind(module, paper[1]) and tells(paper[1], module, other)
