"""Pairs of small modules to test papers with."""

from itertools import product

from severalmaps.modules import add, led
from tests import support

LINE = ((0, 1), (0, 1))
CHAIN = ((0, 1), (1, 2))
ROUND = ((0, 1), (1, 0))
LOOP = ((0, 0),)

# Arrows and dims of sizes from 0 to 5.
SMALL_SHAPES = (
    (((0, 0), (0, 0)), (0,)),
    (((0, 1), (1, 1)), (0, 0)),
    (((0, 1),), (0, 1)),
    ((), (2,)),
    (LINE, (1, 2)),
    (ROUND, (2, 2)),
    ((), (2, 1, 0, 1)),
    (LOOP, (4,)),
    (((0, 0), (0, 0)), (5,)),
    (((0, 1), (1, 2), (1, 1)), (1, 2, 2)),
    (((0, 1), (1, 2), (2, 3), (3, 0), (2, 2)), (1, 2, 1, 1)),
    (((0, 1),) * 5, (2, 3)),
)


def moved(rng, module):
    """The module in a drawn other basis."""
    return led(module, support.random_changes(rng, module))


def total(*modules):
    """The sum of all these modules."""
    told = modules[0]
    for module in modules[1:]:
        told = add(told, module)
    return told


def point(p, a, b):
    """A point of the line."""
    return (p, LINE, (1, 1), (((a,),), ((b,),)))


def simple(p, arrows, spaces, space):
    """The module with the dimension 1 of one space, and all maps 0."""
    return support.zero_module(p, arrows, tuple(int(v == space) for v in range(spaces)))


def nothing(module):
    """The module of size 0 of the module's kind."""
    return support.zero_module(module[0], module[1], (0,) * len(module[2]))


def single(p, *numbers):
    """The module with one space of dimension 1, and an arrow for each number."""
    return (p, LOOP * len(numbers), (1,), tuple(((number,),) for number in numbers))


def companion(p, numbers):
    """The module of the companion matrix of a polynomial, whose highest number 1 is left out."""
    n = len(numbers)
    rows = [[int(j == i - 1) for j in range(n)] for i in range(n)]
    for row, number in zip(rows, numbers):
        row[-1] = -number % p
    return (p, LOOP, (n,), (tuple(tuple(row) for row in rows),))


def without_roots(p, degree):
    """The lower numbers of the polynomials of this degree that have no roots."""
    told = []
    for numbers in product(range(p), repeat=degree):
        worths = [sum(n * x ** k for k, n in enumerate(numbers + (1,))) % p for x in range(p)]
        if 0 not in worths:
            told.append(numbers)
    return told


def chain(p, spaces):
    """The module over a chain of arrows whose spaces of dimension 1 are led to each other."""
    dims = tuple(int(v in spaces) for v in range(3))
    maps = tuple(((1,) * dims[s],) * dims[t] for s, t in CHAIN)
    return (p, CHAIN, dims, maps)


def strand(p, arrows, order):
    """The module with a basis vector in each of the spaces of an order, each led to the next one by an arrow."""
    spaces = max(order) + 1
    places = [order[:at].count(space) for at, space in enumerate(order)]
    dims = tuple(order.count(space) for space in range(spaces))
    maps = [[[0] * dims[s] for _ in range(dims[t])] for s, t in arrows]
    for at in range(len(order) - 1):
        maps[arrows.index((order[at], order[at + 1]))][places[at + 1]][places[at]] = 1
    return (p, arrows, dims, tuple(tuple(tuple(row) for row in matrix) for matrix in maps))


def drawn_pairs(rng, p):
    """Drawn modules against themselves in other bases, unlike ones, smaller ones and those without maps."""
    told = []
    for arrows, dims in SMALL_SHAPES:
        module = support.random_module(rng, p, arrows, dims)
        smaller = tuple(max(0, dim - 1) for dim in dims)
        told.append((module, moved(rng, module)))
        told.append((module, support.random_module(rng, p, arrows, dims)))
        told.append((module, support.zero_module(p, arrows, dims)))
        told.append((support.random_module(rng, p, arrows, smaller), module))
        told.append((support.zero_module(p, arrows, dims), support.zero_module(p, arrows, smaller)))
    return told


def sums_of_parts(rng, p):
    """Sums of equal and of unequal parts, in both orders and other bases."""
    told = []
    for arrows, first, second in (
        (LINE, (1, 1), (1, 2)), (ROUND, (1, 1), (1, 1)), (LOOP, (2,), (3,)), (CHAIN, (0, 1, 1), (1, 1, 0)),
        (((0, 0), (0, 0)), (1,), (2,)), (((0, 1), (1, 1)), (1, 1), (0, 1)),
    ):
        one, two, three = (support.random_module(rng, p, arrows, dims) for dims in (first, second, first))
        whole = moved(rng, add(one, two))
        told.append((whole, moved(rng, add(two, one))))
        told.append((whole, moved(rng, add(three, two))))
        told.append((one, whole))
        told.append((moved(rng, two), whole))
        told.append((moved(rng, add(one, one)), add(one, three)))
        told.append((nothing(one), whole))
    return told


def told_by_a_third(p):
    """Unlike modules, neither of which tells them apart."""
    ends = add(simple(p, LINE, 2, 0), simple(p, LINE, 2, 1))
    zero, one = ((0, 0), (0, 0)), ((0, 0), (0, 1))
    loops = LOOP + LOOP
    steps = ((0, 0), (0, 1), (1, 0))
    return [
        (strand(p, steps, (0, 0, 1, 0)), strand(p, steps, (0, 1, 0, 0))),
        (add(point(p, 1, 0), point(p, 0, 1)), ends),
        (add(point(p, 1, 1), point(p, 1, 0)), ends),
        ((p, ROUND, (1, 1), (((0,),), ((1,),))), (p, ROUND, (1, 1), (((1,),), ((0,),)))),
        ((p, loops, (2,), (one, ((0, 0), (1, 0)))), (p, loops, (2,), (one, ((0, 1), (0, 0))))),
        ((p, ROUND, (2, 2), (zero, ((0, 1), (1, 0)))), (p, ROUND, (2, 2), (((0, 1), (1, 0)), zero))),
        told_by_one(p),
    ]


def told_by_one(p):
    """Unlike modules: neither tells them apart, and the first is seen by the other one, but not so back."""
    arrows = ((1, 0), (0, 1), (1, 0))
    first = (p, arrows, (1, 2), (((0, 0),), ((1,), (0,)), ((0, 0),)))
    second = (p, arrows, (2, 2), (((0, 1), (0, 0)), ((0, 1), (0, 0)), ((0, 0), (0, 1))))
    return first, second


def named_pairs(rng, p):
    """Pairs with a reason of their own."""
    told = told_by_a_third(p)
    ends = [simple(p, LINE, 2, v) for v in range(2)]
    told.append((point(p, 1, 0), point(p, 1, 1)))
    told.append((point(p, 1, p - 1), point(p, p - 1, 1)))
    told.append((add(point(p, 1, 0), point(p, 0, 1)), add(point(p, 1, 0), point(p, 1, 1))))
    told.append((add(point(p, 1, 0), point(p, 0, 1)), total(*ends, *ends)))
    told.append((total(ends[0], point(p, 1, 1), point(p, 1, 1)), total(ends[0], ends[0], point(p, 1, 1))))
    told.append((add(chain(p, (0, 1, 2)), chain(p, (1,))), moved(rng, add(chain(p, (0, 1)), chain(p, (1, 2))))))
    told.append((add(chain(p, (0, 1)), chain(p, (2,))), add(chain(p, (0,)), chain(p, (1, 2)))))
    # Chains over three spaces with the middle two exchanged.
    steps = ((0, 0), (0, 1), (1, 2), (1, 0), (0, 2))
    told.append((strand(p, steps, (0, 0, 1, 2)), strand(p, steps, (0, 1, 0, 2))))
    told.append((strand(p, steps, (0, 0, 1, 2)), moved(rng, strand(p, steps, (0, 0, 1, 2)))))
    # A and twice B against twice A and B.
    a, b = single(p, 0, 1), single(p, 1, 0)
    told.append((moved(rng, total(a, b, b)), moved(rng, total(b, a, a))))
    told.append((moved(rng, total(a, b, b)), moved(rng, total(b, a, b))))
    told.append((add(a, b), moved(rng, total(b, a, a))))
    for degree in (2, 3):
        found = without_roots(p, degree)
        one, two = companion(p, found[0]), companion(p, found[-1])
        told.append((one, two))
        told.append((moved(rng, one), support.shuffled(rng, one)))
    one = companion(p, without_roots(p, 2)[0])
    told.append((moved(rng, add(one, two)), add(two, one)))
    told.append((one, moved(rng, add(two, one))))
    # A polynomial twice, against its square.
    square = companion(p, squared(p, without_roots(p, 2)[0]))
    told.append((moved(rng, add(one, one)), moved(rng, square)))
    told.append((one, square))
    return told


def squared(p, numbers):
    """The lower numbers of the square of a polynomial."""
    full = list(numbers) + [1]
    told = [0] * (2 * len(full) - 1)
    for (i, a), (j, b) in product(enumerate(full), repeat=2):
        told[i + j] = (told[i + j] + a * b) % p
    return tuple(told[:-1])


def pairs(seed, primes=support.PRIMES):
    """All these pairs over these primes."""
    rng = support.source(seed)
    told = []
    for p in primes:
        told.extend(drawn_pairs(rng, p) + sums_of_parts(rng, p) + named_pairs(rng, p))
    return told
