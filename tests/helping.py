"""What the tests share: the plans of the document, grown plans, and checks of answers and refusals."""

import copy
import itertools
import math
import random
import unittest

from hungwall.errors import InvalidPaper, NotUsable
from hungwall.rings import rings_of_three
from hungwall.ties import ties_of
from hungwall.tieturns import can_turn, turned_tie

W, N, E, S = SIDES = -4, -3, -2, -1
ONE, TWO = ((W, N, E, S),), ((W, N, 1, S), (N, E, S, 0))
TUCKED = ((W, 1, N, E, S), (W, N, 0))
FOUR = ((W, N, 1, 2, 3), (N, E, 2, 0), (E, S, 3, 0, 1), (W, 0, 2, S))
FIVE = ((W, N, 1, 4, 3), (N, E, 2, 4, 0), (E, S, 3, 4, 1), (W, 0, 4, 2, S), (0, 1, 2, 3))
BARS = ((W, N, E, 4, 3, 2), (W, 2, 3, 4, E, S), (W, 0, 3, 1), (0, 4, 1, 2), (E, 1, 3, 0))
NAMED = (ONE, TWO, TUCKED, FOUR, FIVE, BARS)

# What stands in no parameter but those that take any value.
NOTHINGS = (None, True, False, "", "x", "plan", [], (), ((),), [1], (None,), -5, 10 ** 40)
NOT_PLANS = (
    None, True, 0, "", "plan", (), ((),), [], 3, ((W, N, E, S), (W, N, E, S)), [[W, N, E, S]],
    [(W, N, E, S)], ([W, N, E, S],), ((W, N, E),), ((N, E, S, W),),
    ((W, N, True, S), (N, E, S, 0)), ((W, N, 1, S), (N, E, S, False)), ((W, N, 1), (W, N, 0)),
)
NOT_INTEGERS = (None, True, False, "1", "", (), (1,), [1], ((),))
NOT_POSITIVE = (
    None, True, False, 0, 1, "", "1", (), [], (1,), [1, 1], (1, 1, 1), (0, 1), (-1, 1), (2, 4), (1, 0), (1, -1),
    (True, 1), (1, True), ("1", "1"), (1, None), ((1, 1),),
)
NOT_TEXTS = (None, True, 0, (), [], ("level 0",), ["level 0"], b"level 0")
NOT_KINDS = (None, True, 0, "", "Level", "level ", "across", ("level",), ["upright"], "falling")


def not_places(many):
    """Values that are no places of a plan of so many pictures."""
    return NOT_INTEGERS + (-5, many, many + 1, -10 ** 30, 10 ** 30)


def not_pictures(many):
    """Values that are no pictures of a plan of so many."""
    return not_places(many) + (W, N, E, S)


def not_lots(many):
    """Values that are no lots of a plan of so many pictures."""
    return (
        None, True, 0, "", "0", [], [0], (True,), (False,), ("0",), ((0,),), (many,), (-1,), (W,),
        (0, 0), (many - 1, many - 1), (many, 0), (0, None), (0, [0]),
    )


def not_rows(many):
    """Values that are no tuples of so many positive quotients, four or more."""
    good = ((1, 1),) * many
    wrong = (
        None, True, 0, "", "1", (1, 1), (), ((1, 1),), good + ((1, 1),), good[1:], [(1, 1)] * many,
        ([1, 1],) + good[1:], good[1:] + ([1, 1],), ((True, 1),) + good[1:], ((1, True),) + good[1:],
    )
    return wrong + tuple(good[:-1] + (part,) for part in (None, 1, (2, 4), (1, 0), (-1, 1), (1, -1), (1, 1, 1), "1"))


def not_shapes(many):
    """Values that are no shapes of so many pictures, four or more."""
    return not_rows(many) + (((1, 1),) * (many - 1) + ((0, 1),),)


def not_tables(many):
    """Values that are no tables for so many pictures, four or more."""
    return not_rows(many) + (((0, 2),) * many,)


def least_first(circle):
    """A circle as a tuple, begun at its least place."""
    start = circle.index(min(circle))
    return tuple(circle[start:] + circle[:start])


def parting(plan, picture, first, last):
    """The plan with a picture parted, by way of lists into which the new picture is put."""
    circles = [list(circle) for circle in plan]
    old, new = circles[picture], len(plan)
    while old[0] != first:
        old.append(old.pop(0))
    between = old[1:old.index(last)]
    for place in [first] + between + [last]:
        if place >= 0:
            at = circles[place].index(picture)
            circles[place].insert(at + 1 if place == last else at, new)
        if place >= 0 and place in between:
            circles[place].remove(picture)
    circles.append([first] + between + [last, picture])
    circles[picture] = [place for place in old if place not in between]
    circles[picture].insert(1, new)
    return tuple(least_first(circle) for circle in circles)


def grown_plan(many, seed, plan=ONE):
    """A plan of so many pictures, parted from another one where a seeded source tells."""
    source = random.Random(seed)
    while len(plan) < many:
        picture = source.randrange(len(plan))
        first, last = source.sample(plan[picture], 2)
        plan = parting(plan, picture, first, last)
    return plan


def grown_plans(counts=(1, 2, 3, 4, 5, 6, 7, 8), seeds=range(6)):
    """Plans grown by a few partings, some of each count."""
    return [grown_plan(many, 100 * many + seed) for many in counts for seed in seeds]


def all_small_plans(many):
    """All plans of up to so many pictures that partings lead to, in some numbering."""
    plans = {ONE: True}
    newest = [ONE]
    for _ in range(many - 1):
        newer = {}
        for plan in newest:
            for picture, circle in enumerate(plan):
                for first, last in itertools.permutations(circle, 2):
                    newer[parting(plan, picture, first, last)] = True
        newest = list(newer)
        plans.update(newer)
    return list(plans)


def pile(many):
    """The plan of so many pictures, two or more, one above the other."""
    middle = tuple((W, k - 1, E, k + 1) for k in range(1, many - 1))
    return ((W, N, E, 1),) + middle + ((W, many - 2, E, S),)


def spun_plans(counts, seeds):
    """Plans parted from FIVE, some of each count: so some are often inside a ring of four pictures."""
    return [grown_plan(many, 100 * many + seed, FIVE) for many in counts for seed in seeds]


def mixed_plan(many, seed, steps=40):
    """A grown plan after turns of ties that do not add rings of three: so in few walls are all but some points."""
    source = random.Random(seed)
    plan = grown_plan(many, seed)
    for _ in range(steps):
        one, other = source.choice([tie for tie in ties_of(plan) if tie[1] >= 0])
        if can_turn(plan, one, other):
            new = turned_tie(plan, one, other)
            if len(rings_of_three(new)) <= len(rings_of_three(plan)):
                plan = new
    return plan


def mixed_plans(counts, seeds):
    """Plans grown and mixed, some of each count."""
    return [mixed_plan(many, 100 * many + seed) for many in counts for seed in seeds]


def quotient_of(source, figures):
    """A positive quotient with top and bottom of up to so many figures."""
    top, bottom = source.randrange(1, 10 ** figures), source.randrange(1, 10 ** figures)
    shared = math.gcd(top, bottom)
    return (top // shared, bottom // shared)


def kinds_of_shapes(many, seed):
    """Shapes of several kinds: equal ones, a few simple ones, many, long and far ones."""
    source = random.Random(seed)
    far = ((1, 1), (10 ** 20 - 1, 1), (1, 10 ** 20 - 1), (10 ** 19 + 1, 10 ** 19))
    return [
        ((1, 1),) * many,
        tuple(source.choice(((1, 1), (2, 1), (1, 2))) for _ in range(many)),
        tuple(quotient_of(source, 1) for _ in range(many)),
        tuple(quotient_of(source, 20) for _ in range(many)),
        tuple(source.choice(far) for _ in range(many)),
    ]


def places_of(plan):
    """All places of a plan."""
    return SIDES + tuple(range(len(plan)))


def lots_of(plan):
    """All lots of a plan."""
    pictures = range(len(plan))
    return [lot for size in range(len(plan) + 1) for lot in itertools.combinations(pictures, size)]


class HungTest(unittest.TestCase):
    """Checks that tell True from 1 and a tuple from a list."""

    def assert_exactly(self, got, want):
        """Both have the same value, and so has each of their parts the same kind."""
        self.assertIs(type(got), type(want), (got, want))
        if isinstance(want, (tuple, list)):
            self.assertEqual(len(got), len(want), (got, want))
            for one, other in zip(got, want):
                self.assert_exactly(one, other)
        else:
            self.assertEqual(got, want)

    def answers(self, want, call, *told):
        """The call returns just this, asked twice, and leaves alone what it was told."""
        kept = copy.deepcopy(told)
        self.assert_exactly(call(*told), want)
        self.assert_exactly(call(*told), want)
        self.assert_exactly(told, kept)

    def is_set(self, got):
        """A value is a set as the document says: an ascending tuple."""
        self.assertIs(type(got), tuple)
        self.assertEqual(list(got), sorted(set(got)))

    def raises(self, kind, fields, call, /, *told, **named):
        """The call raises just this error with just these fields."""
        kept = copy.deepcopy((told, named))
        with self.assertRaises(kind) as caught:
            call(*told, **named)
        self.assertIs(type(caught.exception), kind)
        self.assert_exactly(tuple(vars(caught.exception).items()), tuple(fields.items()))
        self.assert_exactly(told, kept[0])
        self.assertEqual(named, kept[1])

    def not_usable(self, word, call, /, *told, **named):
        """The call raises NotUsable of this parameter."""
        self.raises(NotUsable, {"word": word, "at": -1}, call, *told, **named)

    def no_paper(self, word, at, call, /, *told, **named):
        """The call raises InvalidPaper with this word and place."""
        self.raises(InvalidPaper, {"word": word, "at": at}, call, *told, **named)

    def refuses(self, call, good, wrong):
        """Each wrong value is refused, by position and by name, the first one of several.

        good is a dict of a fitting value for each parameter, in their order;
        wrong is a dict of tuples of wrong ones.
        """
        call(*good.values())
        call(**good)
        names = list(good)
        for at, name in enumerate(names):
            for value in wrong.get(name, ()):
                told = dict(good)
                told[name] = value
                self.not_usable(name, call, *told.values())
                self.not_usable(name, call, **told)
                for later in names[at + 1:]:
                    if wrong.get(later):
                        told[later] = wrong[later][0]
                self.not_usable(name, call, *told.values())
