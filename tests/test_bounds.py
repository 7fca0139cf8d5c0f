"""Bounds, the least worths that keep them, and rings [31]; what follows from them [32]."""

import itertools
import random
import unittest

from leaveledger.bounds import judge_ring, settle
from leaveledger.follows import follows, opposite, tightest
from tests.junk import some_variants
from tests.plainjudges import takes_ring


def keeps(worths, bounds):
    known = {**dict(worths), "0": 0}
    return all(0 <= worth <= 9999 for worth in known.values()) and all(known[l] <= known[r] + gap for l, r, gap in bounds)


def terms_of(bounds):
    return sorted({term for bound in bounds for term in bound[:2]} - {"0"})


def plain_least(bounds):
    """The least worths that keep all bounds, found by raising what is too small; None if there are none."""
    known = dict.fromkeys([*terms_of(bounds), "0"], 0)
    while not keeps({term: worth for term, worth in known.items() if term != "0"}, bounds):
        for l, r, gap in bounds:
            known[r] = max(known[r], known[l] - gap)
        if known["0"] > 0 or max(known.values()) > 9999:
            return None
    return tuple(sorted((term, worth) for term, worth in known.items() if term != "0"))


def bounds_by_chance(chance, terms, many, most):
    return tuple((chance.choice(terms), chance.choice(terms), chance.randint(-most // 2, most)) for _ in range(many))


class BoundsCheck(unittest.TestCase):
    def check_ring(self, bounds, ring):
        self.assertIs(type(ring), tuple)
        self.assertIs(judge_ring(bounds, ring), True, (bounds, ring))
        self.assertIs(takes_ring(bounds, ring), True, (bounds, ring))


class SettleTest(BoundsCheck):
    def check(self, bounds, *pairs):
        self.assertEqual(settle(bounds), ("least", pairs))
        self.assertTrue(keeps(pairs, bounds))
        self.assertEqual(settle(list(bounds)), ("least", pairs))

    def check_none(self, bounds):
        word, ring = settle(bounds)
        self.assertEqual(word, "ring", bounds)
        self.check_ring(bounds, ring)

    def test_no_bounds(self):
        self.check(())
        self.assertEqual(settle([]), ("least", ()))

    def test_one_bound(self):
        self.check((("a", "b", 0),), ("a", 0), ("b", 0))
        self.check((("a", "b", 5),), ("a", 0), ("b", 0))
        self.check((("a", "b", -5),), ("a", 0), ("b", 5))
        self.check((("a", "a", 0),), ("a", 0))
        self.check((("asker.level", "ask.amount", -1),), ("ask.amount", 1), ("asker.level", 0))

    def test_zero(self):
        self.check((("0", "a", -7),), ("a", 7))
        self.check((("a", "0", 7),), ("a", 0))
        self.check((("0", "0", 0),))
        self.check((("0", "0", 20000),))
        self.check_none((("0", "0", -1),))
        self.check_none((("0", "0", -20000),))
        self.check_none((("a", "0", -1),))

    def test_terms_on_one_side_only(self):
        self.check((("a", "b", -3), ("a", "c", -4), ("d", "c", 2)), ("a", 0), ("b", 3), ("c", 4), ("d", 0))
        self.check((("a", "b", -3), ("0", "a", -2)), ("a", 2), ("b", 5))

    def test_each_the_least(self):
        bounds = (("0", "a", -5), ("a", "b", -5), ("b", "c", 3), ("c", "d", -1), ("d", "a", 20000))
        self.check(bounds, ("a", 5), ("b", 10), ("c", 7), ("d", 8))
        self.check((("a", "b", -1), ("b", "c", -1), ("a", "c", -9)), ("a", 0), ("b", 1), ("c", 9))

    def test_sixty_bounds(self):
        names = [f"t{at:02}" for at in range(61)]
        chain = tuple((first, second, -1) for first, second in zip(names, names[1:]))
        self.assertEqual(len(chain), 60)
        self.check(chain, *[(name, at) for at, name in enumerate(names)])
        self.check(chain[::-1], *[(name, at) for at, name in enumerate(names)])
        ring = tuple((first, second, -1) for first, second in zip(names[:60], [*names[1:60], names[0]]))
        self.check_none(ring)
        self.check_none(ring[::-1])
        loose = tuple((first, second, 0) for first, second, _ in ring)
        self.check(loose, *[(name, 0) for name in names[:60]])
        self.check((*loose[:59], (names[59], names[0], 59)), *[(name, 0) for name in names[:60]])
        self.check_none((*loose[:59], (names[59], names[0], -1)))

    def test_large_gaps(self):
        self.check((("a", "b", 20000), ("b", "a", 20000)), ("a", 0), ("b", 0))
        self.check_none((("a", "b", -20000),))
        self.check_none((("a", "b", 20000), ("b", "c", -20000)))
        self.check((("a", "b", -9999),), ("a", 0), ("b", 9999))
        self.check_none((("a", "b", -10000),))
        self.check((("a", "0", 20000), ("0", "a", -9999)), ("a", 9999))
        self.check_none((("0", "a", -10000),))

    def test_just_with_0_and_just_with_9999(self):
        self.check((("a", "0", 0),), ("a", 0))
        self.check((("0", "a", -9999), ("b", "0", 0), ("b", "a", -9999)), ("a", 9999), ("b", 0))
        self.check((("a", "b", -5000), ("b", "c", -4999)), ("a", 0), ("b", 5000), ("c", 9999))
        self.check_none((("a", "b", -5000), ("b", "c", -5000)))
        self.check_none((("0", "a", -1), ("a", "b", -9999)))
        self.check_none((("b", "a", -9999), ("0", "b", -1)))

    def test_rings(self):
        self.check_none((("a", "a", -1),))
        self.check_none((("a", "b", 3), ("b", "a", -4)))
        self.check((("a", "b", 3), ("b", "a", -3)), ("a", 3), ("b", 0))
        self.check_none((("a", "b", 3), ("b", "c", 3), ("c", "a", -7), ("c", "d", 0)))
        self.check_none((("a", "b", 0), ("c", "d", 0), ("d", "e", -2), ("e", "c", 1), ("b", "c", 0)))
        # By 0, and by 9999.
        self.check_none((("0", "a", -8), ("a", "b", 0), ("b", "0", 7)))
        self.check((("0", "a", -8), ("a", "b", 1), ("b", "0", 7)), ("a", 8), ("b", 7))
        self.check_none((("a", "0", 4), ("b", "a", -5)))
        self.check_none((("0", "a", -9000), ("a", "b", -1000)))

    def test_the_same_bound_twice(self):
        self.check((("a", "b", -1), ("a", "b", -1), ("a", "b", 0)), ("a", 0), ("b", 1))

    def test_least_of_all_worths(self):
        chance = random.Random(131)
        seen = {"least": 0, "ring": 0}
        for turn in range(150):
            bounds = bounds_by_chance(chance, ("0", "a", "b", "c"), chance.randint(1, 6), 6)
            right = [dict(zip("abc", worths)) for worths in itertools.product(range(13), repeat=3) if keeps(zip("abc", worths), bounds)]
            word, found = settle(bounds)
            seen[word] += 1
            if word == "ring":
                self.assertEqual(right, [])
                self.check_ring(bounds, found)
            else:
                self.assertEqual(found, tuple((term, min(worths[term] for worths in right)) for term in terms_of(bounds)))
        self.assertTrue(min(seen.values()) > 20, seen)

    def test_against_raising(self):
        chance = random.Random(132)
        names = ["0", *[f"t{at}" for at in range(12)]]
        seen = {"least": 0, "ring": 0}
        for turn in range(200):
            bounds = bounds_by_chance(chance, names, chance.randint(1, 30), chance.choice((40, 4000, 9000)))
            word, found = settle(bounds)
            seen[word] += 1
            expected = plain_least(bounds)
            if word == "ring":
                self.assertIsNone(expected)
                self.check_ring(bounds, found)
            else:
                self.assertEqual(found, expected)
        self.assertTrue(min(seen.values()) > 30, seen)


class JudgeRingTest(BoundsCheck):
    BOUNDS = (("a", "b", 3), ("b", "a", -4), ("b", "c", 0), ("c", "a", -4), ("c", "c", 0), ("0", "d", -1))

    def judged(self, *ring):
        return judge_ring(self.BOUNDS, ring)

    def test_in_another_order_round(self):
        ring = (("a", "b", 3), ("b", "c", 0), ("c", "a", -4))
        for at in range(3):
            self.assertIs(self.judged(*ring[at:], *ring[:at]), True)
        self.assertIs(self.judged(*ring[::-1]), False)
        self.assertIs(judge_ring(list(self.BOUNDS), ring), True)

    def test_longer_than_needed(self):
        self.assertIs(self.judged(("a", "b", 3), ("b", "c", 0), ("c", "c", 0), ("c", "c", 0), ("c", "a", -4)), True)
        self.assertIs(self.judged(*[("a", "b", 3), ("b", "a", -4)] * 30), True)

    def test_bounds_that_are_none(self):
        self.assertIs(self.judged(("a", "b", 2), ("b", "a", -4)), False)
        self.assertIs(self.judged(("a", "b", 3), ("b", "a", -5)), False)
        self.assertIs(self.judged(("b", "d", 0), ("d", "b", -1)), False)
        self.assertIs(self.judged(("x", "x", -1)), False)
        self.assertIs(judge_ring((), (("0", "0", -1),)), False)

    def test_limits(self):
        bounds = (("0", "a", -9000), ("a", "b", -1000))
        ring = (("0", "a", -9000), ("a", "b", -1000), ("b", "0", 9999))
        self.assertIs(judge_ring(bounds, ring), True)
        self.assertIs(judge_ring(bounds, (("0", "a", -9000), ("a", "b", -1000), ("b", "0", 9998))), False)
        self.assertIs(judge_ring((("a", "0", -1),), (("a", "0", -1), ("0", "a", 0))), True)
        self.assertIs(judge_ring((("a", "0", -1),), (("a", "0", -1), ("0", "a", -1))), False)
        # Only the terms of the bounds have limits, and 0 has none.
        self.assertIs(judge_ring((("0", "a", -5000), ("0", "0", -1)), (("0", "b", 0), ("b", "0", 9999), ("0", "0", -1))), False)
        self.assertIs(judge_ring((("a", "0", -1),), (("a", "0", -1), ("0", "0", 0), ("0", "a", 0))), False)
        self.assertIs(judge_ring((("a", "0", -1),), (("a", "0", -1), ("0", "0", 9999), ("0", "a", 0))), False)

    def test_the_sum(self):
        self.assertIs(self.judged(("c", "c", 0)), False)
        bounds = (("a", "b", 3), ("b", "a", -3), ("a", "a", 0), ("a", "a", -1))
        self.assertIs(judge_ring(bounds, bounds[:2]), False)
        self.assertIs(judge_ring(bounds, bounds[:3]), False)
        self.assertIs(judge_ring(bounds, (*bounds[:2], bounds[3])), True)
        self.assertIs(judge_ring(bounds, bounds[3:]), True)

    def test_rings_that_do_not_close(self):
        self.assertIs(self.judged(), False)
        self.assertIs(self.judged(("b", "a", -4)), False)
        self.assertIs(self.judged(("b", "a", -4), ("c", "a", -4)), False)
        self.assertIs(self.judged(("b", "a", -4), ("a", "b", 3), ("c", "a", -4)), False)
        self.assertIs(self.judged(("c", "a", -4), ("b", "c", 0), ("a", "b", 3)), False)

    def test_truths_are_no_numbers(self):
        bounds = (("a", "b", 0), ("b", "a", -1), ("a", "c", 1), ("c", "a", -2))
        self.assertIs(judge_ring(bounds, bounds[:2]), True)
        self.assertIs(judge_ring(bounds, (("a", "b", False), ("b", "a", -1))), False)
        self.assertIs(judge_ring(bounds, bounds[2:]), True)
        self.assertIs(judge_ring(bounds, (("a", "c", True), ("c", "a", -2))), False)
        self.assertIs(judge_ring((("a", "0", -1),), (("a", "0", -1), ("0", "a", False))), False)

    def test_whatever_stands_there(self):
        chance = random.Random(133)
        for bounds in (self.BOUNDS, (("0", "a", -9000), ("a", "b", -1000)), (("a", "0", -1),)):
            ring = settle(bounds)[1]
            for other in some_variants(chance, ring, 3000):
                self.assertIs(judge_ring(bounds, other), takes_ring(bounds, other), other)

    def test_rings_by_chance(self):
        chance = random.Random(134)
        seen = {False: 0, True: 0}
        for turn in range(3000):
            bounds = bounds_by_chance(chance, ("0", "a", "b"), 5, 3)
            ring = tuple(chance.choice((*bounds, ("0", "a", 0), ("b", "0", 9999))) for _ in range(chance.randint(1, 3)))
            found = judge_ring(bounds, ring)
            self.assertIs(found, takes_ring(bounds, ring))
            if found:
                self.assertEqual(settle(bounds)[0], "ring")
            seen[found] += 1
        self.assertTrue(min(seen.values()) > 100, seen)


class OppositeTest(unittest.TestCase):
    def test_some(self):
        self.assertEqual(opposite(("a", "b", 4)), ("b", "a", -5))
        self.assertEqual(opposite(("a", "b", 0)), ("b", "a", -1))
        self.assertEqual(opposite(("0", "a", -1)), ("a", "0", 0))
        self.assertEqual(opposite(("a", "a", 0)), ("a", "a", -1))

    def test_twice(self):
        for gap in (-20000, -9999, -2, -1, 0, 1, 9999, 20000):
            for l, r in (("a", "b"), ("b", "a"), ("0", "a"), ("a", "a"), ("0", "0")):
                self.assertEqual(opposite(opposite((l, r, gap))), (l, r, gap))

    def test_just_one_of_both_is_kept(self):
        for gap in range(-4, 5):
            for worths in itertools.product(range(5), repeat=2):
                pairs = list(zip("ab", worths))
                self.assertNotEqual(keeps(pairs, [("a", "b", gap)]), keeps(pairs, [opposite(("a", "b", gap))]))


class FollowsTest(BoundsCheck):
    def check(self, bounds, bound, truth):
        for given in (bounds, list(bounds)):
            word, found = follows(given, bound)
            if truth:
                self.assertEqual(word, "follows", (bounds, bound))
                self.check_ring([*bounds, opposite(bound)], found)
            else:
                self.assertEqual(word, "breaks", (bounds, bound))
                self.assertEqual([term for term, _ in found], terms_of([*bounds, bound]))
                self.assertTrue(keeps(found, bounds), (bounds, bound, found))
                self.assertFalse(keeps(found, [bound]), (bounds, bound, found))

    def test_chains(self):
        bounds = (("a", "b", 2), ("b", "c", 3))
        self.check(bounds, ("a", "c", 5), True)
        self.check(bounds, ("a", "c", 6), True)
        self.check(bounds, ("a", "c", 4), False)
        self.check(bounds, ("c", "a", 0), False)
        self.check(bounds, ("a", "b", 2), True)

    def test_limits(self):
        self.check((), ("a", "b", 9999), True)
        self.check((), ("a", "b", 9998), False)
        self.check((), ("0", "a", 0), True)
        self.check((), ("0", "a", -1), False)
        self.check((), ("a", "0", 9999), True)
        self.check((), ("a", "0", 9998), False)
        self.check((), ("a", "b", 20000), True)
        self.check((), ("a", "b", -20000), False)

    def test_the_same_on_both_sides(self):
        self.check((), ("a", "a", 0), True)
        self.check((), ("a", "a", -1), False)
        self.check((), ("0", "0", 0), True)
        self.check((), ("0", "0", -1), False)

    def test_terms_that_stand_only_in_the_bound(self):
        bounds = (("0", "a", -3), ("a", "b", -4))
        self.check(bounds, ("x", "y", 5), False)
        self.check(bounds, ("x", "b", 9992), True)
        self.check(bounds, ("x", "b", 9991), False)
        self.check(bounds, ("b", "x", 3), False)

    def test_bounds_that_no_worths_keep(self):
        bounds = (("a", "b", -1), ("b", "a", 0))
        for bound in (("a", "b", -20000), ("x", "y", 0), ("0", "0", -1), ("a", "a", 0)):
            self.check(bounds, bound, True)

    def test_against_all_worths(self):
        chance = random.Random(141)
        seen = {True: 0, False: 0}
        for turn in range(150):
            bounds = bounds_by_chance(chance, ("0", "a", "b", "c"), chance.randint(1, 4), 4) + (("a", "0", 9), ("b", "0", 9), ("c", "0", 9))
            bound = bounds_by_chance(chance, ("0", "a", "b", "c"), 1, 4)[0]
            truth = all(keeps(list(zip("abc", worths)), [bound]) for worths in itertools.product(range(10), repeat=3)
                        if keeps(list(zip("abc", worths)), bounds))
            self.check(bounds, bound, truth)
            seen[truth] += 1
        self.assertTrue(min(seen.values()) > 20, seen)


class TightestTest(unittest.TestCase):
    def check(self, bounds, l, r, gap):
        for given in (bounds, list(bounds)):
            self.assertEqual(tightest(given, l, r), gap, (bounds, l, r))
        if gap is not None:
            self.assertEqual(follows(bounds, (l, r, gap))[0], "follows")
            self.assertEqual(follows(bounds, (l, r, gap - 1))[0], "breaks")

    def test_some(self):
        bounds = (("a", "b", 2), ("b", "c", 3), ("a", "c", 7))
        self.check(bounds, "a", "c", 5)
        self.check(bounds, "a", "b", 2)
        self.check(bounds, "c", "a", 9999)
        self.check((("a", "b", -4),), "a", "b", -4)
        self.check((("a", "b", -4),), "b", "a", 9999)

    def test_zero(self):
        bounds = (("0", "a", -4), ("a", "b", -5), ("b", "0", 20))
        self.check(bounds, "0", "a", -4)
        self.check(bounds, "0", "b", -9)
        self.check(bounds, "b", "0", 20)
        self.check(bounds, "a", "0", 15)
        self.check(bounds, "b", "a", 16)
        self.check(bounds, "0", "0", 0)

    def test_the_same(self):
        self.check((), "a", "a", 0)
        self.check((), "0", "0", 0)
        self.check((("a", "b", -4),), "a", "a", 0)
        self.check((("a", "b", -4),), "x", "x", 0)

    def test_terms_that_are_in_no_bound(self):
        self.check((), "x", "y", 9999)
        self.check((), "x", "0", 9999)
        self.check((), "0", "x", 0)
        bounds = (("0", "a", -4), ("a", "0", 6))
        self.check(bounds, "x", "a", 9995)
        self.check(bounds, "a", "x", 6)
        self.check(bounds, "x", "y", 9999)

    def test_no_worths(self):
        for l, r in (("a", "b"), ("b", "b"), ("0", "0"), ("x", "y"), ("0", "x")):
            self.check((("a", "b", -1), ("b", "a", 0)), l, r, None)
            self.check((("0", "a", -10000),), l, r, None)

    def test_large_gaps(self):
        self.check((("a", "b", 20000),), "a", "b", 9999)
        self.check((("a", "b", -9999),), "a", "b", -9999)
        self.check((("a", "b", -9999),), "b", "a", 9999)
        self.check((("a", "b", -9999),), "a", "0", 0)

    def test_against_all_worths(self):
        chance = random.Random(142)
        seen = {}
        for turn in range(150):
            bounds = bounds_by_chance(chance, ("0", "a", "b", "c"), chance.randint(1, 4), 4) + (("a", "0", 9), ("b", "0", 9), ("c", "0", 9))
            right = [{**dict(zip("abc", worths)), "0": 0} for worths in itertools.product(range(10), repeat=3)
                     if keeps(list(zip("abc", worths)), bounds)]
            l, r = chance.choice("0abc"), chance.choice("0abc")
            gap = max(worths[l] - worths[r] for worths in right) if right else None
            self.check(bounds, l, r, gap)
            seen[gap] = True
        self.assertTrue(None in seen and len(seen) > 8, seen)


if __name__ == "__main__":
    unittest.main()
