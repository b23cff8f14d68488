import copy
import random
import unittest
from fractions import Fraction
from math import gcd

from askround.errors import NoFits, NoTotals
from askround.tables.fractions import is_fraction
from askround.tables.weights import shows_weights, weights_for
from tests.bends import bent
from tests.support import THINGS, TOP, alike, answer_truth, refuse
from tests.test_sums import ints, pair_of

T, F = True, False


def fits_in(text):
    """Fits, a word for each record, a sign for each margin: x where it fits."""
    return tuple(tuple(sign == "x" for sign in word) for word in text.split())


def totals_in(text):
    return tuple(pair_of(Fraction(word)) for word in text.split())


def right(fits, totals, thing):
    """Whether a thing shows what it says, by the document's words."""
    if type(thing) is not tuple or len(thing) != 2 or type(thing[1]) is not tuple:
        return False
    word, told = thing
    if word == "weights":
        if len(told) != len(fits) or not all(is_fraction(weight) and weight[0] >= 0 for weight in told):
            return False
        return all(sum(Fraction(*weight) for row, weight in zip(fits, told) if row[at]) == Fraction(*total) for at, total in enumerate(totals))
    if word != "clash" or len(told) != len(totals) or not all(type(number) is int for number in told):
        return False
    if any(sum(number for number, held in zip(told, row) if held) > 0 for row in fits):
        return False
    return sum(number * Fraction(*total) for number, total in zip(told, totals)) > 0


def random_fits(chance, records, margins):
    share = chance.choice((0.1, 0.3, 0.5, 0.8))
    return tuple(tuple(chance.random() < share for _ in range(margins)) for _ in range(records))


def random_totals(chance, fits, margins):
    """Totals that some weights come to, or that are close to such, or any."""
    if fits and chance.random() < 0.7:
        weights = [Fraction(chance.choice((0, 0, 1, 2, 5)), chance.randrange(1, 4)) for _ in fits]
        totals = [sum((weight for row, weight in zip(fits, weights) if row[at]), Fraction(0)) for at in range(margins)]
        if chance.random() < 0.4:
            totals[chance.randrange(margins)] += chance.choice((1, -1, Fraction(1, 7)))
    else:
        totals = [Fraction(chance.randrange(-1000, 1001), chance.randrange(1, 1001)) for _ in range(margins)]
    return tuple(pair_of(total) for total in totals)


class TestWeights(unittest.TestCase):
    def told(self, fits, totals):
        fits = fits_in(fits) if isinstance(fits, str) else fits
        totals = totals_in(totals) if isinstance(totals, str) else totals
        kept = copy.deepcopy((fits, totals))
        found = weights_for(fits, totals)
        self.assertTrue(right(fits, totals, found), found)
        self.assertTrue(answer_truth(self, shows_weights, fits, totals, found))
        self.assertTrue(alike(kept, (fits, totals)))
        return found

    def assert_weights(self, fits, totals, *weights):
        """There are weights; where they are told here, these."""
        found = self.told(fits, totals)
        self.assertEqual(found[0], "weights", found)
        if weights:
            self.assertTrue(alike(found[1], totals_in(weights[0])), found)

    def assert_clash(self, fits, totals):
        self.assertEqual(self.told(fits, totals)[0], "clash")

    def test_one_record_one_margin(self):
        self.assert_weights("x", "0", "0")
        self.assert_weights("x", "3", "3")
        self.assert_weights("x", "2/7", "2/7")
        self.assert_weights("x", "999/1000", "999/1000")
        self.assert_clash("x", "-1")
        self.assert_clash("x", "-1/1000")
        self.assert_weights("-", "0")
        self.assert_clash("-", "1")
        self.assert_clash("-", "-1")

    def test_no_rows(self):
        for many in range(1, 11):
            self.assertTrue(alike(self.told((), ints(*[0] * many)), ("weights", ())))
            for at in range(many):
                for total in ((1, 1), (-1, 1), (1, 1000), (-1000, 999)):
                    totals = tuple(total if at == place else (0, 1) for place in range(many))
                    self.assert_clash((), totals)

    def test_rows_that_fit_nothing(self):
        self.assert_weights("--- --- ---", "0 0 0")
        self.assert_clash("--- ---", "0 1 0")
        self.assert_clash("--- ---", "0 0 -1/2")
        self.assert_weights("x-- --- -x-", "1 2 0")
        self.assert_clash("x-- --- -x-", "1 2 3")

    def test_sure_weights(self):
        self.assert_weights("x-- -x- --x", "1/2 0 7/3", "1/2 0 7/3")
        self.assert_weights("xx- -xx x-x", "3 4 5", "1 3 2")
        self.assert_weights("xx -x", "1 1", "1 0")
        self.assert_weights("xx -x", "1 5/2", "1 3/2")
        self.assert_clash("xx -x", "2 1")

    def test_margins_all_alike(self):
        for many in (2, 3, 10):
            fits = (((T,) * many), ((F,) * many), ((T,) * many))
            self.assert_weights(fits, ((5, 7),) * many)
            self.assert_weights(fits, ((0, 1),) * many)
            self.assert_clash(fits, ((5, 7),) * (many - 1) + ((5, 6),))
            self.assert_clash(fits, ((-5, 7),) * many)

    def test_totals_of_nothing_and_below(self):
        self.assert_weights("xx x- -x", "0 0", "0 0 0")
        self.assert_clash("xx x- -x", "0 -1")
        self.assert_clash("xx x- -x", "-1000 1000")
        self.assert_weights("xx x-", "1 0", "0 1")
        self.assert_clash("xx", "1 0")

    def test_great_tops_and_bottoms(self):
        self.assert_weights("x- -x xx", "1000 1000")
        self.assert_weights("x- -x", "1000/999 1/1000", "1000/999 1/1000")
        self.assert_clash("x- -x", "-1000/999 1000")
        bottoms = [1000, 999, 997, 991, 983, 977, 971, 967, 953, 947]
        for tops in ([1] * 10, [bottom - 1 for bottom in bottoms], [-1] * 10, [1000 if bottom % 2 else 999 for bottom in bottoms]):
            totals = tuple(zip(tops, bottoms))
            self.assertTrue(all(gcd(*total) == 1 for total in totals))
            self.told(tuple(tuple(at != place for at in range(10)) for place in range(10)), totals)
            self.told(tuple(tuple(at in (place % 10, (place + 1) % 10, (place + 3) % 10) for at in range(10)) for place in range(12)), totals)

    def test_clash_of_close_totals(self):
        self.assert_weights("xx- -xx x-x", "1/1000 999/1000 1")
        self.assert_clash("xx- -xx x-x", "1/1000 998/1000 1")

    def test_many_ways_at_once(self):
        # Many rows are filled at once, over and over: the search still comes to an end.
        for many in (4, 6, 10):
            pairs = tuple(tuple(at in (place, (place + 1) % many) for at in range(many)) for place in range(many))
            self.assert_weights(pairs, ints(*[2] * many))
            self.assert_weights(pairs + pairs[:2], ints(*[0] * many))
            self.assert_weights(tuple(tuple(at >= place for at in range(many)) for place in range(many)), ints(*[1] * many))
            self.assert_clash(tuple(tuple(at >= place for at in range(many)) for place in range(many)), ints(*[1] * (many - 1), 0))

    def test_at_random(self):
        chance = random.Random(111)
        seen = {"weights": 0, "clash": 0}
        for _ in range(3000):
            records, margins = chance.randrange(0, 13), chance.randrange(1, 11)
            fits = random_fits(chance, records, margins)
            totals = random_totals(chance, fits, margins)
            seen[self.told(fits, totals)[0]] += 1
        self.assertGreater(min(seen.values()), 800, seen)

    def test_the_largest_at_random(self):
        chance = random.Random(112)
        seen = {"weights": 0, "clash": 0}
        for _ in range(400):
            fits = random_fits(chance, 12, 10)
            seen[self.told(fits, random_totals(chance, fits, 10))[0]] += 1
        self.assertGreater(min(seen.values()), 50, seen)


class TestShowsWeights(unittest.TestCase):
    def assert_shows(self, fits, totals, thing, shown=True):
        fits, totals = fits_in(fits), totals_in(totals)
        self.assertIs(answer_truth(self, shows_weights, fits, totals, thing), shown, thing)

    def test_other_weights(self):
        for weights, shown in (("1 0 0", True), ("0 1 1", True), ("1/2 1/2 1/2", True), ("1 1 0", False), ("0 0 0", False), ("2 -1 -1", False), ("1 0", False), ("1 0 0 0", False), ("1/3 2/3 2/3", True), ("1/3 1/3 2/3", False)):
            self.assert_shows("xx x- -x", "1 1", ("weights", totals_in(weights)), shown)

    def test_other_clashes(self):
        for numbers, shown in (((1, -1), True), ((2, -2), True), ((10 ** 40, -10 ** 40), True), ((1, -2), False), ((3, -4), True), ((0, 0), False), ((1, 0), False), ((-1, 1), False), ((1,), False), ((1, -1, 0), False), ((1, -1, -1), False), ((TOP, -TOP), True)):
            self.assert_shows("xx -x", "2 1", ("clash", numbers), shown)

    def test_not_in_lowest_terms_and_other_kinds(self):
        self.assert_shows("x -", "2", ("weights", ((2, 1), (0, 1))))
        for weights in (((4, 2), (0, 1)), ((2, 1), (0, 2)), ((2, 1), (0, 3)), ((2, True), (0, 1)), ((2, 1), (False, 1)), ((2, 1), (0, True)), (2, 0), ([2, 1], (0, 1)), [(2, 1), (0, 1)], ((2, 1), None), ((-2, -1), (0, 1)), ((2, 1), (-1, 1)),
                        ((2, 1), (0, -1)), ((2, 1),), ((2, 1), (0, 1), (0, 1)), "", None, {}, ()):
            self.assert_shows("x -", "2", ("weights", weights), False)
        self.assert_shows("x -", "-1/2", ("clash", (-1,)))
        for numbers in ((True,), (False,), ("-1",), (None,), ((-1, 1),), [-1], (1,), (0,), (), (-1, -1), -1, None, {}, ""):
            self.assert_shows("x -", "-1/2", ("clash", numbers), False)
        self.assert_shows("-", "1", ("clash", (1,)))
        self.assert_shows("-", "1", ("clash", (True,)), False)

    def test_of_words_and_shapes(self):
        good, bad = ("weights", totals_in("1 0")), ("clash", (1,))
        self.assert_shows("x x", "1", good)
        for thing in (list(good), good[::-1], (*good, ()), good[:1], good[1], ("weight", good[1]), ("Weights", good[1]), (None, good[1]), ("clash", good[1]), (True, good[1]), {"weights": good[1]}, bad, ("weights", (1,)), (["weights"], good[1])):
            self.assert_shows("x x", "1", thing, False)
        self.assertIs(shows_weights((), ints(0, 0), ("weights", ())), True)
        self.assertIs(shows_weights((), ints(0, 0), ("clash", (0, 0))), False)
        self.assertIs(shows_weights((), ints(0, 1), ("weights", ())), False)
        self.assertIs(shows_weights((), ints(0, 1), ("clash", (-7, 1))), True)

    def test_of_anything_a_truth_is_told(self):
        for thing in THINGS:
            self.assert_shows("x x", "1", thing, False)
            self.assert_shows("x x", "1", ("weights", thing), False)
            self.assert_shows("x x", "1", ("clash", thing), False)
            self.assert_shows("x x", "1", ("weights", ((1, 1), thing)), False)
            if not alike(thing, -1) and not alike(thing, -TOP):
                self.assert_shows("x x", "-1", ("clash", (thing,)), False)

    def test_just_one_of_both(self):
        chance = random.Random(113)
        for _ in range(300):
            fits = random_fits(chance, chance.randrange(0, 5), 2)
            totals = random_totals(chance, fits, 2)
            told = weights_for(fits, totals)
            for one in range(-3, 4):
                for two in range(-3, 4):
                    shown = shows_weights(fits, totals, ("clash", (one, two)))
                    self.assertFalse(shown and told[0] == "weights")
                    self.assertIs(shown, right(fits, totals, ("clash", (one, two))))

    def test_bent_at_random(self):
        chance = random.Random(114)
        seen = {True: 0, False: 0}
        for _ in range(4000):
            records, margins = chance.randrange(0, 6), chance.randrange(1, 5)
            fits = random_fits(chance, records, margins)
            totals = random_totals(chance, fits, margins)
            thing = bent(chance, weights_for(fits, totals))
            shown = answer_truth(self, shows_weights, fits, totals, thing)
            self.assertIs(shown, right(fits, totals, thing), thing)
            seen[shown] += 1
        self.assertGreater(min(seen.values()), 100, seen)

    def test_each_number_of_sure_weights_bent(self):
        fits, totals = fits_in("x-- -x- --x"), totals_in("1/2 0 7/3")
        weights = ((1, 2), (0, 1), (7, 3))
        self.assertIs(shows_weights(fits, totals, ("weights", weights)), True)
        for at in range(3):
            p, q = weights[at]
            for other in ((p + 1, q), (p - 1, q), (p, q + 1), (2 * p, 2 * q), (-p, q), (p, -q), (-p, -q), (p,), p, (p, q, 1), [p, q], (str(p), q), None, (9, 1)):
                if not (p == 0 and other == (0, 1)):
                    self.assertIs(shows_weights(fits, totals, ("weights", (*weights[:at], other, *weights[at + 1:]))), False, other)


class TestRefusals(unittest.TestCase):
    def assert_refused(self, error, fits, totals):
        refuse(self, error, weights_for, fits, totals)
        for thing in (("weights", ()), ("clash", (1,)), None):
            refuse(self, error, shows_weights, fits, totals, thing)

    def test_no_fits(self):
        wrong = [
            ((),), ((), ()), ((T,), ()), ((T, F), (T,)), ((T,), (T, F)), ((T,) * 11,), ((T,),) * 13, ((T,),) * 100, ((1,),), ((0,),), ((T, 1),), ((T, 0), (T, F)), ((T, None),), (("x",),), ([T],), [(T,)], (T,), T, {}, "x", ("x",), (None,),
            ((T,), None), {(T,): 0}, ((T,), [F]), (((T,),),), 0,
        ]
        for thing in [*wrong, *THINGS]:
            if not alike(thing, ()):
                for totals in (((1, 1),), ((1, 1), (2, 1)), (), None):
                    self.assert_refused(NoFits, thing, totals)

    def test_no_totals(self):
        fits = fits_in("xx -x")
        wrong = [
            (), ((1, 1),), ((1, 1),) * 3, [(1, 1), (1, 1)], ((1, 1), 1), ((1, 1), (2, 2)), ((1, 1), (1, 0)), ((1, 1), (1, -1)), ((1, 1), [1, 1]), ((1, 1), (True, 1)), ((1, 1), (1, True)), ((1, 1), None), (1, 1), None, {}, "", 0, True,
            ((1, 1), (1001, 1)), ((1, 1), (-1001, 1)), ((1, 1), (1, 1001)), ((1, 1), (999, 1001)), ((TOP, 1), (1, 1)), ((1, TOP), (1, 1)), ((-TOP, 1), (1, 1)), ((0, 2), (1, 1)), ((1, 1), (1,)), ((1, 1), (1, 1, 1)),
        ]
        for thing in [*wrong, *THINGS]:
            self.assert_refused(NoTotals, fits, thing)
            if thing not in (((1, 1),), ((1, 1),) * 3):
                self.assert_refused(NoTotals, (), thing)
        self.assert_refused(NoTotals, (), ((1, 1),) * 11)
        self.assert_refused(NoTotals, (), ((0, 1),) * 100)

    def test_as_many_as_there_can_be(self):
        for records in range(13):
            for margins in range(1, 11):
                fits = ((T,) * margins,) * records
                self.assertEqual(weights_for(fits, ((0, 1),) * margins), ("weights", ((0, 1),) * records))
        for total in ((1000, 1), (-1000, 1), (1, 1000), (-1, 1000), (999, 1000), (1000, 999), (0, 1)):
            self.assertEqual(weights_for(fits_in("x"), (total,))[0], "weights" if total[0] >= 0 else "clash")
