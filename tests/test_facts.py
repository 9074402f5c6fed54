"""Facts: points [36] and [37], and the heading fewchairs/facts.py."""

import itertools
import random
import unittest

from fewchairs.errors import BadCrowd, BadNumber, NoSuchEnd
from fewchairs.facts import Facts
from fewchairs.sharecount import count_shares, shares_at
from fewchairs.shares import Shares
from tests.helpers import MANY, Case, all_crowds, all_shares


def facts_of(chairs, *told):
    facts = Facts(chairs)
    for crowd, end in told:
        facts.tell(crowd, end)
    return facts


def fitting(every, told):
    """The shares that fit all facts, gone through one by one."""
    return [shares for shares in every if all(shares.end(crowd) == end for crowd, end in told)]


def plain_quarrel(every, told):
    """The quarrel by the words of [37]."""
    left = list(range(len(told)))
    for at in range(len(told)):
        rest = [other for other in left if other != at]
        if not fitting(every, [told[other] for other in rest]):
            left = rest
    return left


def some_facts(chance, every, number):
    """Facts of which most fit one of the shares and some another one."""
    truth = chance.choice(every)
    told = []
    for _ in range(number):
        crowd = tuple(chance.choice([0, 1, 2, 3, 4, 5, 6, MANY]) for _ in range(3))
        shares = truth if chance.random() < 0.8 else chance.choice(every)
        told.append((crowd, shares.end(crowd)))
    return told


class Telling(Case):
    def test_no_facts(self):
        facts = Facts(3)
        self.assertEqual(facts.chairs, 3)
        self.assertEqual(facts.told, [])
        self.assertEqual(facts.how_many(), 80)
        self.assertIsNone(facts.quarrel())

    def test_told_in_order(self):
        facts = Facts(2)
        self.assertIsNone(facts.tell((0, 5, 5), (0, 2, 0)))
        facts.tell((1, 0, 0), (1, 0, 0))
        facts.tell((0, 5, 5), (0, 2, 0))
        self.assertEqual(facts.told, [((0, 5, 5), (0, 2, 0)), ((1, 0, 0), (1, 0, 0)), ((0, 5, 5), (0, 2, 0))])
        self.assertIsNone(facts.drop(0))
        self.assertEqual(facts.told, [((1, 0, 0), (1, 0, 0)), ((0, 5, 5), (0, 2, 0))])

    def test_a_fact_told_twice_must_be_dropped_twice(self):
        facts = facts_of(2, ((5, 5, 5), (1, 1, 0)), ((5, 5, 5), (1, 1, 0)))
        self.assertEqual(facts.how_many(), 4)
        facts.drop(1)
        self.assertEqual(facts.how_many(), 4)
        facts.drop(0)
        self.assertEqual(facts.how_many(), 24)

    def test_a_changed_list_changes_nothing(self):
        facts = facts_of(2, ((0, 5, 5), (0, 2, 0)))
        facts.told.clear()
        facts.told.append(None)
        facts.possible((0, 5, 5)).clear()
        self.assertEqual(facts.told, [((0, 5, 5), (0, 2, 0))])
        self.assertEqual(facts.possible((0, 5, 5)), [(0, 2, 0)])

    def test_facts_of_fewer_guests_than_chairs_tell_nothing(self):
        facts = facts_of(3, ((1, 1, 0), (1, 1, 0)), ((0, 0, 0), (0, 0, 0)), ((0, 0, 2), (0, 0, 2)))
        self.assertEqual(facts.how_many(), 80)
        self.assertEqual(facts.possible((1, 1, 0)), [(1, 1, 0)])

    def test_wrong_numbers_of_chairs(self):
        for chairs in [0, -1, 13, MANY]:
            self.fails(BadNumber, {"number": chairs}, Facts, chairs)
        self.assertEqual(Facts(12).how_many(), 372736)
        self.assertEqual(Facts(1).how_many(), 6)


class WrongFacts(Case):
    def setUp(self):
        self.facts = facts_of(2, ((5, 5, 5), (1, 1, 0)))

    def tearDown(self):
        self.assertEqual(self.facts.told, [((5, 5, 5), (1, 1, 0))])
        self.assertEqual(self.facts.how_many(), 4)

    def test_wrong_crowds(self):
        for crowd in [(-1, 5, 5), (5, -1, 5), (5, 5, -1), (5, 5), (), (5, 5, 5, 5)]:
            for end in [(0, 1, 1), (), crowd]:
                self.fails(BadCrowd, {"crowd": crowd}, self.facts.tell, crowd, end)
            self.fails(BadCrowd, {"crowd": crowd}, self.facts.possible, crowd)
            self.fails(BadCrowd, {"crowd": crowd}, self.facts.answer, crowd)

    def test_wrong_ends(self):
        for crowd, end in [((5, 5, 5), (1, 1, 1)), ((5, 5, 5), (1, 0, 0)), ((5, 5, 5), (2, 1, -1)),
                           ((5, 5, 5), (1, 1)), ((5, 5, 5), ()), ((5, 5, 5), (1, 1, 0, 0)), ((1, 1, 5), (2, 0, 0)),
                           ((1, 0, 0), (0, 0, 0)), ((1, 0, 0), (2, 0, 0)), ((1, 0, 0), (0, 1, 0)),
                           ((0, 0, 0), (1, -1, 0)), ((1, 0, 0), (1, 1, 0))]:
            self.fails(NoSuchEnd, {"crowd": end}, self.facts.tell, crowd, end)

    def test_wrong_indexes(self):
        for at in [-1, 1, -2, MANY]:
            self.fails(BadNumber, {"number": at}, self.facts.drop, at)
        self.fails(BadNumber, {"number": 0}, Facts(2).drop, 0)


class Fits(Case):
    def test_some_shares(self):
        facts = facts_of(2, ((0, 5, 5), (0, 2, 0)))
        self.assertIs(facts.fits(Shares.spelled([1], [0], [])), True)
        self.assertIs(facts.fits(Shares.spelled([2], [0], [])), False)
        self.assertIs(facts.fits(Shares.spelled([1, 1], [0], [])), False)
        self.assertIs(Facts(2).fits(Shares.spelled([1], [], [])), False)
        self.assertIs(Facts(2).fits(Shares.spelled([1], [], [0])), True)
        self.assertIs(Facts(2).fits(Shares((MANY, 0, 0), (((1, MANY),), (), ()))), False)

    def test_all_shares(self):
        told = [((0, 5, 5), (0, 2, 1)), ((1, 5, 5), (1, 1, 1))]
        facts = facts_of(3, *told)
        for shares in all_shares(3):
            self.assertEqual(facts.fits(shares), shares in fitting(all_shares(3), told))


class AgainstAllShares(Case):
    """Everything that facts answer, against the shares gone through one by one."""

    def check(self, facts, told, every):
        fit = fitting(every, told)
        self.assertEqual(facts.told, told)
        self.assertEqual(facts.how_many(), len(fit))
        some = facts.some()
        self.assertTrue(some in fit if fit else some is None)
        if fit:
            self.assertIsNone(facts.quarrel())
        else:
            self.assertEqual(facts.quarrel(), plain_quarrel(every, told))
        return fit

    def check_crowd(self, facts, fit, crowd):
        ends = sorted({shares.end(crowd) for shares in fit})
        self.assertEqual(facts.possible(crowd), ends)
        answer = facts.answer(crowd)
        if len(ends) > 1:
            word, one, other = answer
            self.assertEqual(word, "open")
            self.assertTrue(one in fit and other in fit)
            self.assertNotEqual(one.end(crowd), other.end(crowd))
        else:
            self.assertEqual(answer, ("sure", ends[0]) if ends else ("none",))

    def test_single_facts(self):
        for chairs in (1, 2, 3):
            every = all_shares(chairs)
            for crowd in all_crowds((chairs + 1,) * 3):
                for end in all_crowds(crowd):
                    if sum(end) == min(chairs, sum(crowd)):
                        facts = facts_of(chairs, (crowd, end))
                        self.check(facts, [(crowd, end)], every)

    def test_several_facts(self):
        chance = random.Random(1)
        for chairs, rounds in [(1, 60), (2, 120), (3, 120), (4, 60)]:
            every = all_shares(chairs)
            for _ in range(rounds):
                told = some_facts(chance, every, chance.randint(0, 9))
                facts = facts_of(chairs, *told)
                fit = self.check(facts, told, every)
                for _ in range(4):
                    self.check_crowd(facts, fit, tuple(chance.choice([0, 1, 2, 3, 5, MANY]) for _ in range(3)))

    def test_all_crowds_after_some_facts(self):
        chance = random.Random(2)
        for chairs in (1, 2, 3):
            every = all_shares(chairs)
            for number in (0, 1, 1, 2, 3):
                told = some_facts(chance, every, number)
                facts = facts_of(chairs, *told)
                for crowd in all_crowds((chairs + 1,) * 3):
                    self.check_crowd(facts, fitting(every, told), crowd)

    def test_dropping(self):
        chance = random.Random(3)
        every = all_shares(3)
        for _ in range(40):
            told = some_facts(chance, every, 7)
            facts = facts_of(3, *told)
            while told:
                at = chance.randrange(len(told))
                facts.drop(at)
                del told[at]
                self.check(facts, told, every)
            self.assertEqual(facts.how_many(), 80)


class Quarrels(Case):
    def test_two_ends_of_one_crowd(self):
        facts = facts_of(2, ((5, 5, 5), (1, 1, 0)), ((1, 0, 0), (1, 0, 0)), ((9, 9, 9), (0, 1, 1)))
        self.assertEqual(facts.quarrel(), [0, 2])
        self.assertEqual(facts.answer((1, 1, 1)), ("none",))
        self.assertEqual(facts.answer((0, 0, 0)), ("none",))
        self.assertEqual(facts.possible((0, 0, 0)), [])
        self.assertIsNone(facts.some())
        self.assertEqual(facts.how_many(), 0)

    def test_the_last_ones_of_several_quarrels(self):
        one, other = ((5, 5, 5), (1, 1, 0)), ((5, 5, 5), (0, 1, 1))
        self.assertEqual(facts_of(2, one, other, one, other).quarrel(), [2, 3])
        self.assertEqual(facts_of(2, one, other, one).quarrel(), [1, 2])
        self.assertEqual(facts_of(2, one, other, other).quarrel(), [0, 2])

    def test_one_fact_never_quarrels_and_two_of_different_crowds_may(self):
        told = [((0, 1, 2), (0, 0, 2)), ((1, 1, 1), (1, 1, 0))]
        for fact in told:
            self.assertIsNone(facts_of(2, fact).quarrel())
        self.assertEqual(facts_of(2, *told).quarrel(), [0, 1])
        self.assertEqual(plain_quarrel(all_shares(2), told), [0, 1])

    def test_it_stays_a_quarrel_and_no_fact_of_it_can_be_spared(self):
        chance = random.Random(4)
        truths = [shares_at(12, number) for number in (100000, 200000, 372735, 5)]
        facts = Facts(12)
        for _ in range(1500):
            crowd = tuple(chance.randrange(14) for _ in range(3))
            facts.tell(crowd, chance.choice(truths).end(crowd))
        quarrel = facts.quarrel()
        told = [facts.told[at] for at in quarrel]
        self.assertEqual(quarrel, sorted(set(quarrel)))
        self.assertEqual(facts_of(12, *told).how_many(), 0)
        for at in range(len(told)):
            self.assertGreater(facts_of(12, *told[:at], *told[at + 1:]).how_many(), 0)
        # All later facts but those of the quarrel could be spared, but nothing could be spared earlier.
        later = facts.told[quarrel[0]:]
        self.assertEqual(facts_of(12, *later).how_many(), 0)
        self.assertGreater(facts_of(12, *later[1:]).how_many(), 0)


class ManyChairs(Case):
    def test_all_facts_of_one_custom(self):
        truth = shares_at(12, 300000)
        facts = Facts(12)
        for crowd in itertools.product(range(0, 13, 2), repeat=3):
            facts.tell(crowd, truth.end(crowd))
        self.assertTrue(facts.fits(truth))
        some = facts.some()
        self.assertTrue(facts.fits(some))
        for crowd in itertools.product(range(13), repeat=3):
            facts.tell(crowd, truth.end(crowd))
        self.assertEqual(facts.how_many(), 1)
        self.assertTrue(facts.some() == truth)
        for crowd in [(3, 9, 1), (MANY, 0, 5), (MANY, MANY, MANY), (0, 0, 0)]:
            self.assertEqual(facts.answer(crowd), ("sure", truth.end(crowd)))
        self.assertEqual(len(facts.told), 7 ** 3 + 13 ** 3)

    def test_bounds_of_long_words(self):
        facts = facts_of(12, ((MANY, MANY, MANY), (12, 0, 0)))
        self.assertEqual(facts.how_many(), 2 ** 12)
        facts.tell((6, MANY, 4), (6, 2, 4))
        self.assertEqual(facts.how_many(), 22 * 2 ** 6)
        facts.tell((2, MANY, MANY), (2, 4, 6))
        self.assertEqual(facts.possible((6, MANY, MANY)), [(6, 0, 6), (6, 1, 5), (6, 2, 4)])
        word, one, other = facts.answer((6, MANY, MANY))
        self.assertEqual(word, "open")
        self.assertTrue(facts.fits(one) and facts.fits(other))
        self.assertNotEqual(one.end((6, MANY, MANY)), other.end((6, MANY, MANY)))
        facts.tell((6, MANY, MANY), (6, 0, 6))
        self.assertEqual(facts.how_many(), 4)
        facts.tell((5, MANY, MANY), (5, 0, 7))
        self.assertEqual(facts.quarrel(), [2, 4])

    def test_13_chairs_are_too_many_but_their_shares_may_be_asked_for(self):
        self.assertIs(Facts(12).fits(shares_at(13, count_shares(13) - 1)), False)


if __name__ == "__main__":
    unittest.main()
