"""The folk of a chain: point [64] and the heading fewchairs/folkchains.py."""

import itertools
import unittest

from fewchairs.chains import Chain
from fewchairs.crowds import kinds_in
from fewchairs.errors import NoChair, WrongHouse
from fewchairs.folkchains import chain_folk
from fewchairs.folkjudge import folk_end, folk_judge
from fewchairs.folks import Folk
from tests.helpers import MANY, Case, plainly_nested, row_chain, rule_rows

CHAINS = ([Chain(rules) for rules in rule_rows((1, 1, 1), 2) + rule_rows((1,) * 4, 2, 3) + rule_rows((1,) * 4, 3, 31)
           if plainly_nested(rules)]
          + [Chain(row_chain(people, chairs, most=(1,) * people, first=first))
             for people, chairs in [(1, 2), (2, 5), (5, 3), (6, 4), (6, 5)] for first in (0, 2)])


class ChainFolk(Case):
    def test_who_is_joined(self):
        for chain in CHAINS:
            for chairs in range(2, chain.most_chairs + 1):
                folk = chain_folk(chain, chairs)
                self.assertIsInstance(folk, Folk)
                self.assertTrue(folk.custom == chain[chairs].custom)
                for meeting in folk.custom.house.meetings():
                    rising = set(kinds_in(chain[chairs].end(meeting))) - set(kinds_in(chain[chairs - 1].end(meeting)))
                    self.assertEqual({folk.joined(meeting)}, rising)

    def test_they_are_order_free(self):
        for chain in CHAINS:
            for chairs in range(2, chain.most_chairs + 1):
                self.assertEqual(folk_judge(chain_folk(chain, chairs))[0], "free")

    def test_the_partings(self):
        for chain in CHAINS[::3] + CHAINS[-4:]:
            people = chain[1].house.kinds
            for chairs in range(2, chain.most_chairs + 1):
                folk = chain_folk(chain, chairs)
                for crowd in itertools.product((0, 1), repeat=people):
                    fewer, there = kinds_in(chain[chairs - 1].end(crowd)), kinds_in(crowd)
                    last = [person for person in kinds_in(chain[chairs].end(crowd)) if person not in fewer]
                    rest = tuple(person for person in there if person not in fewer)
                    wanted = sorted([(person, (person,)) for person in fewer] + [(head, rest) for head in last])
                    self.assertEqual(folk_end(folk, there[::-1]), wanted)

    def test_guests_that_are_not_unlike(self):
        for most in [(), (2, 1, 1), (1, 1, 3)]:
            for chairs in (0, 1, 2, 3, 9):
                chain = Chain(row_chain(3, 2, most=most))
                self.fails(WrongHouse, {"what": "most"}, chain_folk, chain, chairs)

    def test_wrong_numbers_of_chairs(self):
        for most in (1, 2, 5):
            chain = Chain(row_chain(4, most, most=(1,) * 4))
            for chairs in [1, 0, -1, most + 1, MANY, -MANY]:
                self.fails(NoChair, {"chairs": chairs}, chain_folk, chain, chairs)


if __name__ == "__main__":
    unittest.main()
