"""Promise 5, its first two sentences: multiples are alike, and for primes nothing else is."""

import unittest
from itertools import combinations

from stepwebs.nets import are_alike, likeness, net_of, shows_likeness
from stepwebs.webs import are_multiples, factors, least_multiple, multiples, times
from tests.samples import GOOD_WEBS, all_webs


class MultiplesAreAlikeTest(unittest.TestCase):
    def test_all_webs_of_few_halls(self):
        for halls in range(2, 9):
            for web in all_webs(halls):
                for other in multiples(web):
                    self.assertIs(are_alike(net_of(web), net_of(other)), True)

    def test_webs_of_many_halls(self):
        webs = GOOD_WEBS + all_webs(9)[::7] + all_webs(10)[::11] + all_webs(12)[::41] + all_webs(13)[::83]
        for web in webs:
            for other in multiples(web):
                self.assertIs(are_alike(net_of(web), net_of(other)), True)

    def test_a_factor_shows_it(self):
        for web in GOOD_WEBS + all_webs(12)[::41]:
            halls = web[0]
            for factor in factors(halls):
                order = tuple(hall * factor % halls for hall in range(halls))
                self.assertIs(shows_likeness(net_of(web), net_of(times(web, factor)), order), True)


class PrimeHallsTest(unittest.TestCase):
    def test_all_pairs_of_few_halls(self):
        for halls in (2, 3, 5):
            for one in all_webs(halls):
                for other in all_webs(halls):
                    alike = are_alike(net_of(one), net_of(other))
                    self.assertIs(alike, are_multiples(one, other))

    def test_all_least_webs(self):
        for halls, many in ((7, 14), (11, 108), (13, 352)):
            least = [web for web in all_webs(halls) if least_multiple(web) == web]
            self.assertEqual(len(least), many)
            nets = [net_of(web) for web in least]
            for one, other in combinations(nets, 2):
                self.assertIsNone(likeness(one, other))


class OtherHallsTest(unittest.TestCase):
    def test_alike_and_no_multiples(self):
        for one, other in (((8, (1, 2, 5)), (8, (1, 5, 6))), ((9, (1, 3, 4, 7)), (9, (1, 4, 6, 7)))):
            self.assertIs(are_multiples(one, other), False)
            self.assertIs(are_alike(net_of(one), net_of(other)), True)


if __name__ == "__main__":
    unittest.main()
