"""Points 1, 23, 24 and 111 to 114: groups, clusters, prices and cheapest orders."""

import copy
import inspect
import random
import unittest
from itertools import combinations, permutations
from time import perf_counter

from shadowlinks.links import whole
from shadowlinks.orders import cheapest, clusters, groups_of, price
from tests.linkcases import BITS, KINDS, LINES, ROWS, STEPS, WHOLES, WORDS, made_links

PATH = (("a", "b"), ("b", "c"), ("c", "d"))
RING = (("a", "b"), ("b", "c"), ("c", "d"), ("a", "d"))


def clusters_by_hand(groups, order):
    """What point 112 says, with sets."""
    left = [set(group) for group in groups]
    for name in order:
        met = [group for group in left if name in group]
        cluster = {name}.union(*met)
        yield tuple(sorted(cluster))
        left = [group for group in left if name not in group] + [cluster - {name}]


def price_by_hand(groups, order):
    return max((len(cluster) for cluster in clusters_by_hand(groups, order)), default=0)


def made_groups(seed, count):
    maker = random.Random(seed)
    for number in range(count):
        names = tuple("abcdefg"[:2 + number % 6])
        many = maker.randrange(9)
        yield names, [tuple(sorted(maker.sample(names, maker.randrange(min(4, len(names)))))) for _ in range(many)]


class GroupsTest(unittest.TestCase):
    def test_every_kind(self):
        for kind, constraints, wanted in (
            (BITS, ((("a", 1), ("c", 0)), (), (("b", 1),)), (("a", "c"), (), ("b",))),
            (STEPS, (("c", "a", 1), ("", "b", 2), ("a", "", 0), ("", "", 3)), (("a", "c"), ("b",), ("a",), ())),
            (LINES, (((("a", 1), ("b", -2)), "<=", 1), ((), "=", 0)), (("a", "b"), ())),
            (WHOLES, (((("b", 3),), 2, 1), ((), 0, 0)), (("b",), ())),
            (ROWS, ((("a", "b"), ()), ((), ((),))), (("a", "b"), ())),
            (WORDS, ((("a",), ((0, 0),), (1,)), ((), ((0,),), (1,))), (("a",), ())),
        ):
            self.assertEqual(groups_of(kind, (("a", "b", "c"), constraints)), wanted)
            self.assertEqual(groups_of(kind, (("a",), ())), ())

    def test_ascending_names(self):
        for kind in KINDS:
            for link in made_links(kind, 71, 10):
                theory = whole(link)
                found = groups_of(kind, theory)
                self.assertIs(found.__class__, tuple)
                self.assertEqual(len(found), len(theory[1]))
                for constraint, group in zip(theory[1], found):
                    self.assertEqual(group, tuple(sorted(kind.names_in(constraint))))


class ClustersTest(unittest.TestCase):
    def test_examples(self):
        self.assertEqual(list(clusters(PATH, ("b", "c"))), [("a", "b", "c"), ("a", "c", "d")])
        self.assertEqual(list(clusters(PATH, ("a", "b", "c", "d"))), [("a", "b"), ("b", "c"), ("c", "d"), ("d",)])
        self.assertEqual(list(clusters(RING, ["a", "c"])), [("a", "b", "d"), ("b", "c", "d")])

    def test_edges(self):
        self.assertEqual(list(clusters(PATH, ())), [])
        self.assertEqual(list(clusters((), ("b", "a"))), [("b",), ("a",)])
        self.assertEqual(list(clusters(PATH, ("x", "a"))), [("x",), ("a", "b")])
        self.assertEqual(list(clusters(((), ("a",), ("a",), ()), ("a",))), [("a",)])
        self.assertEqual(list(clusters([("a", "b"), ("a", "b")], ["b", "a"])), [("a", "b"), ("a",)])

    def test_by_hand(self):
        for names, groups in made_groups(72, 60):
            for order in list(permutations(names, min(4, len(names))))[::7]:
                kept = copy.deepcopy(groups)
                self.assertEqual(list(clusters(groups, order)), list(clusters_by_hand(groups, order)))
                self.assertEqual(price(groups, order), price_by_hand(groups, order))
                self.assertEqual(groups, kept)

    def test_a_generator(self):
        self.assertTrue(inspect.isgeneratorfunction(clusters))


class PriceTest(unittest.TestCase):
    def test_examples(self):
        self.assertEqual(price(PATH, ("b", "c")), 3)
        self.assertEqual(price(PATH, ["a", "b", "c", "d"]), 2)
        self.assertEqual(price(RING, ("a", "b", "c", "d")), 3)
        self.assertEqual(price((("a", "b", "c", "d", "e"), ("f",)), ("f", "a")), 5)

    def test_edges(self):
        self.assertEqual(price(PATH, ()), 0)
        self.assertEqual(price((), ()), 0)
        self.assertEqual(price((), ("a",)), 1)
        self.assertEqual(price(((), ()), ["a", "b"]), 1)


class CheapestTest(unittest.TestCase):
    def test_examples(self):
        self.assertEqual(cheapest(PATH, ("b", "c")), (3, ("b", "c")))
        self.assertEqual(cheapest(PATH, ("a", "b", "c", "d")), (2, ("a", "b", "c", "d")))
        self.assertEqual(cheapest((("a", "b"), ("a", "c"), ("a", "d")), ("a", "b", "c", "d"))[1], ("b", "c", "a", "d"))

    def test_edges(self):
        self.assertEqual(cheapest(PATH, ()), (0, ()))
        self.assertEqual(cheapest((), ()), (0, ()))
        self.assertEqual(cheapest((), ("a", "b")), (1, ("a", "b")))
        self.assertEqual(cheapest(PATH, ("x",)), (1, ("x",)))
        self.assertEqual(cheapest([(), ("a",), ("a",)], ["a"]), (1, ("a",)))

    def test_the_price_of_the_first_name_may_be_greater_than_needed_later(self):
        # The first name costs 4 in any order, so the others may come in any order of at most this price.
        groups = (("a", "b", "c", "d"), ("d", "e"), ("e", "f"))
        found = cheapest(groups, ("a", "d", "e"))
        self.assertEqual(found, (4, ("a", "d", "e")))

    def test_all_orders(self):
        for names, groups in made_groups(73, 90):
            for some in list(combinations(names, min(5, len(names))))[:4]:
                prices = sorted((price_by_hand(groups, order), order) for order in permutations(some))
                kept = copy.deepcopy(groups)
                self.assertEqual(cheapest(groups, some), prices[0], groups)
                self.assertEqual(groups, kept)

    def test_quick(self):
        maker = random.Random(74)
        for count in (6, 9):
            names = tuple("abcdefghi"[:count])
            groups = [tuple(sorted(maker.sample("abcdefghijk", 4))) for _ in range(8)]
            start = perf_counter()
            self.assertEqual(price(groups, cheapest(groups, names)[1]), cheapest(groups, names)[0])
            self.assertLess(perf_counter() - start, 2)


if __name__ == "__main__":
    unittest.main()
