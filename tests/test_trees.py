"""Points 23, 24 and 115 to 121: trees, connected names, messages and views."""

import copy
import inspect
import random
import unittest
from itertools import combinations, product
from time import perf_counter

from shadowlinks.errors import InvalidTree
from shadowlinks.links import shadows
from shadowlinks.shadows import shadow
from shadowlinks.theories import join
from shadowlinks.trees import check_tree, join_tree, messages, views, walk
from tests.linkcases import BITS, KINDS, limit_links, made_part
from tests.texts import check_tuples


def all_trees(count):
    """All trees with so many places."""
    for parents in product(range(count), repeat=max(0, count - 1)):
        tree = (-1, *parents)[:count]
        if all(leads_to_start(tree, place) for place in range(count)):
            yield tree


def leads_to_start(tree, place):
    for _ in range(len(tree)):
        if place == 0:
            return True
        place = tree[place]
    return False


def below(tree, place):
    """The place and all places below it."""
    found = {place}
    for _ in tree:
        found |= {own for own, parent in enumerate(tree) if parent in found}
    return found


def scattered(groups, tree):
    """The names whose places are not connected, by paths."""
    found = []
    for name in sorted({name for group in groups for name in group}):
        places = {place for place, group in enumerate(groups) if name in group}
        met = {min(places)}
        for _ in tree:
            met |= {own for own in places if tree[own] in met} | {tree[own] for own in met if tree[own] in places}
        if met != places:
            found.append(name)
    return found


def made_groups(seed, count, most=5):
    maker = random.Random(seed)
    for number in range(count):
        yield [tuple(sorted(maker.sample("abcde", maker.randrange(4)))) for _ in range(number % (most + 1))]


def trees_of_theories(kind, seed, count, most=4):
    """Theories of parts with a tree in which the places of every name are connected."""
    maker = random.Random(seed)
    while count > 0:
        parts = [made_part(maker, kind, "p", most=3) for _ in range(maker.randrange(1, most + 1))]
        theories = [shadow(kind, one.theory, shown=one.shown) for one in parts]
        for at in range(len(theories)):
            if maker.randrange(3) and parts[at].hidden == ():
                theories[at] = parts[at].theory
        trees = [tree for tree in all_trees(len(theories)) if not scattered([names for names, _ in theories], tree)]
        if trees:
            count -= 1
            yield theories, maker.choice(trees)


class WalkTest(unittest.TestCase):
    def test_examples(self):
        self.assertEqual(list(walk((-1, 0, 0, 1, 1, 2))), [0, 1, 3, 4, 2, 5])
        self.assertEqual(list(walk((-1, 3, 0, 0, 1))), [0, 2, 3, 1, 4])
        self.assertEqual(list(walk((-1, 2, 3, 0))), [0, 3, 2, 1])
        self.assertEqual(list(walk((-1, 0, 1, 2, 3, 4))), [0, 1, 2, 3, 4, 5])

    def test_edges(self):
        self.assertEqual(list(walk(())), [])
        self.assertEqual(list(walk((-1,))), [0])

    def test_all_trees(self):
        def by_hand(tree, place):
            yield place
            for child, parent in enumerate(tree):
                if parent == place:
                    yield from by_hand(tree, child)

        for count in range(1, 6):
            for tree in all_trees(count):
                self.assertEqual(list(walk(tree)), list(by_hand(tree, 0)))

    def test_a_generator(self):
        self.assertTrue(inspect.isgeneratorfunction(walk))


class CheckTest(unittest.TestCase):
    def test_connected(self):
        for groups, tree in (
            ((), ()), (((),), (-1,)), ((("a", "b"),), (-1,)), ((("a", "b"), ("b", "c"), ("c",)), (-1, 0, 1)),
            ((("a",), ("b",), ("a",), ()), (-1, 0, 0, 1)), ((("a",), ("a",), ("a",)), (-1, 2, 0)),
        ):
            self.assertIsNone(check_tree(groups, tree))
            self.assertIsNone(check_tree(list(groups), tree))

    def test_the_least_name_that_is_not(self):
        for groups, tree, name in (
            ((("a",), (), ("a",)), (-1, 0, 1), "a"), ((("b",), ("a",), ("b", "c"), ("c",)), (-1, 0, 1, 0), "b"),
            (((), ("c", "d"), ("d",)), (-1, 0, 0), "d"), (((), ("d",), ("b", "d"), ("b",)), (-1, 0, 0, 0), "b"),
        ):
            with self.assertRaises(InvalidTree) as caught:
                check_tree(groups, tree)
            self.assertEqual(caught.exception.name, name)

    def test_all_trees(self):
        for groups in made_groups(81, 30, 4):
            for tree in all_trees(len(groups)):
                wrong = scattered(groups, tree)
                if not wrong:
                    self.assertIsNone(check_tree(groups, tree))
                    continue
                with self.assertRaises(InvalidTree) as caught:
                    check_tree(groups, tree)
                self.assertEqual(caught.exception.name, wrong[0])


class JoinTreeTest(unittest.TestCase):
    def test_edges(self):
        self.assertEqual(join_tree(()), ())
        self.assertEqual(join_tree([]), ())
        self.assertEqual(join_tree([()]), (-1,))
        self.assertEqual(join_tree([("a", "b")]), (-1,))
        self.assertIsNone(join_tree([("a", "b"), ("b", "c"), ("a", "c")]))
        for groups in (((), ()), (("a",), ("b",), ("c",)), (("a", "b"),) * 4, (("a",), (), ("a",))):
            tree = join_tree(groups)
            self.assertEqual(scattered(groups, tree), [])

    def test_exactly_if_there_is_one(self):
        found = set()
        for groups in made_groups(82, 150):
            kept = copy.deepcopy(groups)
            tree = join_tree(groups)
            self.assertEqual(groups, kept)
            wanted = any(not scattered(groups, own) for own in all_trees(len(groups)))
            self.assertIs(tree is not None, wanted, groups)
            found.add(wanted)
            if tree is not None:
                self.assertIs(tree.__class__, tuple)
                self.assertEqual(len(tree), len(groups))
                self.assertTrue(tree == () or tree[0] == -1)
                self.assertTrue(all(leads_to_start(tree, place) for place in range(len(tree))))
                self.assertEqual(scattered(groups, tree), [])
        self.assertEqual(found, {True, False})

    def test_all_pairs_and_triples(self):
        names = [tuple(names) for size in (1, 2, 3) for names in combinations("abcd", size)]
        for groups in combinations(names, 3):
            wanted = any(not scattered(groups, own) for own in all_trees(3))
            self.assertIs(join_tree(groups) is not None, wanted)


class MessagesTest(unittest.TestCase):
    def test_what_points_120_and_121_say(self):
        for kind in KINDS:
            for theories, tree in trees_of_theories(kind, 83, 15):
                kept = copy.deepcopy(theories)
                found = messages(kind, theories, tree)
                seen = views(kind, tuple(theories), tree)
                self.assertEqual(theories, kept)
                check_tuples(self, (found, seen))
                self.assertEqual((len(found), len(seen)), (len(tree), len(tree)))
                for place, (names, _) in enumerate(theories):
                    inside = below(tree, place)
                    shared = [] if place == 0 else [name for name in names if name in theories[tree[place]][0]]
                    low = join([theories[own] for own in sorted(inside)])
                    high = join([theories[own] for own in range(len(tree)) if own not in inside])
                    self.assertEqual(found[place][0], shadow(kind, low, shown=shared))
                    if place > 0:
                        self.assertEqual(found[place][1], shadow(kind, high, shown=shared))
                    self.assertEqual(seen[place], shadow(kind, join(theories), shown=names))

    def test_the_first_place(self):
        for kind in KINDS:
            for theories, tree in trees_of_theories(kind, 84, 6):
                found = messages(kind, theories, tree)
                self.assertEqual(found[0][1], kind.normal(((), ())))
                self.assertEqual(found[0][0], shadow(kind, join(theories), shown=()))

    def test_no_places(self):
        for kind in KINDS:
            self.assertEqual(messages(kind, (), ()), ())
            self.assertEqual(views(kind, [], ()), ())

    def test_one_place(self):
        theory = (("a", "b"), ((("a", 1), ("b", 1)), (("a", 0), ("b", 1))))
        self.assertEqual(messages(BITS, [theory], (-1,)), ((((), ()), ((), ())),))
        self.assertEqual(views(BITS, [theory], (-1,)), ((("a", "b"), ((("b", 1),),)),))

    def test_names_that_are_not_connected(self):
        broken = ("a", "b"), ((), ((), ()), "this is no constraint")
        for theories, tree, name in (
            ([broken, (("c",), ()), (("a", "c"), ())], (-1, 0, 1), "a"),
            ([(("c",), ()), broken, (("b", "c"), ())], (-1, 0, 0), "b"),
        ):
            for work in (messages, views):
                with self.assertRaises(InvalidTree) as caught:
                    work(BITS, theories, tree)
                self.assertEqual(caught.exception.name, name)


class QuickTest(unittest.TestCase):
    def test_limits(self):
        for kind in KINDS:
            for link in limit_links(kind, 85, 4):
                theories = shadows(link)
                tree = join_tree([names for names, _ in theories])
                if tree is not None:
                    start = perf_counter()
                    views(kind, theories, tree)
                    self.assertLess(perf_counter() - start, 4, kind.WORD)


if __name__ == "__main__":
    unittest.main()
