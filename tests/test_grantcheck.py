"""[2] and [14]: which papers of what is granted are taken, and which are not."""

import itertools
import random
import unittest

import papers
import plain
from strikeweave.grantcheck import shows_granted
from strikeweave.grants import granted
from strikeweave.webs import Web

# d is bare by c; a and b strike one another; e is granted, as f strikes itself.
NAMES = ["a", "b", "c", "d", "e", "f"]
STRIKES = plain.pairs_of("ab ba ac bc cd ef fe ff")


class Looks(unittest.TestCase):
    def ask(self, names, strikes, some, paper):
        was = repr((some, paper))
        answer = shows_granted(Web(names, strikes), some, paper)
        self.assertIs(answer, papers.shows_granted(names, strikes, some, paper), (strikes, some, paper))
        self.assertEqual(repr((some, paper)), was)
        if answer:
            self.assertEqual(sorted(some), papers.granted_set(names, strikes))
        return answer


class ByHand(Looks):
    def setUp(self):
        self.trees = [("f", ("clash", "f", "f"))]
        self.drops = [
            ("a", ("struck", ["b"])), ("b", ("struck", ["a"])), ("c", ("struck", ["a"])), ("d", ("bare", "c")),
            ("f", ("never", ("clash", "f", "f")))]

    def asked(self, trees, drops, some=("e",)):
        return self.ask(NAMES, STRIKES, some, (trees, drops))

    def test_taken(self):
        self.assertIs(self.asked(self.trees, self.drops), True)
        self.assertIs(self.asked(tuple(self.trees), tuple(self.drops), ["e"]), True)
        self.assertEqual(granted(Web(NAMES, STRIKES))[0], ["e"])

    def test_another_why_that_is_right(self):
        for at, why in (
                (0, ("struck", ("b",))), (0, ("struck", ["e", "d", "b"])), (2, ("struck", ["b"])),
                (4, ("struck", ["e"])), (4, ("struck", ["e", "a"]))):
            drops = list(self.drops)
            drops[at] = (drops[at][0], why)
            self.assertIs(self.asked(self.trees, drops), True)

    def test_another_why_that_is_wrong(self):
        for at, why in (
                (0, ("struck", ["a"])), (0, ("struck", ["d"])), (0, ("struck", [])), (0, ("struck", ["b", "b"])),
                (0, ("struck", ["b", "a"])), (0, ("struck", ["b", "z"])), (0, ("struck", "b")), (0, ("struck", None)),
                (0, ("struck", [["b"]])), (0, ("struck", ["b"], ["b"])), (0, ["struck", ["b"]]), (0, ("struck",)),
                (0, ("never", ("clash", "a", "a"))), (0, ("never", ("clash", "f", "f"))), (0, ("bare", "b")),
                (0, ("hit", ["b"])), (0, (None, ["b"])), (0, (["struck"], ["b"])), (0, None), (0, "struck"), (0, ()),
                (3, ("bare", "a")), (3, ("bare", "d")), (3, ("bare", "z")), (3, ("bare", ["c"])), (3, ("bare", None)),
                (3, ("struck", ["c"])), (3, ("struck", ["a"])), (4, ("never", ("clash", "e", "f"))),
                (4, ("never", None)), (4, ("never", ("answer", "f", "e", (("clash", "f", "f"),)))), (4, ("bare", "e"))):
            drops = list(self.drops)
            drops[at] = (drops[at][0], why)
            self.asked(self.trees, drops)
        drops = self.drops[:3] + [("d", ("struck", ["c"]))] + self.drops[4:]
        self.assertIs(self.asked(self.trees, drops), False)
        drops = [("a", ("struck", ["d", "b"]))] + self.drops[1:]
        self.assertIs(self.asked(self.trees, drops), True)
        drops = [("a", ("struck", ["c", "b"]))] + self.drops[1:]
        self.assertIs(self.asked(self.trees, drops), False)

    def test_a_bare_leans_on_drops_ahead_alone(self):
        for order in itertools.permutations(range(5)):
            drops = [self.drops[at] for at in order]
            # c is struck by a and b, so these two go ahead of d.
            right = order.index(3) > max(order.index(0), order.index(1))
            self.assertIs(self.asked(self.trees, drops), right)

    def test_a_bare_does_not_lean_on_itself(self):
        names, strikes = ["a", "b"], [("a", "b"), ("b", "a")]
        drops = [("a", ("bare", "b")), ("b", ("bare", "a"))]
        self.assertIs(self.ask(names, strikes, [], ([], drops)), False)
        drops = [("a", ("struck", ["b"])), ("b", ("bare", "a"))]
        self.assertIs(self.ask(names, strikes, [], ([], drops)), False)
        drops = [("a", ("struck", ["b"])), ("b", ("struck", ["a"]))]
        self.assertIs(self.ask(names, strikes, [], ([], drops)), True)

    def test_a_bare_of_what_nothing_strikes(self):
        names, strikes = ["a", "b"], [("a", "b")]
        for why in (("bare", "a"), ("struck", ["a"]), ("never", ("answer", "b", "a", ()))):
            self.assertIs(self.ask(names, strikes, ["a"], ([], [("b", why)])), True)

    def test_trees(self):
        tree = ("clash", "f", "f")
        for trees in (
                [], [("f", tree), ("f", tree)], [("e", tree)], [("f", tree), ("c", tree)], [["f", tree]], [("f",)],
                [("f", tree, tree)], [("f", None)], [("f", ("clash", "e", "f"))], [tree], [None], None, "f", 5,
                {}, ("f", tree), [("a", ("clash", "a", "a")), ("f", tree)]):
            self.assertIs(self.asked(trees, self.drops), False)

    def test_trees_rise(self):
        names, strikes = ["a", "b", "c"], plain.pairs_of("aa ac bb bc ca cb")
        trees = [("a", ("clash", "a", "a")), ("b", ("clash", "b", "b"))]
        drops = [("a", ("struck", ["c"])), ("b", ("struck", ["c"]))]
        self.assertIs(self.ask(names, strikes, ["c"], (trees, drops)), True)
        self.assertIs(self.ask(names, strikes, ["c"], (trees[::-1], drops)), False)
        self.assertIs(self.ask(names, strikes, ["c"], (trees[:1], drops)), False)
        self.assertIs(self.ask(names, strikes, ["c"], (trees, drops[::-1])), True)

    def test_drops(self):
        for drops in (
                [], self.drops[1:], self.drops[:-1], self.drops + self.drops[:1], self.drops[:1] + self.drops,
                self.drops + [("e", ("bare", "f"))], self.drops + [("z", ("bare", "f"))], self.drops + [None],
                [list(drop) for drop in self.drops], None, "a", 5, {}, [drop[0] for drop in self.drops],
                [drop + (None,) for drop in self.drops], [(["a"], drop[1]) for drop in self.drops]):
            self.assertIs(self.asked(self.trees, drops), False)

    def test_the_paper_is_a_pair(self):
        for paper in (
                [self.trees, self.drops], (self.trees,), (self.trees, self.drops, []), (self.drops, self.trees),
                self.trees + self.drops, (), None, "ab", 2, {}):
            self.assertIs(self.ask(NAMES, STRIKES, ["e"], paper), False)

    def test_other_sets_with_this_paper(self):
        for some in plain.subsets(NAMES):
            self.assertIs(self.asked(self.trees, self.drops, list(some)), some == ("e",))
        for some in papers.THINGS + ["e", ["e", "e"], ["z"], ["e", None], [["e"]], None, {"e": 1}]:
            self.assertIs(self.asked(self.trees, self.drops, some), False)

    def test_the_order_of_the_set(self):
        self.assertIs(self.ask(["a", "b"], [], ["b", "a"], ([], [])), True)
        self.assertIs(self.ask(["a", "b"], [], ("b", "a"), ((), ())), True)
        self.assertIs(self.ask(["a", "b"], [], ["b"], ([], [])), False)
        self.assertIs(self.ask([], [], [], ([], [])), True)


def why_otherwise(names, why):
    for word in ("struck", "never", "bare", "", None):
        yield (word, why[1])
        for name in names:
            yield (word, name)
            yield (word, [name])
            yield (word, ("clash", name, name))
    if why[0] == "never":
        for tree in papers.drawn(91, papers.tree_otherwise(names, why[1]), 100):
            yield ("never", tree)
    if why[0] == "struck":
        for name in names:
            yield ("struck", why[1] + [name])
            yield ("struck", [one for one in why[1] if one != name])
        yield ("struck", tuple(why[1]))
        yield ("struck", why[1][::-1])
    yield list(why)
    yield why + (None,)
    yield why[:1]


def paper_otherwise(names, paper):
    """A told paper with one thing otherwise, at any place."""
    trees, drops = paper
    yield from papers.THINGS
    yield list(paper)
    yield (drops, trees)
    yield paper + ([],)
    for other in papers.list_otherwise(trees, lambda pair: papers.pair_otherwise(
            names, pair, lambda tree: papers.drawn(92, papers.tree_otherwise(names, tree), 200))):
        yield (other, drops)
    for other in papers.list_otherwise(drops, lambda pair: papers.pair_otherwise(
            names, pair, lambda why: why_otherwise(names, why))):
        yield (trees, other)


class Otherwise(Looks):
    def webs(self):
        return list(plain.all_small_webs())[::13] + plain.drawn_webs(93, 12, 4, 6) + [
            (NAMES, STRIKES), plain.cliques([2, 2]), plain.row_web(6)]

    def test_papers_with_one_thing_otherwise(self):
        taken = wrong = 0
        for names, strikes in self.webs():
            some, paper = granted(Web(names, strikes))
            for other in papers.drawn(94, paper_otherwise(names, paper), 2500):
                answer = self.ask(names, strikes, some, other)
                taken += answer
                wrong += not answer
        self.assertGreater(taken, 100)
        self.assertGreater(wrong, 1000)

    def test_of_twelve_names(self):
        for names, strikes in plain.drawn_webs(95, 5, 12, 12):
            some, paper = granted(Web(names, strikes))
            for other in papers.drawn(96, itertools.islice(paper_otherwise(names, paper), 20000), 150):
                self.ask(names, strikes, some, other)

    def test_other_sets_with_a_told_paper(self):
        for names, strikes in self.webs():
            right, paper = granted(Web(names, strikes))
            for some in plain.subsets(names):
                self.assertIs(self.ask(names, strikes, list(some), paper), sorted(some) == right)
            for some in papers.THINGS + [right + [None], right + right[:1], [right], "".join(right)]:
                self.ask(names, strikes, some, paper)

    def test_drawn_papers_are_taken(self):
        source = random.Random(97)
        taken = 0
        for names, strikes in list(plain.all_small_webs())[::3] + plain.drawn_webs(98, 40, 4, 6):
            some = papers.granted_set(names, strikes)
            for again in range(4):
                paper = self.drawn_paper(source, names, strikes, some)
                self.assertIs(self.ask(names, strikes, some, paper), True)
                taken += len(paper[1]) > 1
        self.assertGreater(taken, 100)

    def drawn_paper(self, source, names, strikes, some):
        """A right paper that is not the told one but by chance."""
        def tree_of(name):
            return papers.drawn_tree(source, names, strikes, [], ("clash", "answer"), [name])
        trees = [(name, tree_of(name)) for name in sorted({one for one, other in strikes if other in some})]
        standing = plain.all_standing(names, strikes)
        drops, left = [], [name for name in names if name not in some]
        while left:
            name = source.choice(left)
            whys = [("struck", source.sample(one, len(one))) for one in standing
                    if any((mine, name) in strikes for mine in one)]
            if not any(name in one for one in standing):
                whys.append(("never", tree_of(name)))
            ahead = [drop[0] for drop in drops]
            whys += [("bare", b) for b in names
                     if (b, name) in strikes and all(one in ahead for one, other in strikes if other == b)]
            if whys:
                drops.append((name, source.choice(whys)))
                left.remove(name)
        return (trees, drops)


if __name__ == "__main__":
    unittest.main()
