"""[2], [10], [11] and [12]: which trees are taken, and which are not."""

import itertools
import random
import unittest

import papers
import plain
from strikeweave.treecheck import shows_greatest, shows_none, shows_outright
from strikeweave.trees import greatest_with, outright_with, standing_with
from strikeweave.webs import Web


class Looks(unittest.TestCase):
    """What is asked here is asked of a plain look, too."""

    def none(self, names, strikes, some, tree):
        was = repr((some, tree))
        answer = shows_none(Web(names, strikes), some, tree)
        self.assertIs(answer, papers.shows_none(names, strikes, some, tree), (strikes, some, tree))
        self.assertEqual(repr((some, tree)), was)
        return answer

    def greatest(self, names, strikes, sets, tree):
        was = repr((sets, tree))
        answer = shows_greatest(Web(names, strikes), sets, tree)
        self.assertIs(answer, papers.shows_greatest(names, strikes, sets, tree), (strikes, sets, tree))
        self.assertEqual(repr((sets, tree)), was)
        return answer

    def outright(self, names, strikes, sets, tree):
        was = repr((sets, tree))
        answer = shows_outright(Web(names, strikes), sets, tree)
        self.assertIs(answer, papers.shows_outright(names, strikes, sets, tree), (strikes, sets, tree))
        self.assertEqual(repr((sets, tree)), was)
        return answer


class ByHand(Looks):
    def test_clash(self):
        names, strikes = ["a", "b", "c"], [("a", "b"), ("c", "c")]
        self.assertIs(self.none(names, strikes, ["a", "b"], ("clash", "a", "b")), True)
        self.assertIs(self.none(names, strikes, ("b", "a"), ("clash", "a", "b")), True)
        self.assertIs(self.none(names, strikes, ["a", "b"], ("clash", "b", "a")), False)
        self.assertIs(self.none(names, strikes, ["a"], ("clash", "a", "b")), False)
        self.assertIs(self.none(names, strikes, ["b"], ("clash", "a", "b")), False)
        self.assertIs(self.none(names, strikes, ["c"], ("clash", "c", "c")), True)
        self.assertIs(self.none(names, strikes, ["a"], ("clash", "a", "a")), False)
        self.assertIs(self.none(names, strikes, [], ("clash", "c", "c")), False)
        self.assertIs(self.none(names, strikes, ["a", "b"], ("clash", "a", "b", ())), False)
        self.assertIs(self.none(names, strikes, ["a", "b"], ["clash", "a", "b"]), False)

    def test_answer(self):
        names = ["a", "b", "c", "d"]
        strikes = [("b", "a"), ("c", "b"), ("d", "b"), ("a", "c"), ("d", "d")]
        right = ("answer", "a", "b", (("clash", "a", "c"), ("clash", "d", "d")))
        self.assertIs(self.none(names, strikes, ["a"], right), True)
        self.assertIs(self.none(names, strikes, ["a"], ("answer", "a", "b", right[3][::-1])), False)
        self.assertIs(self.none(names, strikes, ["a"], ("answer", "a", "b", right[3][:1])), False)
        self.assertIs(self.none(names, strikes, ["a"], ("answer", "a", "b", list(right[3]))), False)
        self.assertIs(self.none(names, strikes, ["a"], ("answer", "a", "b", right[3] + right[3][1:])), False)
        self.assertIs(self.none(names, strikes, ["a"], ("answer", "b", "a", right[3])), False)
        self.assertIs(self.none(names, strikes, ["a", "d"], right), False, "d is held and strikes b")
        self.assertIs(self.none(names, strikes, ["b"], right), False)

    def test_an_answer_without_trees(self):
        names, strikes = ["a", "b"], [("b", "a")]
        self.assertIs(self.none(names, strikes, ["a"], ("answer", "a", "b", ())), True)
        self.assertIs(self.none(names, strikes, ["a"], ("answer", "a", "b", [])), False)
        self.assertIs(self.none(names, strikes, ["a"], ("answer", "a", "b")), False)
        self.assertIs(self.none(names, strikes, ["b"], ("answer", "a", "b", ())), False)
        self.assertIs(self.none(names, strikes, ["b"], ("answer", "b", "a", ())), False)

    def test_an_answer_where_a_clash_would_do(self):
        names, strikes = ["a", "b", "c"], [("b", "a"), ("c", "b"), ("b", "c")]
        right = ("answer", "a", "b", (("clash", "b", "a"),))
        self.assertIs(self.none(names, strikes, ["a", "b"], ("clash", "b", "a")), True)
        self.assertIs(self.none(names, strikes, ["a", "b"], right), True)
        self.assertIs(self.none(names, strikes, ["a", "b"], ("answer", "a", "b", (("clash", "c", "b"),))), True)

    def test_what_is_held_goes_down_one_tree_alone(self):
        names, strikes = ["a", "b", "c", "d"], [("b", "a"), ("c", "b"), ("d", "b"), ("d", "c")]
        wrong = ("answer", "a", "b", (("clash", "d", "c"), ("clash", "d", "c")))
        self.assertIs(self.none(names, strikes, ["a"], wrong), False)

    def test_beyond(self):
        names, strikes = ["a", "b"], [("a", "b"), ("b", "a")]
        clash = ("clash", "a", "b")
        at_b = ("beyond", 1, (clash,))
        self.assertIs(self.greatest(names, strikes, [["a"], ["b"]], ("beyond", 0, (at_b,))), True)
        self.assertIs(self.greatest(names, strikes, (("a",), ("b",)), ("beyond", 0, (at_b,))), True)
        self.assertIs(self.greatest(names, strikes, [["b"], ["a"]], ("beyond", 0, (at_b,))), True)
        self.assertIs(self.greatest(names, strikes, [["a"], ["b"]], ("beyond", 1, (("beyond", 0, (clash,)),))), True)
        self.assertIs(self.greatest(names, strikes, [["a"], ["b"]], ("beyond", False, (at_b,))), False)
        self.assertIs(self.greatest(names, strikes, [["a"], ["b"]], ("beyond", 0, (("beyond", True, (clash,)),))), False)
        for number in (-1, -2, 2, 10 ** 20, None, "0", "a", (0,), [0], 0.0):
            self.assertIs(self.greatest(names, strikes, [["a"], ["b"]], ("beyond", number, (at_b,))), False)
        self.assertIs(self.greatest(names, strikes, [["a"], ["b"]], ("beyond", 0, (clash,))), False)
        self.assertIs(self.greatest(names, strikes, [["a"], ["b"]], ("beyond", 0, ())), False)
        self.assertIs(self.greatest(names, strikes, [["a"]], ("beyond", 0, (("beyond", 0, (clash,)),))), False)
        self.assertIs(self.greatest(names, strikes, [["a"], ["b"]], clash), False)

    def test_beyond_a_set_that_has_not_all_held_names(self):
        names, strikes = ["a", "b"], [("a", "b")]
        for shows, at_b in (
                (self.greatest, ("answer", "b", "a", ())), (self.outright, ("cover", "a", (("clash", "a", "b"),)))):
            self.assertIs(shows(names, strikes, [["a"]], ("beyond", 0, (at_b,))), True)
            self.assertIs(shows(names, strikes, [["a"]], ("beyond", 0, (("beyond", 0, (at_b,)),))), False)

    def test_sets_that_are_not_so(self):
        names, strikes = ["a", "b", "c"], [("a", "b"), ("b", "a")]
        tree = ("beyond", 0, (("beyond", 1, (("clash", "a", "b"),)),))
        right = [["a", "c"], ["b", "c"]]
        self.assertIs(self.greatest(names, strikes, right, tree), True)
        self.assertIs(self.greatest(names, strikes, [["c", "a"], ("c", "b")], tree), True)
        for wrong in (
                [], right[:1], right[1:], right + [["c"]], right + [[]], right + [["c", "a"]], right + right,
                right + [["a", "b"]], [["a", "a", "c"], ["b", "c"]], [["a", "c", "c"], ["b", "c"]],
                [["a", "c", "z"], ["b", "c"]], [["a", "b", "c"]], [["a"], ["b", "c"]], ["ac", "bc"],
                [["a", ["c"]], ["b", "c"]], [["a", "c", None], ["b", "c"]], [None, None], None, 5, "ab", {}):
            self.assertIs(self.greatest(names, strikes, wrong, tree), False)
            self.assertIs(self.outright(names, strikes, wrong, tree), False)

    def test_a_set_that_stands_but_is_not_greatest_has_no_tree(self):
        names, strikes = ["a", "b"], []
        self.assertIs(self.greatest(names, strikes, [["a"]], ("beyond", 0, (("beyond", 0, ()),))), False)
        self.assertIs(self.greatest(names, strikes, [["a", "b"]], ("beyond", 0, ())), True)
        self.assertIs(self.greatest(names, strikes, [["a", "b"], ["a"]], ("beyond", 0, ())), False)

    def test_cover(self):
        names, strikes = ["a", "b"], [("a", "a"), ("b", "a")]
        at_b = ("beyond", 0, (("clash", "a", "a"),))
        self.assertIs(self.outright(names, strikes, [["b"]], ("cover", "a", (("clash", "a", "a"), at_b))), True)
        self.assertIs(self.outright(names, strikes, [["b"]], ("cover", "b", (at_b,))), True)
        self.assertIs(self.outright(names, strikes, [["b"]], at_b), True)
        self.assertIs(self.outright(names, strikes, [["b"]], ("cover", "a", (at_b, ("clash", "a", "a")))), False)
        self.assertIs(self.outright(names, strikes, [["b"]], ("cover", "a", (at_b,))), False)
        self.assertIs(self.outright(names, strikes, [["b"]], ("cover", "b", (("cover", "b", (at_b,)),))), False)
        self.assertIs(self.outright(names, strikes, [["b"]], ("cover", "z", ())), False)
        self.assertIs(self.outright(names, strikes, [["b"]], ("cover", ["a"], (("clash", "a", "a"), at_b))), False)
        at_a = ("cover", "a", (("clash", "a", "a"), at_b))
        self.assertIs(self.outright(names, strikes, [["b"]], ("cover", "b", (at_a,))), False, "b strikes a")

    def test_each_tree_has_its_own_words(self):
        names, strikes = ["a", "b"], [("a", "a"), ("b", "a")]
        at_b = ("beyond", 0, (("clash", "a", "a"),))
        self.assertIs(self.greatest(names, strikes, [["b"]], ("cover", "b", (at_b,))), False)
        self.assertIs(self.none(names, strikes, ["a"], ("cover", "b", (("clash", "a", "a"),))), False)
        self.assertIs(self.none(names, strikes, ["a"], ("beyond", 0, ())), False)
        names, strikes = ["a", "b", "c"], [("a", "b"), ("b", "a"), ("c", "a"), ("b", "c")]
        answer = ("answer", "a", "c", (("clash", "b", "a"),))
        tree = ("beyond", 0, (answer, ("answer", "c", "b", (("clash", "c", "a"),))))
        self.assertIs(self.greatest(names, strikes, [["b"]], tree), True)
        self.assertIs(self.outright(names, strikes, [["b"]], tree), False)

    def test_no_outright_set(self):
        tree = ("cover", "a", (("clash", "a", "a"),))
        self.assertIs(self.outright(["a"], [("a", "a")], [], tree), True)
        self.assertIs(self.outright(["a"], [("a", "a")], (), tree), True)
        self.assertIs(self.outright(["a"], [("a", "a")], None, tree), False)
        self.assertIs(self.outright(["a"], [("a", "a")], [[]], tree), False)
        self.assertIs(self.greatest(["a"], [("a", "a")], [], tree), False)
        self.assertIs(self.greatest(["a"], [("a", "a")], [[]], ("beyond", 0, (("clash", "a", "a"),))), True)

    def test_the_empty_web(self):
        for shows in (self.greatest, self.outright):
            self.assertIs(shows([], [], [[]], ("beyond", 0, ())), True)
            self.assertIs(shows([], [], [], ("beyond", 0, ())), False)
            self.assertIs(shows([], [], [[], []], ("beyond", 0, ())), False)
            self.assertIs(shows([], [], [[]], ()), False)


class Otherwise(Looks):
    """Told trees with one thing otherwise, at each node."""

    def webs(self, small, others):
        return list(plain.all_small_webs())[3::small] + plain.drawn_webs(61, others, 4, 6) + [
            plain.cliques([2, 2]), plain.cliques([3, 2]), plain.ring_web(5), plain.row_web(5)]

    def test_of_none(self):
        wrong = 0
        for names, strikes in self.webs(11, 12):
            for some in plain.subsets(names)[1:]:
                word, tree = standing_with(Web(names, strikes), some)
                if word == "none":
                    others = papers.drawn(62, papers.tree_otherwise(names, tree), 1500)
                    wrong += sum(not self.none(names, strikes, list(some), other) for other in others)
        self.assertGreater(wrong, 1000)

    def test_of_greatest(self):
        wrong = 0
        for names, strikes in self.webs(11, 15):
            sets, tree = greatest_with(Web(names, strikes))
            others = papers.drawn(63, papers.tree_otherwise(names or ["a"], tree), 1500)
            wrong += sum(not self.greatest(names, strikes, sets, other) for other in others)
        self.assertGreater(wrong, 1000)

    def test_of_outright(self):
        wrong = 0
        for names, strikes in self.webs(11, 15):
            sets, tree = outright_with(Web(names, strikes))
            others = papers.drawn(64, papers.tree_otherwise(names or ["a"], tree), 1500)
            wrong += sum(not self.outright(names, strikes, sets, other) for other in others)
        self.assertGreater(wrong, 1000)

    def test_of_twelve_names(self):
        for names, strikes in plain.drawn_webs(65, 6, 12, 12):
            web = Web(names, strikes)
            for told, shows in ((greatest_with(web), self.greatest), (outright_with(web), self.outright)):
                others = itertools.islice(papers.tree_otherwise(names, told[1]), 0, 4000, 17)
                for other in papers.drawn(66, others, 150):
                    shows(names, strikes, told[0], other)
            for name in names:
                word, tree = standing_with(web, [name])
                if word == "none":
                    for other in papers.drawn(67, itertools.islice(papers.tree_otherwise(names, tree), 9000), 60):
                        self.none(names, strikes, [name], other)

    def test_a_tree_of_other_names_held(self):
        for names, strikes in self.webs(5, 20):
            for one in names:
                word, tree = standing_with(Web(names, strikes), [one])
                if word == "none":
                    for some in plain.subsets(names):
                        self.none(names, strikes, some, tree)

    def test_things_that_are_no_trees(self):
        for names, strikes in ([["a"], [("a", "a")]], [["a"], []], plain.cliques([2]), plain.row_web(3)):
            for thing in papers.THINGS + [b"clash", 1.5, {}, "answer", ("clash", "a"), (("clash", "a", "a"),)]:
                self.none(names, strikes, names[:1], thing)
                self.greatest(names, strikes, [names[:1]], thing)
                self.outright(names, strikes, [names[:1]], thing)


class OtherSets(Looks):
    """Told trees with other sets."""

    def otherwise(self, names, sets):
        others = [list(some) for some in plain.subsets(names)]
        yield []
        yield sets[::-1]
        yield [some[::-1] for some in sets]
        yield tuple(tuple(some) for some in sets)
        yield [list(names)]
        yield sets + [None]
        yield from papers.THINGS
        for at, some in enumerate(sets):
            yield sets[:at] + sets[at + 1:]
            yield sets[:at] + [some] + sets[at:]
            yield sets + [some[::-1]]
            for thing in papers.THINGS + ["".join(some), some + some, some[:1] + some, some + ["zz"], some + [1]]:
                yield sets[:at] + [thing] + sets[at + 1:]
                yield sets[:at] + [some + [thing]] + sets[at + 1:]
            for other in others:
                yield sets[:at] + [other] + sets[at + 1:]
        for other in others:
            yield sets + [other]
            yield [other] + sets

    def test_of_greatest_and_outright(self):
        taken = wrong = 0
        webs = list(plain.all_small_webs())[::8] + plain.drawn_webs(68, 15, 4, 5) + [plain.cliques([2, 3])]
        for names, strikes in webs:
            web = Web(names, strikes)
            for told, shows in ((greatest_with(web), self.greatest), (outright_with(web), self.outright)):
                for sets in self.otherwise(names, told[0]):
                    answer = shows(names, strikes, sets, told[1])
                    taken += answer
                    wrong += not answer
                    if answer:
                        self.assertEqual(sorted(sorted(some) for some in sets), told[0])
        self.assertGreater(taken, 100)
        self.assertGreater(wrong, 1000)

    def test_more_sets_with_drawn_trees(self):
        # All lists of at most two sets, right or not, with trees that are right for just these sets.
        source = random.Random(69)
        for names, strikes in list(plain.all_small_webs())[::10]:
            somes = [list(some) for some in plain.subsets(names)]
            for sets in [[]] + [[one] for one in somes] + [[one, other] for one in somes for other in somes]:
                for shows, words, right in (
                        (self.greatest, ("clash", "answer", "beyond"), plain.all_greatest),
                        (self.outright, ("clash", "cover", "beyond"), plain.all_outright)):
                    tree = papers.drawn_tree(source, names, strikes, sets, words, [])
                    if tree is not None and shows(names, strikes, sets, tree):
                        self.assertEqual(sorted(sets), right(names, strikes))


class NotTold(Looks):
    """Trees that were not told, but are so."""

    def test_drawn_trees_are_taken(self):
        source = random.Random(70)
        taken = 0
        for names, strikes in list(plain.all_small_webs())[::7] + plain.drawn_webs(71, 30, 4, 5):
            greatest, outright = plain.all_greatest(names, strikes), plain.all_outright(names, strikes)
            for again in range(3):
                tree = papers.drawn_tree(source, names, strikes, greatest, ("clash", "answer", "beyond"), [])
                self.assertIs(self.greatest(names, strikes, greatest, tree), True)
                tree = papers.drawn_tree(source, names, strikes, outright, ("clash", "cover", "beyond"), [])
                self.assertIs(self.outright(names, strikes, outright, tree), True)
                for some in plain.subsets(names):
                    tree = papers.drawn_tree(source, names, strikes, [], ("clash", "answer"), list(some))
                    if tree is not None:
                        self.assertIs(self.none(names, strikes, list(some), tree), True)
                        taken += 1
        self.assertGreater(taken, 500)

    def test_a_taken_tree_is_right(self):
        source = random.Random(72)
        for names, strikes in plain.all_small_webs():
            standing = plain.all_standing(names, strikes)
            for some in plain.subsets(names):
                tree = papers.drawn_tree(source, names, strikes, [], ("clash", "answer"), list(some))
                there = any(set(some) <= set(one) for one in standing)
                self.assertEqual(tree is None, there)


if __name__ == "__main__":
    unittest.main()
