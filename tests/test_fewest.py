"""[1], [2], [13], [21] and [22]: the fewest strikes without which a name stands, and what a set costs."""

import itertools
import unittest

import papers
import plain
from strikeweave.errors import NoName
from strikeweave.fewcheck import shows_fewest
from strikeweave.fewest import cost_of, fewest
from strikeweave.sets import stands
from strikeweave.trees import standing_with
from strikeweave.webs import Web


def least_by_strikes(names, strikes, name):
    """The least number of strikes without which the name is in a standing set, all rows of strikes taken out."""
    for number in range(len(strikes) + 1):
        for gone in itertools.combinations(strikes, number):
            left = [pair for pair in strikes if pair not in gone]
            if any(name in some for some in plain.all_standing(names, left)):
                return number
    raise AssertionError("without any strike all names stand")


class Fewest(unittest.TestCase):
    def check(self, names, strikes, name):
        """What is told, looked at by the document's words; the number."""
        web = Web(plain.shuffled(161, names), plain.shuffled(162, strikes))
        first, again, more = [fewest(web, name) for step in range(3)]
        self.assertEqual(first, again)
        lists = plain.told_lists([first, again, more])
        self.assertEqual((len(lists), len({id(one) for one in lists})), (7, 7))
        plain.spoil(first)
        self.assertEqual(again, more)
        self.assertEqual(fewest(web, name), more)
        self.assertEqual((web.all_names(), web.all_strikes()), (sorted(names), sorted(strikes)))
        self.assertIs(type(more), tuple)
        number, gone, some, tree = more
        self.assertIs(type(number), int)
        self.assertEqual(number, plain.least_cost(names, strikes, name))
        self.assertEqual((type(gone), len(gone), gone), (list, number, sorted(set(gone))))
        self.assertLessEqual(set(gone), set(strikes))
        self.assertEqual((type(some), some), (list, sorted(set(some))))
        self.assertIn(name, some)
        self.assertTrue(plain.standing([pair for pair in strikes if pair not in gone], some))
        self.assertTrue(papers.is_few_tree(names, strikes, number, [name], [], tree))
        self.assertTrue(papers.shows_fewest(names, strikes, name, more))
        self.assertIs(shows_fewest(web, name, more), True)
        self.assertEqual(number == 0, standing_with(web, [name])[0] == "told")
        return number

    def numbers(self, names, text):
        strikes = plain.pairs_of(text)
        return [self.check(list(names), strikes, name) for name in names]

    def test_by_hand(self):
        self.assertEqual(fewest(Web(["a", "b"], [("a", "b")]), "b"), (
            1, [("a", "b")], ["b"], ("name", "a", ("dear",), ("dear",))))
        self.assertEqual(fewest(Web(["a", "b"], [("a", "b")]), "a")[:3], (0, [], ["a"]))
        self.assertEqual(fewest(Web(["a"], [("a", "a")]), "a"), (1, [("a", "a")], ["a"], ("dear",)))

    def test_chains(self):
        self.assertEqual(self.numbers("abcd", "ab bc cd"), [0, 1, 0, 1])
        # b, d and e strike a; f strikes d and e, so with it only b's strike must go.
        self.assertEqual(self.numbers("abdef", "ba da ea fd fe"), [1, 0, 1, 1, 0])

    def test_names_that_strike_themselves(self):
        self.assertEqual(self.numbers("ab", "aa ba ab"), [1, 0])
        self.assertEqual(self.numbers("abc", "aa bb cc"), [1, 1, 1])
        self.assertEqual(self.numbers("ab", "aa ab"), [1, 1])
        self.assertEqual(self.numbers("ab", "aa bb ab ba"), [1, 1])
        self.assertEqual(self.numbers("ab", "aa bb ab"), [1, 2])

    def test_rings(self):
        for many in range(1, 13):
            names, strikes = plain.ring_web(many)
            self.assertEqual([self.check(names, strikes, name) for name in names], [many % 2] * many)

    def test_strikes_back_again(self):
        for sizes in ([2, 2], [3, 3], [4], [12], [2] * 6, [3] * 4, [6, 6]):
            names, strikes = plain.cliques(sizes)
            self.assertEqual([self.check(names, strikes, name) for name in names[:3]], [0] * len(names[:3]))

    def test_names_that_nothing_strikes(self):
        self.assertEqual(self.numbers("abc", ""), [0, 0, 0])
        self.assertEqual(fewest(Web(["a"], []), "a"), (0, [], ["a"], ("dear",)))

    def test_many_strikes_at_one(self):
        names = list("abcdefghijkl")
        strikes = [(name, "a") for name in names]
        self.assertEqual(self.check(names, strikes, "a"), 12)
        self.assertEqual(self.check(names, strikes + [("a", name) for name in names[1:]], "a"), 1)
        every = list(itertools.product(names, names))
        self.assertEqual(self.check(names, every, "a"), 1)

    def test_all_small_webs(self):
        for names, strikes in plain.all_small_webs():
            for name in names:
                self.assertEqual(self.check(names, strikes, name), least_by_strikes(names, strikes, name))

    def test_others_beside_all_rows_of_strikes(self):
        for names, strikes in plain.drawn_webs(163, 25, 4, 5):
            for name in names:
                self.assertEqual(self.check(names, strikes, name), least_by_strikes(names, strikes, name))

    def test_others(self):
        told = []
        for names, strikes in list(plain.some_webs(164, 25, 8)) + plain.drawn_webs(165, 40, 6, 8):
            told += [self.check(names, strikes, name) for name in names]
        self.assertGreater(sum(number > 1 for number in told), 30)

    def test_up_to_twelve_names(self):
        for names, strikes in plain.drawn_webs(166, 8, 11, 12) + [plain.row_web(12)]:
            for name in names[::3]:
                self.check(names, strikes, name)

    def test_a_web_with_a_great_tree(self):
        # Those that strike the first are each struck by two others, which their own fellows strike.
        names = list("abcdefghijkl")
        strikes = [(name, "a") for name in "bcdef"] + plain.pairs_of(
            "gb hb hc ic id jd je ke kf lf gh hi ij jk kl lg gg ii kk bg ci dk")
        self.check(names, strikes, "a")

    def test_names_that_are_none_of_the_webs(self):
        for name in ("c", "", "A", "aa", "a\n", None, 0, True, ["a"], ("a",)):
            self.assertRaises(NoName, fewest, Web(["a", "b"], [("a", "b")]), name)
        self.assertRaises(NoName, fewest, Web([], []), "a")

    def test_somewhat_beyond_the_bounds(self):
        names, strikes = plain.ring_web(15)
        web = Web(names, strikes)
        told = fewest(web, names[0])
        self.assertEqual(told[0], 1)
        self.assertIs(shows_fewest(web, names[0], told), True)


class CostOf(unittest.TestCase):
    def check(self, names, strikes, some):
        web = Web(names, strikes)
        right = len(plain.to_go(strikes, some))
        for form in (list(some), tuple(some), list(some)[::-1], plain.shuffled(171, some)):
            was = repr(form)
            told = cost_of(web, form)
            self.assertEqual((type(told), told), (int, right))
            self.assertEqual(repr(form), was)
        self.assertEqual(right == 0, stands(web, list(some)))
        return right

    def test_by_hand(self):
        names, strikes = list("abcde"), plain.pairs_of("aa ab ba cb dc ce")
        for some, right in (("", 0), ("a", 1), ("b", 1), ("ab", 4), ("c", 1), ("cd", 1), ("d", 0), ("be", 2), ("bd", 0),
                            ("abcde", 6), ("e", 1), ("ce", 2), ("ac", 2)):
            self.assertEqual(self.check(names, strikes, list(some)), right, some)

    def test_all_sets(self):
        for names, strikes in itertools.chain(plain.all_small_webs(), plain.drawn_webs(172, 25, 4, 6)):
            for some in plain.subsets(names):
                self.check(names, strikes, some)

    def test_so_many_are_needed(self):
        # No fewer strikes do that this very set stands.
        for names, strikes in list(plain.all_small_webs())[::4]:
            for some in plain.subsets(names):
                right = next(number for number in range(len(strikes) + 1) if any(
                    plain.standing([pair for pair in strikes if pair not in gone], some)
                    for gone in itertools.combinations(strikes, number)))
                self.assertEqual(cost_of(Web(names, strikes), list(some)), right)

    def test_of_twelve_names(self):
        for names, strikes in plain.drawn_webs(173, 10, 12, 12):
            for some in plain.subsets(names)[::97]:
                self.check(names, strikes, some)


if __name__ == "__main__":
    unittest.main()
