"""[1], [2], [5] and [6]: sets, whether they stand, and words."""

import itertools
import unittest

import plain
from strikeweave.sets import is_outright, is_quiet, is_telling, is_whole, kept_by, stands, strikes_back, words_by
from strikeweave.webs import Web

ASKED = (is_quiet, strikes_back, stands, is_whole, is_outright)


def asked(web, some):
    """The answers of all that is asked with yes or no, in ASKED's order."""
    return [deed(web, some) for deed in ASKED]


class Asked(unittest.TestCase):
    def check(self, names, strikes, some):
        right = [
            plain.quiet(strikes, some), plain.answered(strikes, some), plain.standing(strikes, some),
            plain.whole(names, strikes, some), plain.outright(names, strikes, some)]
        web = Web(names, strikes)
        for handed in (list(some), tuple(some), list(reversed(some))):
            was = list(handed)
            answers = asked(web, handed)
            self.assertEqual(answers, right)
            for answer in answers:
                self.assertIs(type(answer), bool)
            self.assertEqual(kept_by(web, handed), plain.kept(names, strikes, some))
            self.assertEqual(list(handed), was)
        self.assertEqual((web.all_names(), web.all_strikes()), (sorted(names), sorted(strikes)))

    def test_a_row_by_hand(self):
        web = Web(["a", "b", "c"], [("a", "b"), ("b", "c")])
        self.assertEqual(asked(web, []), [True, True, True, False, False])
        self.assertEqual(asked(web, ["a"]), [True, True, True, False, False])
        self.assertEqual(asked(web, ["b"]), [True, False, False, False, False])
        self.assertEqual(asked(web, ["c"]), [True, False, False, False, False])
        self.assertEqual(asked(web, ["c", "a"]), [True, True, True, True, True])
        self.assertEqual(asked(web, ["b", "a"]), [False, False, False, False, False])
        self.assertEqual([kept_by(web, some) for some in ([], ["a"], ["b"], ["c"])],
                         [["a"], ["a", "c"], ["a"], ["a"]])

    def test_strikes_both_ways_by_hand(self):
        web = Web(["a", "b"], [("a", "b"), ("b", "a")])
        self.assertEqual(asked(web, []), [True, True, True, True, False])
        self.assertEqual(asked(web, ["b"]), [True, True, True, True, True])
        self.assertEqual(asked(web, ["b", "a"]), [False, True, False, False, False])
        self.assertEqual(kept_by(web, ["b", "a"]), ["a", "b"])

    def test_sets_that_strike_themselves(self):
        web = Web(["a", "b"], [("a", "a"), ("a", "b")])
        self.assertEqual(asked(web, ["a"]), [False, True, False, False, False])
        self.assertEqual(asked(web, ["b"]), [True, False, False, False, False])
        self.assertEqual(asked(web, []), [True, True, True, True, False])

    def test_quiet_and_striking_all_outside_without_being_struck(self):
        web = Web(["a", "b", "c"], [("a", "b"), ("b", "a"), ("a", "c"), ("c", "b")])
        self.assertEqual(asked(web, ["a"]), [True, True, True, True, True])
        self.assertEqual(asked(web, ["c"]), [True, False, False, False, False])

    def test_the_empty_web_and_the_empty_set(self):
        web = Web([], [])
        self.assertEqual(asked(web, []), [True] * 5)
        self.assertEqual(asked(web, ()), [True] * 5)
        self.assertEqual(kept_by(web, []), [])
        self.assertEqual(words_by(web, []), [])

    def test_all_sets_of_small_webs(self):
        for names, strikes in plain.all_small_webs():
            for some in plain.subsets(names):
                self.check(names, strikes, some)

    def test_all_sets_of_others(self):
        for names, strikes in plain.some_webs(11, 60, 6):
            for some in plain.subsets(names):
                self.check(names, strikes, some)

    def test_up_to_the_bounds(self):
        names, strikes = plain.great_web()
        quiet = []
        for name in names:
            if plain.quiet(strikes, quiet + [name]):
                quiet.append(name)
        for some in ([], names, names[4:9], quiet, quiet[:3]):
            self.check(names, strikes, some)
        names, strikes = plain.row_web(30)
        for some in ([], names, names[::2], names[1::2], names[:20:2]):
            self.check(names, strikes, some)

    def test_kept_by_is_told_anew(self):
        web = Web(["a", "b"], [])
        first = kept_by(web, [])
        first.append("x")
        self.assertEqual(kept_by(web, []), ["a", "b"])
        some = ["b", "a"]
        kept_by(web, some).append("x")
        self.assertEqual(some, ["b", "a"])


class Words(unittest.TestCase):
    def test_by_hand(self):
        web = Web(["d", "a", "c", "b"], [("a", "b"), ("b", "c"), ("d", "d")])
        self.assertEqual(words_by(web, []), [("a", "open"), ("b", "open"), ("c", "open"), ("d", "open")])
        self.assertEqual(words_by(web, ["c", "a"]), [("a", "in"), ("b", "out"), ("c", "in"), ("d", "open")])
        self.assertEqual(words_by(web, ("b",)), [("a", "open"), ("b", "in"), ("c", "out"), ("d", "open")])

    def test_of_all_quiet_sets(self):
        for names, strikes in itertools.chain(plain.all_small_webs(), plain.some_webs(12, 40, 6)):
            web = Web(names, strikes)
            for some in plain.subsets(names):
                if not plain.quiet(strikes, some):
                    continue
                struck = {other for one, other in strikes if one in some}
                right = [(n, "in" if n in some else "out" if n in struck else "open") for n in sorted(names)]
                for handed in (list(some), tuple(some), list(reversed(some))):
                    was = list(handed)
                    self.assertEqual(words_by(web, handed), right)
                    self.assertEqual(list(handed), was)

    def test_they_are_told_anew(self):
        web = Web(["a", "b"], [("a", "b")])
        first = words_by(web, ["a"])
        self.assertEqual([type(pair) for pair in first], [tuple, tuple])
        first.reverse()
        first.append("x")
        self.assertEqual(words_by(web, ["a"]), [("a", "in"), ("b", "out")])


class Tellings(unittest.TestCase):
    def check_all_words(self, names, strikes):
        """All words of this web: the tellings are just those of the whole sets."""
        web, rising = Web(names, strikes), sorted(names)
        found = []
        for chosen in itertools.product(("in", "out", "open"), repeat=len(rising)):
            words = list(zip(rising, chosen))
            answer = is_telling(web, words)
            self.assertIs(answer, plain.telling(rising, strikes, dict(words)))
            self.assertIs(is_telling(web, tuple(words)), answer)
            if answer:
                found.append(words)
        whole = [words_by(web, some) for some in plain.subsets(names) if is_whole(web, some)]
        self.assertEqual(sorted(found), sorted(whole))

    def test_all_words_of_small_webs(self):
        for names, strikes in plain.all_small_webs():
            self.check_all_words(names, strikes)

    def test_all_words_of_others(self):
        for names, strikes in plain.some_webs(13, 25, 6):
            self.check_all_words(names, strikes)

    def test_up_to_the_bounds(self):
        names, strikes = plain.row_web(30)
        web = Web(plain.shuffled(14, names), strikes)
        words = [(name, ("in", "out")[place % 2]) for place, name in enumerate(names)]
        self.assertIs(is_telling(web, words), True)
        for place, (name, word) in enumerate(words):
            for wrong in ("in", "out", "open"):
                others = words[:place] + [(name, wrong)] + words[place + 1:]
                self.assertIs(is_telling(web, others), wrong == word)

    def test_words_that_are_none(self):
        web = Web(["a", "b", "c"], [("a", "b"), ("b", "c")])
        a, b, c = words = [("a", "in"), ("b", "out"), ("c", "in")]
        self.assertIs(is_telling(web, words), True)
        wrong = [
            [], [a], [a, b], [b, c], [a, c],
            [a, b, c, c], [a, a, b, c], [a, b, b], [a, a, c], [a, a, a],
            [a, b, c, ("d", "in")], [a, b, ("d", "in")], [("aa", "in"), b, c], [a, b, ("", "in")],
            [c, b, a], [b, a, c], [a, c, b],
            [a, b, ("c", "")], [a, b, ("c", "In")], [a, b, ("c", "in ")], [a, b, ("c", "none")], [a, b, ("c", "a")],
            [("a", "yes"), b, c], [("in", "a"), b, c],
            [a, b, ("c", "out")], [a, b, ("c", "open")], [a, ("b", "in"), c], [a, ("b", "open"), c],
            [("a", "out"), b, c], [("a", "open"), b, c],
            [("a", "open"), ("b", "open"), ("c", "open")],
        ]
        for others in wrong:
            with self.subTest(words=others):
                was = list(others)
                self.assertIs(is_telling(web, others), False)
                self.assertIs(is_telling(web, tuple(others)), False)
                self.assertEqual(others, was)

    def test_a_pair_is_a_tuple(self):
        self.assertIs(is_telling(Web(["a"], []), [["a", "in"]]), False)

    def test_of_the_empty_web(self):
        web = Web([], [])
        self.assertIs(is_telling(web, []), True)
        self.assertIs(is_telling(web, ()), True)
        self.assertIs(is_telling(web, [("a", "in")]), False)

    def test_names_without_a_telling_but_open(self):
        web = Web(["a"], [("a", "a")])
        self.assertEqual([is_telling(web, [("a", word)]) for word in ("in", "out", "open")], [False, False, True])

    def test_no_other_word_does_for_open(self):
        web = Web(["b", "a"], [("a", "a"), ("a", "b")])
        self.assertIs(is_telling(web, [("a", "open"), ("b", "open")]), True)
        for word in ("none", "", "Open", "open ", "a", "opened"):
            self.assertIs(is_telling(web, [("a", word), ("b", "open")]), False)
            self.assertIs(is_telling(web, [("a", "open"), ("b", word)]), False)

    def test_what_is_handed_in_stays(self):
        web = Web(["b", "a"], [("b", "a")])
        words = [("a", "out"), ("b", "in")]
        self.assertIs(is_telling(web, words), True)
        self.assertEqual(words, [("a", "out"), ("b", "in")])
        self.assertEqual((web.all_names(), web.all_strikes()), (["a", "b"], [("b", "a")]))


if __name__ == "__main__":
    unittest.main()
