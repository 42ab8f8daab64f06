"""[1], [2] and [9]: all sets that stand, are whole, outright or greatest, and all tellings."""

import itertools
import unittest

import plain
from strikeweave.errors import TooMany
from strikeweave.lists import greatest_sets, outright_sets, standing_sets, tellings, whole_sets
from strikeweave.webs import Web

LISTS = (standing_sets, whole_sets, outright_sets, greatest_sets, tellings)

# Twelve names with just so many standing, and whole, sets.
STANDING_300 = plain.pairs_of("ab ah ba cd ch cl dc ef fe fh gh gl hc hg ij jh ji kl ld lk ll")
STANDING_301 = plain.pairs_of("ab ah ba cd ch dc ef fe fh gh gl hf hg hl ij jh ji kl ld lh lk ll")
WHOLE_300 = plain.pairs_of("ab ak al ba bi cd db dc eb ef fe gh hg ij jb ji ka kl la lb lk")
WHOLE_306 = plain.pairs_of("af ak be bf ca cd dc eb ek el fa fb gh hg ij ji ka ke kl le lk")
TWELVE = list("abcdefghijkl")


def all_tellings(names, strikes):
    """All words gone through."""
    rising = sorted(names)
    words = [list(zip(rising, chosen)) for chosen in itertools.product(("in", "out", "open"), repeat=len(rising))]
    return sorted(one for one in words if plain.telling(rising, strikes, dict(one)))


class Lists(unittest.TestCase):
    def check(self, names, strikes, tell_all=True):
        web = Web(plain.shuffled(31, names), plain.shuffled(32, strikes))
        right = [
            plain.all_standing(names, strikes), plain.all_whole(names, strikes), plain.all_outright(names, strikes),
            plain.all_greatest(names, strikes)]
        told = [deed(web) for deed in LISTS]
        self.assertEqual(told[:4], right)
        if tell_all:
            self.assertEqual(told[4], all_tellings(names, strikes))
        again = [deed(web) for deed in LISTS]
        self.assertEqual(told, again)
        lists = plain.told_lists([told, again])
        self.assertEqual(len({id(one) for one in lists}), len(lists))
        plain.spoil(told)
        self.assertEqual([deed(web) for deed in LISTS], again)
        self.assertEqual((web.all_names(), web.all_strikes()), (sorted(names), sorted(strikes)))

    def too_many(self, deed, names, strikes):
        web = Web(names, strikes)
        for again in range(2):
            self.assertRaises(TooMany, deed, web)
        self.assertEqual((web.all_names(), web.all_strikes()), (sorted(names), sorted(strikes)))

    def test_by_hand(self):
        web = Web(["c", "b", "a"], [("a", "b"), ("b", "a"), ("b", "c"), ("c", "c")])
        self.assertEqual(standing_sets(web), [[], ["a"], ["b"]])
        self.assertEqual(whole_sets(web), [[], ["a"], ["b"]])
        self.assertEqual(outright_sets(web), [["b"]])
        self.assertEqual(greatest_sets(web), [["a"], ["b"]])
        self.assertEqual(tellings(web), [
            [("a", "in"), ("b", "out"), ("c", "open")],
            [("a", "open"), ("b", "open"), ("c", "open")],
            [("a", "out"), ("b", "in"), ("c", "out")]])

    def test_the_empty_web(self):
        self.assertEqual([deed(Web([], [])) for deed in LISTS], [[[]]] * 5)
        self.check([], [])

    def test_no_outright_set(self):
        for size in (1, 3, 5, 11):
            web = Web(*plain.ring_web(size))
            self.assertEqual(outright_sets(web), [])
            self.assertEqual(standing_sets(web), [[]])
            self.assertEqual(greatest_sets(web), [[]])

    def test_lists_rise_as_lists_do(self):
        web = Web(["b", "a", "ab"], [])
        self.assertEqual(standing_sets(web), [
            [], ["a"], ["a", "ab"], ["a", "ab", "b"], ["a", "b"], ["ab"], ["ab", "b"], ["b"]])

    def test_all_small_webs(self):
        for names, strikes in plain.all_small_webs():
            self.check(names, strikes)

    def test_greater_webs(self):
        for names, strikes in itertools.chain(plain.some_webs(33, 60, 6), plain.drawn_webs(34, 60, 4, 7)):
            self.check(names, strikes)

    def test_up_to_twelve_names(self):
        webs = plain.drawn_webs(35, 60, 12, 12) + [plain.ring_web(12), plain.ring_web(11), plain.row_web(12)]
        for names, strikes in webs:
            if len(plain.all_standing(names, strikes)) <= 300:
                self.check(names, strikes, False)

    def test_tellings_are_those_of_the_whole_sets(self):
        for names, strikes in plain.drawn_webs(36, 40, 8, 12):
            web = Web(names, strikes)
            words = [[(name, "in" if name in some else "out" if any((mine, name) in strikes for mine in some) else "open")
                      for name in names] for some in whole_sets(web)]
            self.assertEqual(tellings(web), sorted(words))

    def test_three_hundred_and_more_standing_sets(self):
        self.assertEqual(standing_sets(Web(TWELVE, STANDING_300)), plain.all_standing(TWELVE, STANDING_300))
        self.assertEqual(len(standing_sets(Web(TWELVE, STANDING_300))), 300)
        self.assertEqual(len(plain.all_standing(TWELVE, STANDING_301)), 301)
        self.too_many(standing_sets, TWELVE, STANDING_301)
        names, strikes = plain.cliques([1, 1, 2, 4, 4])
        self.assertEqual(len(standing_sets(Web(names, strikes))), 300)
        for many, right in ((8, 256), (9, None), (12, None)):
            names = plain.row_web(many)[0]
            if right is None:
                self.too_many(standing_sets, names, [])
            else:
                self.assertEqual(len(standing_sets(Web(names, []))), right)

    def test_three_hundred_and_more_whole_sets_and_tellings(self):
        self.assertEqual(whole_sets(Web(TWELVE, WHOLE_300)), plain.all_whole(TWELVE, WHOLE_300))
        self.assertEqual(len(whole_sets(Web(TWELVE, WHOLE_300))), 300)
        self.assertEqual(len(tellings(Web(TWELVE, WHOLE_300))), 300)
        self.assertEqual(len(plain.all_whole(TWELVE, WHOLE_306)), 306)
        for deed in (whole_sets, tellings):
            self.too_many(deed, TWELVE, WHOLE_306)
            self.too_many(deed, *plain.cliques([2] * 6))

    def test_the_others_are_not_refused_with_them(self):
        names = plain.row_web(12)[0]
        for deed in (whole_sets, outright_sets, greatest_sets):
            self.assertEqual(deed(Web(names, [])), [sorted(names)])
        self.assertEqual(len(tellings(Web(names, []))), 1)
        names, strikes = plain.cliques([2] * 6)
        for deed in (outright_sets, greatest_sets):
            self.assertEqual(deed(Web(names, strikes)), sorted(list(some) for some in itertools.product(
                *[names[at:at + 2] for at in range(0, 12, 2)])))
        names, strikes = plain.cliques([3] * 4)
        self.assertEqual(len(greatest_sets(Web(names, strikes))), 81)
        self.assertEqual(len(outright_sets(Web(names, strikes))), 81)

    def test_three_hundred_and_more_beyond_the_bounds(self):
        for deed in (outright_sets, greatest_sets):
            self.assertEqual(len(deed(Web(*plain.cliques([5, 5, 4, 3])))), 300)
            self.too_many(deed, *plain.cliques([5, 4, 4, 4]))

    def test_greatest_sets_of_many_within_one_another(self):
        names = plain.row_web(12)[0]
        strikes = [(names[0], names[1]), (names[1], names[0])]
        self.assertEqual(greatest_sets(Web(names, strikes)), [names[:1] + names[2:], names[1:]])
        # One name strikes all others, and all others strike it.
        strikes = [(names[0], name) for name in names[1:]] + [(name, names[0]) for name in names[1:]]
        self.assertEqual(greatest_sets(Web(names, strikes)), [names[:1], names[1:]])

    def test_outright_is_greatest_and_greatest_is_whole(self):
        for names, strikes in plain.drawn_webs(37, 60, 8, 12):
            web = Web(names, strikes)
            whole, greatest = whole_sets(web), greatest_sets(web)
            self.assertTrue(all(some in greatest for some in outright_sets(web)))
            self.assertTrue(all(some in whole for some in greatest))


if __name__ == "__main__":
    unittest.main()
