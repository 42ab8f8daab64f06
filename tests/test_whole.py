"""[1] over the whole: what is told agrees with what else is told, papers are taken, and told lists are the asker's own."""

import itertools
import unittest

import looms
import plain
from strikeweave.desk import told_by
from strikeweave.disputes import Dispute
from strikeweave.fewcheck import shows_fewest
from strikeweave.fewest import cost_of, fewest
from strikeweave.grantcheck import shows_granted
from strikeweave.grants import granted, in_each, in_some
from strikeweave.keeper import Keeper
from strikeweave.lists import greatest_sets, outright_sets, standing_sets, tellings, whole_sets
from strikeweave.plancheck import shows_won
from strikeweave.plans import won_by
from strikeweave.rounds import least, rounds, shows_least
from strikeweave.sets import is_outright, is_telling, is_whole, kept_by, stands, words_by
from strikeweave.texts import text_of, weave_of
from strikeweave.treecheck import shows_greatest, shows_none, shows_outright
from strikeweave.trees import greatest_with, outright_with, standing_with
from strikeweave.weaves import Weave
from strikeweave.weaving import backers, counting, hit_by, plain_web, word_of, woven
from strikeweave.webs import Web, ahead_of, behind, part_of, parts, rings


def drawn_webs():
    return list(plain.all_small_webs())[::6] + plain.drawn_webs(211, 60, 4, 8) + plain.drawn_webs(212, 6, 11, 12)


def woven_webs():
    """Woven webs of at most twelve names, with the rows of their desks."""
    for people, sayings, strikes, backs in looms.drawn_weaves(213, 120, (3, 5, 6, 3)):
        known = [row[0] for row in sayings]
        strikes = [(name, one, goal if goal in known else name) for name, one, goal in strikes]
        weave = Weave(people, sayings, strikes, backs)
        if len(woven(weave).all_names()) <= 12:
            yield weave


class Agree(unittest.TestCase):
    def test_words_by_rounds_sets_tellings_and_a_keeper(self):
        for names, strikes in drawn_webs():
            web = Web(names, strikes)
            words = sorted((name, word) for name, word, number in rounds(web))
            self.assertEqual(words, words_by(web, least(web)))
            self.assertEqual(Keeper(web).words(), words)
            self.assertIs(is_telling(web, words), True)
            told = tellings(web)
            self.assertIn(words, told)
            self.assertEqual(told, sorted(words_by(web, some) for some in whole_sets(web)))
            for name, word in words:
                given = {dict(one)[name] for one in told}
                self.assertEqual(word != "open", given in ({"in"}, {"out"}))
                if word != "open":
                    self.assertEqual(given, {word})
            self.assertEqual(kept_by(web, least(web)), least(web))

    def test_sets(self):
        for names, strikes in drawn_webs():
            web = Web(names, strikes)
            standing = standing_sets(web) if len(names) <= 8 else whole_sets(web)
            greatest, outright, (some, paper) = greatest_sets(web), outright_sets(web), granted(web)
            self.assertEqual(greatest, [one for one in standing if not any(set(one) < set(other) for other in standing)])
            self.assertTrue(all(stands(web, one) and cost_of(web, one) == 0 for one in standing))
            self.assertTrue(all(is_whole(web, one) for one in greatest))
            self.assertTrue(all(is_outright(web, one) and one in greatest for one in outright))
            for one in greatest:
                self.assertLessEqual(set(least(web)), set(some))
                self.assertLessEqual(set(some), set(one))

    def test_disputes_and_the_fewest_strikes(self):
        for names, strikes in drawn_webs():
            web = Web(names, strikes)
            words = {name: word for name, word, number in rounds(web)}
            greatest = greatest_sets(web)
            for name in names:
                there = any(name in some for some in greatest)
                self.assertEqual(won_by(web, name, "firm")[0], "asker" if words[name] == "in" else "doubter")
                self.assertEqual(won_by(web, name, "some")[0], "asker" if there else "doubter")
                self.assertEqual(in_some(web, name)[0], "told" if there else "none")
                self.assertEqual(in_each(web, name)[0] == "each", all(name in some for some in greatest))
                self.assertEqual(fewest(web, name)[0] == 0, there)
                if words[name] == "in":
                    self.assertEqual(in_each(web, name)[0], "each")
                if words[name] == "out":
                    self.assertFalse(there)

    def test_the_desk(self):
        for weave in woven_webs():
            web = woven(weave)
            words = {name: word for name, word, number in rounds(web)}
            begin = text_of(weave).split("\n") if text_of(weave) else []
            for name in web.all_names():
                asks = [ask + " " + name for ask in ("word", "firm", "some", "each", "fewest")]
                word, firm, some, each, number = told_by("\n".join(begin + asks))[-5:]
                self.assertEqual((word, word_of(weave, name)), (words[name], words[name]))
                self.assertEqual(firm, won_by(web, name, "firm")[0])
                self.assertEqual((some == "yes", number == "0"), (in_some(web, name)[0] == "told",) * 2)
                self.assertEqual(each == "yes", in_each(web, name)[0] == "each")
                self.assertEqual(number, str(fewest(web, name)[0]))

    def test_a_plain_weave_gives_the_words_of_its_plain_web(self):
        for names, strikes in drawn_webs():
            rows = [("s" + "abcdefghijkl"[at], one, other) for at, (one, other) in enumerate(strikes[:12])]
            weave = Weave([], [(name, "claim", []) for name in names], rows, [])
            words = {name: word for name, word, number in rounds(plain_web(weave))}
            self.assertEqual({name: word_of(weave, name) for name in names}, words)
            self.assertEqual(plain_web(weave).all_strikes(), sorted(strikes[:12]))

    def test_a_change_leaves_what_telling_all_anew_would(self):
        for names, strikes in drawn_webs()[::3]:
            keeper = Keeper(Web(names, []))
            for one, other in strikes:
                keeper.put_strike(one, other)
            web = Web(names, strikes)
            self.assertEqual(keeper.words(), Keeper(web).words())
            self.assertEqual(greatest_with(keeper.web_now()), greatest_with(web))


class Papers(unittest.TestCase):
    def check(self, web):
        self.assertIs(shows_least(web, rounds(web)), True)
        self.assertIs(shows_greatest(web, *greatest_with(web)), True)
        self.assertIs(shows_outright(web, *outright_with(web)), True)
        self.assertIs(shows_granted(web, *granted(web)), True)
        for name in web.all_names():
            word, *paper = in_each(web, name)
            if word == "each":
                self.assertIs(shows_greatest(web, *paper), True)
            word, paper = in_some(web, name)
            if word == "none":
                self.assertIs(shows_none(web, [name], paper), True)
            for kind in ("firm", "some"):
                self.assertIs(shows_won(web, name, kind, won_by(web, name, kind)), True)
            self.assertIs(shows_fewest(web, name, fewest(web, name)), True)
        for some in itertools.combinations(web.all_names(), 2):
            word, paper = standing_with(web, some)
            if word == "none":
                self.assertIs(shows_none(web, some, paper), True)

    def test_each_paper_that_is_told_is_taken(self):
        for names, strikes in drawn_webs():
            self.check(Web(names, strikes))

    def test_of_woven_webs(self):
        for weave in list(woven_webs())[::2]:
            self.check(woven(weave))

    def test_each_paper_is_taken_of_a_web_that_is_made_again(self):
        for names, strikes in drawn_webs()[::5]:
            web, again = Web(names, strikes), Web(plain.shuffled(214, names), plain.shuffled(215, strikes))
            for name in names:
                for kind in ("firm", "some"):
                    self.assertIs(shows_won(again, name, kind, won_by(web, name, kind)), True)
                self.assertIs(shows_fewest(again, name, fewest(web, name)), True)


class Own(unittest.TestCase):
    def check(self, tell):
        """What is told three times is the same, shares no list, and stays when another one is changed."""
        first, again, more = tell(), tell(), tell()
        self.assertEqual(first, again)
        lists = plain.told_lists([first, again, more])
        self.assertEqual(len({id(one) for one in lists}), len(lists))
        plain.spoil(first)
        self.assertEqual(again, more)
        self.assertEqual(tell(), more)

    def test_all_that_is_told_of_webs(self):
        for names, strikes in drawn_webs()[::4]:
            web, some = Web(names, strikes), sorted(names)[:2]
            for tell in (rounds, least, whole_sets, greatest_sets, outright_sets, tellings, greatest_with, outright_with,
                         granted, parts, rings, Web.all_names, Web.all_strikes):
                self.check(lambda: tell(web))
            for tell in (behind, ahead_of, kept_by, words_by, standing_with):
                self.check(lambda: tell(web, some))
            for name in names:
                for tell in (in_some, in_each, fewest, Web.strikers, Web.struck):
                    self.check(lambda: tell(web, name))
                for kind in ("firm", "some"):
                    self.check(lambda: won_by(web, name, kind))
                    dispute = Dispute(web, name, kind)
                    self.check(dispute.moves)
                    self.check(dispute.named)
            self.check(part_of(web, some).all_strikes)
            self.assertEqual((web.all_names(), web.all_strikes()), (sorted(names), sorted(strikes)))

    def test_all_that_is_told_of_weaves(self):
        for handed in looms.drawn_weaves(216, 30, (3, 4, 5, 3)):
            weave = Weave(*handed)
            self.check(lambda: counting(weave))
            for name, kind, speakers in handed[1]:
                self.check(lambda: backers(weave, name))
            for name, one, goal in handed[2]:
                self.check(lambda: hit_by(weave, name))
            self.check(woven(weave).all_strikes)
            text = text_of(weave)
            self.check(lambda: [list(field) for field in (weave_of(text).people, weave_of(text).sayings)])
            self.assertEqual((weave.people, weave.sayings, weave.strikes, weave.backs), handed)

    def test_all_that_a_keeper_and_a_desk_tell(self):
        keeper = Keeper(Web(["a", "b", "c"], [("a", "b"), ("b", "c")]))
        self.check(keeper.words)
        self.check(keeper.looked)
        # A change and its undoing tell the same again.
        self.check(lambda: [keeper.take_name("a"), keeper.looked(), keeper.words(), keeper.undo(), keeper.words()])
        self.check(lambda: told_by("say a fact\nstrike s a a\nrounds\ngreatest"))


if __name__ == "__main__":
    unittest.main()
