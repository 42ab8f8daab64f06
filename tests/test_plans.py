"""[1], [2] and [16]: who can win a dispute, and how."""

import random
import unittest

import games
import papers
import plain
from strikeweave.disputes import Dispute
from strikeweave.errors import NoName
from strikeweave.grants import in_some
from strikeweave.plans import won_by
from strikeweave.rounds import least
from strikeweave.treecheck import shows_none
from strikeweave.webs import Web

KINDS = ("firm", "some")


def is_asker_plan(names, strikes, name, plan):
    """Rows (name, number, answers) by [16]."""
    if type(plan) is not list or not all(type(row) is tuple and len(row) == 3 for row in plan):
        return False
    numbers = {row[0]: row[1] for row in plan}
    if len(numbers) != len(plan) or name not in numbers or not all(one in names for one in numbers):
        return False
    for one, number, answers in plan:
        doubts = sorted(striker for striker, other in strikes if other == one)
        if type(number) is not int or type(answers) is not tuple or [pair[0] for pair in answers] != doubts:
            return False
        for pair in answers:
            if type(pair) is not tuple or len(pair) != 2 or (pair[1], pair[0]) not in strikes:
                return False
            if pair[1] not in numbers or not numbers[pair[1]] < number:
                return False
    return True


def is_doubter_plan(names, strikes, name, plan):
    """Rows (name, doubt) by [16]."""
    if type(plan) is not list or not all(type(row) is tuple and len(row) == 2 for row in plan):
        return False
    doubts = dict(plan)
    if len(doubts) != len(plan) or name not in doubts or not all(one in names for one in doubts):
        return False
    return all((doubt, one) in strikes and all(answer in doubts for answer, other in strikes if other == doubt)
               for one, doubt in plan)


def is_plan(names, strikes, name, kind, who, plan):
    if kind == "firm":
        return (is_asker_plan if who == "asker" else is_doubter_plan)(names, strikes, name, plan)
    if who == "asker":
        return type(plan) is list and plan == sorted(plan) and name in plan and plain.standing(strikes, plan)
    return papers.shows_none(names, strikes, [name], plan)


class Player:
    """Goes by a plan; knows what the other one named, and nothing else."""

    def __init__(self, strikes, kind, who, plan):
        self.strikes, self.kind, self.who, self.plan = strikes, kind, who, plan

    def choice(self, line):
        if self.kind == "some":
            return self.some_choice(line)
        if self.who == "doubter":
            return dict(self.plan)[line[-1]]
        answers = {name: dict(pairs) for name, number, pairs in self.plan}
        return answers[line[-2]][line[-1]]

    def some_choice(self, line):
        if self.who == "asker":
            return [name for name in self.plan if (name, line[-1]) in self.strikes][0]
        tree = self.plan
        for doubt, answer in zip(line[1::2], line[2::2]):
            assert doubt == tree[2]
            strikers = sorted(one for one, other in self.strikes if other == doubt)
            tree = tree[3][strikers.index(answer)]
        assert tree[0] == "answer"
        return tree[2]


class WonBy(unittest.TestCase):
    def check(self, names, strikes, name, kind):
        """What is told, looked at by the document's words; who is told."""
        web = Web(plain.shuffled(111, names), plain.shuffled(112, strikes))
        first, again, more = [won_by(web, name, kind) for step in range(3)]
        self.assertEqual(first, again)
        lists = plain.told_lists([first, again, more])
        self.assertEqual(len({id(one) for one in lists}), len(lists))
        plain.spoil(first)
        self.assertEqual(again, more)
        self.assertIs(type(more), tuple)
        who, plan = more
        self.assertIn(who, ("asker", "doubter"))
        self.assertTrue(is_plan(names, strikes, name, kind, who, plan), (strikes, name, kind, more))
        self.assertEqual((web.all_names(), web.all_strikes()), (sorted(names), sorted(strikes)))
        self.assertEqual(won_by(web, name, kind), more)
        return more

    def play_all(self, dispute, player, tries):
        """Plays against all answers, at most so many ends; how many there were."""
        if tries <= 0:
            return 0
        if dispute.winner() is not None:
            self.assertEqual(dispute.winner(), player.who)
            return 1
        if dispute.turn() == player.who:
            choices = [player.choice(dispute.named())]
        else:
            choices = dispute.moves()
        ends = 0
        for name in choices:
            dispute.play(name)
            ends += self.play_all(dispute, player, tries - ends)
            dispute.back()
        return ends

    def play_drawn(self, source, dispute, player):
        while dispute.winner() is None:
            if dispute.turn() == player.who:
                dispute.play(player.choice(dispute.named()))
            else:
                dispute.play(source.choice(dispute.moves()))
        self.assertEqual(dispute.winner(), player.who)

    def test_by_hand(self):
        web = Web(["a", "b", "c"], [("c", "b"), ("b", "a")])
        who, plan = won_by(web, "a", "firm")
        self.assertEqual(who, "asker")
        self.assertEqual(sorted(plan), [("a", 2, (("b", "c"),)), ("c", 1, ())])
        self.assertEqual(won_by(web, "b", "firm"), ("doubter", [("b", "c")]))
        self.assertEqual(won_by(web, "a", "some"), ("asker", ["a", "c"]))
        self.assertEqual(won_by(web, "b", "some"), ("doubter", ("answer", "b", "c", ())))

    def test_a_ring_of_two(self):
        web = Web(["a", "b"], [("a", "b"), ("b", "a")])
        who, plan = won_by(web, "a", "firm")
        self.assertEqual((who, sorted(plan)), ("doubter", [("a", "b"), ("b", "a")]))
        self.assertEqual(won_by(web, "a", "some"), ("asker", ["a"]))

    def test_a_name_that_strikes_itself(self):
        web = Web(["a"], [("a", "a")])
        self.assertEqual(won_by(web, "a", "firm"), ("doubter", [("a", "a")]))
        self.assertEqual(won_by(web, "a", "some"), ("doubter", ("clash", "a", "a")))

    def test_small_webs_beside_all_plays(self):
        for names, strikes in list(plain.all_small_webs()) + plain.drawn_webs(113, 40, 4, 6):
            for name in names:
                for kind in KINDS:
                    who, plan = self.check(names, strikes, name, kind)
                    self.assertEqual(who, games.who_wins(names, strikes, kind, name))
                    player = Player(strikes, kind, who, plan)
                    self.assertGreater(self.play_all(Dispute(Web(names, strikes), name, kind), player, 60), 0)

    def test_up_to_twelve_names(self):
        source = random.Random(114)
        webs = plain.drawn_webs(115, 20, 9, 12) + [plain.ring_web(12), plain.ring_web(11), plain.cliques([3] * 4)]
        for names, strikes in webs:
            web = Web(names, strikes)
            for name in names:
                who, plan = self.check(names, strikes, name, "some")
                self.assertEqual(who, "asker" if in_some(web, name)[0] == "told" else "doubter")
                if who == "doubter":
                    self.assertIs(shows_none(web, [name], plan), True)
                for step in range(5):
                    self.play_drawn(source, Dispute(web, name, "some"), Player(strikes, "some", who, plan))

    def firm_webs(self):
        source = random.Random(116)
        names, strikes = plain.great_web()
        yield names, strikes
        yield from (plain.row_web(30), plain.ring_web(30), plain.ring_web(29))
        pairs = [(one, other) for one in names for other in names]
        for count in (25, 30, 35, 40, 60, 100, 150):
            chosen = source.sample(pairs, count)
            yield names, chosen
            yield names, [(one, other) for one, other in chosen if one < other]
            yield names, [(one, other) for one, other in chosen if one <= other or (one, other) == (names[3], names[4])]
        chain, along = plain.row_web(20)
        yield chain + ["x", "y"], along + [("x", chain[3]), ("x", "y"), ("y", "x"), (chain[18], chain[16])]

    def test_firm_ones_up_to_the_bounds(self):
        source = random.Random(117)
        told = []
        for names, strikes in self.firm_webs():
            web = Web(names, strikes)
            winners = least(web)
            self.assertEqual(winners, plain.least_set(names, strikes))
            for name in names[::2]:
                who, plan = self.check(names, strikes, name, "firm")
                self.assertEqual(who, "asker" if name in winners else "doubter")
                told.append(who)
                for step in range(3):
                    self.play_drawn(source, Dispute(web, name, "firm"), Player(strikes, "firm", who, plan))
        self.assertGreater(told.count("asker"), 30)
        self.assertGreater(told.count("doubter"), 30)

    def test_names_that_are_none_of_the_webs(self):
        for kind in KINDS:
            for name in ("c", "", "A", "aa", None, 0, True, ["a"], ("a",)):
                self.assertRaises(NoName, won_by, Web(["a", "b"], [("a", "b")]), name, kind)
            self.assertRaises(NoName, won_by, Web([], []), "a", kind)


if __name__ == "__main__":
    unittest.main()
