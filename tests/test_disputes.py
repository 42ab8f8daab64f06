"""[1], [2] and [15]: disputes, move by move."""

import random
import unittest

import games
import plain
from strikeweave.disputes import Dispute
from strikeweave.errors import NoMove, NoName
from strikeweave.webs import Web

KINDS = ("firm", "some")


def state(dispute):
    return (dispute.turn(), dispute.moves(), dispute.named(), dispute.winner())


class Plays(unittest.TestCase):
    def check_state(self, dispute, names, strikes, kind, line):
        right = (games.turn_of(strikes, kind, line), games.moves_of(names, strikes, kind, line), line,
                 games.winner_of(names, strikes, kind, line))
        self.assertEqual(state(dispute), right)
        told = [dispute.moves(), dispute.named(), dispute.moves(), dispute.named()]
        self.assertEqual(len({id(one) for one in told}), 4)
        self.assertTrue(all(type(one) is list for one in told))
        plain.spoil(told)
        self.assertEqual(state(dispute), right)

    def check_refused(self, dispute, names):
        ahead = state(dispute)
        for name in sorted(names) + ["zz", "", None, 0, True, ["a"], ("a",), {}]:
            if name not in ahead[1]:
                self.assertRaises(NoMove, dispute.play, name)
        self.assertEqual(state(dispute), ahead)

    def play_out(self, source, names, strikes, name, kind):
        """A drawn play to its end, now and then a step back; how many names were named in it."""
        web = Web(plain.shuffled(101, names), plain.shuffled(102, strikes))
        dispute, line = Dispute(web, name, kind), [name]
        self.check_state(dispute, names, strikes, kind, line)
        while dispute.winner() is None:
            self.check_refused(dispute, names)
            choice = source.choice(games.moves_of(names, strikes, kind, line))
            self.assertIsNone(dispute.play(choice))
            line.append(choice)
            self.check_state(dispute, names, strikes, kind, line)
            if source.random() < 0.2:
                self.assertIsNone(dispute.back())
                line.pop()
                self.check_state(dispute, names, strikes, kind, line)
        self.assertEqual(dispute.moves(), [])
        self.check_refused(dispute, names)
        many = len(line)
        while len(line) > 1:
            dispute.back()
            line.pop()
            self.check_state(dispute, names, strikes, kind, line)
        self.assertRaises(NoMove, dispute.back)
        self.check_state(dispute, names, strikes, kind, [name])
        self.assertEqual((web.all_names(), web.all_strikes()), (sorted(names), sorted(strikes)))
        return many

    def test_small_webs(self):
        source = random.Random(103)
        for names, strikes in plain.all_small_webs():
            for name in names:
                for kind in KINDS:
                    self.play_out(source, names, strikes, name, kind)

    def test_greater_webs(self):
        source = random.Random(104)
        longest = {kind: 0 for kind in KINDS}
        for names, strikes in list(plain.some_webs(105, 30, 10)) + plain.drawn_webs(106, 60, 4, 12):
            for name in names[:5]:
                for kind in KINDS:
                    many = self.play_out(source, names, strikes, name, kind)
                    longest[kind] = max(longest[kind], many)
        self.assertGreater(longest["firm"], 9)
        self.assertGreater(longest["some"], 5)

    def test_firm_ones_up_to_the_bounds(self):
        source = random.Random(107)
        names, strikes = plain.great_web()
        webs = [(names, strikes), plain.ring_web(30), plain.ring_web(29), plain.row_web(30)]
        for names, strikes in webs:
            for name in (names[0], names[14], names[-1]):
                self.play_out(source, names, strikes, name, "firm")


class ByHand(unittest.TestCase):
    def test_firm(self):
        web = Web(["a", "b", "c", "d"], [("b", "a"), ("c", "b"), ("d", "c"), ("a", "d")])
        dispute = Dispute(web, "a", "firm")
        self.assertEqual(state(dispute), ("doubter", ["b"], ["a"], None))
        dispute.play("b")
        self.assertEqual(state(dispute), ("asker", ["c"], ["a", "b"], None))
        dispute.play("c")
        dispute.play("d")
        # The ring leads back to a, which the asker has named already.
        self.assertEqual(state(dispute), ("asker", [], ["a", "b", "c", "d"], "doubter"))
        self.assertRaises(NoMove, dispute.play, "a")
        dispute.back()
        self.assertEqual(state(dispute), ("doubter", ["d"], ["a", "b", "c"], None))

    def test_firm_doubters_may_name_again(self):
        web = Web(["a", "b", "c"], [("b", "a"), ("c", "b"), ("b", "c")])
        dispute = Dispute(web, "a", "firm")
        for name in ("b", "c", "b"):
            dispute.play(name)
        self.assertEqual(state(dispute), ("asker", [], ["a", "b", "c", "b"], "doubter"))

    def test_some(self):
        web = Web(["a", "b", "c", "d", "e"], [("b", "a"), ("c", "b"), ("d", "b"), ("e", "c"), ("a", "d"), ("c", "e")])
        dispute = Dispute(web, "a", "some")
        self.assertEqual(state(dispute), ("doubter", ["b"], ["a"], None))
        dispute.play("b")
        self.assertEqual(dispute.moves(), ["c"], "d would be struck by a")
        dispute.play("c")
        self.assertEqual(state(dispute), ("doubter", [], ["a", "b", "c"], "asker"), "c strikes both b and e")

    def test_some_doubts_strike_any_of_the_askers_names(self):
        web = Web(["a", "b", "c", "d"], [("b", "a"), ("c", "b"), ("d", "a")])
        dispute = Dispute(web, "a", "some")
        self.assertEqual(dispute.moves(), ["b", "d"])
        dispute.play("b")
        dispute.play("c")
        self.assertEqual(dispute.moves(), ["d"])
        dispute.play("d")
        self.assertEqual(dispute.winner(), "doubter")

    def test_a_first_name_that_strikes_itself(self):
        web = Web(["a", "b"], [("a", "a"), ("b", "a")])
        dispute = Dispute(web, "a", "some")
        self.assertEqual(state(dispute), ("asker", [], ["a"], "doubter"))
        for name in ("a", "b"):
            self.assertRaises(NoMove, dispute.play, name)
        self.assertRaises(NoMove, dispute.back)
        self.assertEqual(state(dispute), ("asker", [], ["a"], "doubter"))
        dispute = Dispute(web, "a", "firm")
        self.assertEqual(state(dispute), ("doubter", ["a", "b"], ["a"], None))
        dispute.play("a")
        self.assertEqual(state(dispute), ("asker", ["b"], ["a", "a"], None))

    def test_names_without_strikers(self):
        for kind in KINDS:
            dispute = Dispute(Web(["a", "b"], [("a", "b")]), "a", kind)
            self.assertEqual(state(dispute), ("doubter", [], ["a"], "asker"))
            self.assertRaises(NoMove, dispute.back)

    def test_strikes_back_again(self):
        web = Web(["a", "b"], [("a", "b"), ("b", "a")])
        self.assertEqual(state(Dispute(web, "a", "some")), ("doubter", [], ["a"], "asker"))
        dispute = Dispute(web, "a", "firm")
        dispute.play("b")
        self.assertEqual(state(dispute), ("asker", [], ["a", "b"], "doubter"))

    def test_names_that_are_none_of_the_webs(self):
        web = Web(["a"], [])
        for kind in KINDS:
            for name in ("b", "", "A", "aa", None, 0, ["a"], ("a",)):
                self.assertRaises(NoName, Dispute, web, name, kind)
            self.assertRaises(NoName, Dispute, Web([], []), "a", kind)

    def test_several_disputes_side_by_side(self):
        web = Web(["a", "b", "c"], [("b", "a"), ("c", "b"), ("a", "c")])
        one, other, some = Dispute(web, "a", "firm"), Dispute(web, "a", "firm"), Dispute(web, "a", "some")
        one.play("b")
        self.assertEqual((one.named(), other.named(), some.named()), (["a", "b"], ["a"], ["a"]))
        some.play("b")
        one.play("c")
        self.assertEqual(state(some), ("asker", [], ["a", "b"], "doubter"))
        self.assertEqual(state(other), ("doubter", ["b"], ["a"], None))
        one.back()
        self.assertEqual((one.named(), some.named()), (["a", "b"], ["a", "b"]))
        self.assertRaises(NoMove, other.back)
        self.assertEqual(web.all_strikes(), [("a", "c"), ("b", "a"), ("c", "b")])

    def test_it_keeps_to_the_web_as_it_was(self):
        names, strikes = ["a", "b"], [("b", "a")]
        web = Web(names, strikes)
        dispute = Dispute(web, "a", "some")
        names.clear()
        strikes.clear()
        web.all_names().clear()
        web.all_strikes().clear()
        web.strikers("a").clear()
        self.assertEqual(state(dispute), ("doubter", ["b"], ["a"], None))
        del web
        dispute.play("b")
        self.assertEqual(dispute.winner(), "doubter")


if __name__ == "__main__":
    unittest.main()
