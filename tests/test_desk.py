"""[1], [2] and [24]: the rows of a desk, and its answers."""

import random
import unittest

import desks
import looms
from strikeweave.desk import told_by
from strikeweave.errors import BadRow, StrikeError
from test_texts import row_texts

BEGIN = ["person ann 3", "person bob 7", "say rain fact ann", "say dry claim bob", "say picnic claim",
         "strike s rain dry", "strike t dry rain", "strike u dry picnic", "back picnic dry"]


class Case(unittest.TestCase):
    def ask(self, rows):
        """The answers, which are those of a plain desk, too."""
        text = "\n".join(rows)
        told = told_by(text)
        beside = desks.PlainDesk()
        self.assertEqual(told, [beside.answer(row) for row in rows if row], rows)
        self.assertIs(type(told), list)
        self.assertTrue(all(type(answer) is str for answer in told))
        again = told_by(text)
        again.reverse()
        again.append("x")
        self.assertEqual(told_by(text), told)
        return told

    def last(self, *rows):
        return self.ask(BEGIN + list(rows))[len(BEGIN):]

    def refused(self, rows, number):
        with self.assertRaises(BadRow) as caught:
            told_by("\n".join(rows))
        self.assertEqual(caught.exception.row, number, rows)


class Deeds(Case):
    def test_by_hand(self):
        self.assertEqual(self.ask(BEGIN), ["done"] * 9)
        self.assertEqual(self.last("word rain", "word dry", "word picnic", "word s", "word t", "word u", "word ann"), [
            "in", "out", "out", "in", "none", "out", "refused"])

    def test_nothing_at_all(self):
        self.assertEqual(told_by(""), [])
        self.assertEqual(told_by("\n"), [])
        self.assertEqual(told_by("\n\n\n"), [])

    def test_rows_without_signs_are_passed_over(self):
        self.assertEqual(self.ask(["", "say a fact", "", "", "word a", ""]), ["done", "in"])
        self.assertEqual(told_by("say a fact\n"), ["done"])

    def test_refused_people(self):
        self.assertEqual(self.last("person ann 3", "person bob 1", "person rain 1", "person s 0", "person rain 1"), [
            "refused", "refused", "done", "done", "refused"])

    def test_refused_sayings(self):
        self.assertEqual(self.last(
            "say rain claim", "say s claim", "say x fact zoe", "say x fact rain", "say x fact ann ann", "say x fact bob ann",
            "say x fact", "say ann claim", "say bob claim bob"), [
            "refused", "refused", "refused", "refused", "refused", "done", "refused", "done", "done"])

    def test_refused_strikes(self):
        self.assertEqual(self.last(
            "strike s rain dry", "strike rain rain dry", "strike x s dry", "strike x ann dry", "strike x zoe dry",
            "strike x rain zoe", "strike x rain ann", "strike x rain y", "strike x rain x", "strike y rain x",
            "strike z rain s", "strike ann rain dry"), [
            "refused", "refused", "refused", "refused", "refused", "refused", "refused", "refused", "done", "done", "done",
            "done"])

    def test_a_goal_must_be_there_or_be_its_own(self):
        self.assertEqual(self.ask(["say a fact", "strike s a t", "strike t a t", "strike s a t"]), [
            "done", "refused", "done", "done"])

    def test_refused_backs(self):
        self.assertEqual(self.last(
            "back picnic dry", "back dry picnic", "back dry dry", "back s dry", "back dry s", "back ann dry", "back zoe dry",
            "back dry zoe", "back rain dry", "back rain dry"), [
            "refused", "done", "refused", "refused", "refused", "refused", "refused", "refused", "done", "refused"])

    def test_unback(self):
        self.assertEqual(self.last(
            "unback dry picnic", "unback picnic dry", "word picnic", "unback picnic dry", "unback zoe dry", "unback s t",
            "back picnic dry", "word picnic"), [
            "refused", "done", "in", "refused", "refused", "refused", "done", "out"])

    def test_a_refused_deed_changes_nothing(self):
        for deed in ("say x fact zoe", "strike x rain zoe", "drop zoe", "unback rain dry", "back dry dry", "person ann 9"):
            asks = ["counting", "rounds", "greatest", "word x", "fewest dry", "strike v dry dry"]
            self.assertEqual(self.last(deed, *asks)[1:], self.last(*asks))


class Drops(Case):
    def test_of_what_is_not_there(self):
        self.assertEqual(self.last("drop ann", "drop zoe", "drop rain", "drop rain", "drop s"), [
            "refused", "refused", "done", "refused", "refused"])

    def test_a_saying_with_its_strikes_and_backs(self):
        self.assertEqual(self.last("drop dry", "counting", "rounds", "back picnic dry", "say dry claim", "rounds",
                                   "unback picnic dry", "strike s rain dry", "strike t dry rain", "strike u dry picnic"), [
            "done", "-", "picnic:in:1 rain:in:1", "refused", "done", "dry:in:1 picnic:in:1 rain:in:1", "refused",
            "done", "done", "done"])

    def test_a_strike_alone(self):
        self.assertEqual(self.last("drop s", "rounds", "drop s", "unback picnic dry"), [
            "done", "dry:in:1 rain:in:1 u:in:1 picnic:out:1", "refused", "done"])

    def test_strikes_at_strikes_at_strikes(self):
        begin = ["say a fact", "say b fact", "say c fact"] + [
            "strike s a b", "strike t c s", "strike u c t", "strike v a u", "strike w a a", "strike x c x"]
        gone = {"b": "stuv", "s": "stuv", "t": "tuv", "u": "uv", "v": "v", "w": "w", "x": "x", "a": "stuvw", "c": "tuvx"}
        for name, strikes in gone.items():
            told = self.ask(begin + ["drop " + name] + ["word " + one for one in "stuvwx"])[len(begin):]
            self.assertEqual([one for one, word in zip("stuvwx", told[1:]) if word == "refused"], list(strikes), name)

    def test_strikes_that_strike_one_another(self):
        # A goal must be there ahead, so a ring of strikes goes through a strike that was put anew.
        rows = ["say a fact", "strike s a s", "strike t a s", "drop s", "counting", "strike s a s", "strike t a s",
                "drop t", "counting"]
        self.assertEqual(self.ask(rows)[3:], ["done", "-", "done", "done", "done", "s"])

    def test_the_people_stay(self):
        self.assertEqual(self.last("drop rain", "say rain fact ann", "say x claim bob", "person ann 3"), [
            "done", "done", "done", "refused"])

    def test_a_dropped_one_comes_last_when_it_is_put_again(self):
        self.assertEqual(self.last("drop u", "strike u dry picnic", "word u"), ["done", "done", "out"])


class Bounds(Case):
    def test_people(self):
        rows = ["person %s 1" % name for name in "abcdefghi"]
        self.assertEqual(self.ask(rows), ["done"] * 8 + ["refused"])
        self.assertEqual(self.ask(rows + ["say x fact i", "say x fact h"])[-2:], ["refused", "done"])

    def test_sayings(self):
        rows = ["say %s fact" % name for name in "abcdefghijklm"]
        self.assertEqual(self.ask(rows), ["done"] * 12 + ["refused"])
        self.assertEqual(self.ask(rows + ["word m", "drop a", "say m fact", "say a fact"])[-4:], [
            "refused", "done", "done", "refused"])

    def test_strikes(self):
        rows = ["say a fact"] + ["strike s%s a a" % name for name in "abcdefghijklm"]
        self.assertEqual(self.ask(rows), ["done"] * 13 + ["refused"])
        self.assertEqual(self.ask(rows + ["drop sc", "strike sm a sa", "strike sc a a"])[-3:], ["done", "done", "refused"])

    def test_backs(self):
        pairs = [(one, other) for one in "abcd" for other in "abcde" if one != other]
        rows = ["say %s fact" % name for name in "abcde"] + ["back %s %s" % pair for pair in pairs[:13]]
        self.assertEqual(self.ask(rows), ["done"] * 17 + ["refused"])
        self.assertEqual(self.ask(rows + ["unback a b", "back %s %s" % pairs[12], "back a b"])[-3:], [
            "done", "done", "refused"])

    def test_webs_of_more_than_twelve_names(self):
        asks = ["greatest", "outright", "granted", "some a", "each a", "fewest a"]
        free = ["word a", "rounds", "least", "counting", "firm a", "firm sa"]
        rows = ["say a claim", "say b claim", "say c fact"] + ["strike s%s a b" % name for name in "abcdefghi"]
        told = self.ask(rows + asks + free)[len(rows):]
        self.assertNotIn("refused", told)
        more = self.ask(rows + ["strike sj a sa"] + asks + free)[len(rows) + 1:]
        self.assertEqual(more[:6], ["refused"] * 6)
        self.assertNotIn("refused", more[6:])
        # A strike that doesn't count is none of the woven web's.
        weak = self.ask(rows + ["strike sj a c"] + asks + free)[len(rows) + 1:]
        self.assertEqual(weak, told)

    def test_the_greatest_weave(self):
        said = "abcdefghijkl"
        rows = ["person p%s %d" % (said[at], at) for at in range(8)]
        rows += ["say %s claim p%s" % (name, said[at % 8]) for at, name in enumerate(said)]
        rows += ["strike s%s %s %s" % (name, name, said[(at + 3) % 12]) for at, name in enumerate(said)]
        rows += ["back %s %s" % (name, said[(at + 5) % 12]) for at, name in enumerate(said)]
        asks = ["rounds", "least", "counting"] + ["firm " + name for name in said] + ["word s" + name for name in said]
        self.assertNotIn("refused", self.ask(rows + asks))


class Asks(Case):
    def test_each_ask(self):
        self.assertEqual(self.last(
            "counting", "rounds", "least", "greatest", "outright", "granted", "some rain", "some dry", "each rain",
            "each dry", "firm rain", "firm dry", "fewest rain", "fewest dry", "fewest u"), [
            "s u", "rain:in:1 s:in:1 dry:out:1 picnic:out:1 u:out:1", "rain s", "rain s", "rain s", "rain s", "yes", "no",
            "yes", "no", "asker", "doubter", "0", "1", "1"])

    def test_of_an_empty_weave(self):
        self.assertEqual(self.ask(["counting", "rounds", "least", "greatest", "outright", "granted"]), [
            "-", "-", "-", "-", "-", "-"])
        for ask in ("some", "each", "firm", "fewest", "word"):
            self.assertEqual(self.ask([ask + " a"]), ["refused"])

    def test_several_sets_and_words_open(self):
        rows = ["say a claim", "say b claim", "strike s a b", "strike t b a"]
        self.assertEqual(self.ask(rows + [
            "rounds", "least", "granted", "greatest", "outright", "some a", "each a", "word a", "word s", "firm a"])[4:], [
            "a:open:- b:open:- s:open:- t:open:-", "-", "-", "a s ; b t", "a s ; b t", "yes", "no", "open", "open", "doubter"])

    def test_no_outright_set(self):
        rows = ["say a claim", "strike s a s"]
        self.assertEqual(self.ask(rows + ["outright", "greatest", "granted", "fewest s", "some s", "each a"])[2:], [
            "none", "a", "a", "1", "no", "yes"])
        # The only standing set is the empty one.
        rows = ["say a claim", "strike s a a"]
        self.assertEqual(self.ask(rows + ["outright", "greatest", "granted", "least", "rounds"])[2:], [
            "none", "-", "-", "-", "a:open:- s:open:-"])

    def test_several_rounds(self):
        rows = ["say a claim", "say b claim", "say c claim", "strike s a b", "strike t b c"]
        self.assertEqual(self.ask(rows + ["rounds"])[-1], "a:in:1 s:in:1 b:out:1 t:out:1 c:in:2")

    def test_names_that_the_woven_web_has_not(self):
        for ask in ("some", "each", "firm", "fewest"):
            for name in ("t", "ann", "bob", "zoe"):
                self.assertEqual(self.last(ask + " " + name), ["refused"])
            for name in ("rain", "dry", "picnic", "s", "u"):
                self.assertNotEqual(self.last(ask + " " + name), ["refused"])
        self.assertEqual(self.last("word ann", "word zoe", "word t"), ["refused", "refused", "none"])

    def test_a_person_with_the_name_of_a_saying(self):
        self.assertEqual(self.ask(["person a 1", "word a", "say a fact", "word a", "drop a", "word a", "person a 2"]), [
            "done", "refused", "done", "in", "done", "refused", "refused"])

    def test_an_ask_sees_what_was_done_ahead_alone(self):
        self.assertEqual(self.ask(["word a", "say a fact", "word a", "strike s a a", "word a", "drop s", "word a"]), [
            "refused", "done", "in", "done", "open", "done", "in"])


class Forms(Case):
    RIGHT = [
        "person x 1", "say x fact", "say x claim ann", "strike x rain dry", "back rain dry", "drop rain", "unback rain dry",
        "word x", "counting", "rounds", "least", "greatest", "outright", "granted", "some x", "each x", "firm x", "fewest x"]
    WRONG = [
        " ", "  ", "x", "person", "person x", "person x 10", "person x -1", "person x a", "person X 1", "person x 1 1",
        "person x ", "say x", "say x facts", "say X fact", "say x fact X", "say x fact ann ", "strike x rain", "strike X rain dry",
        "strike x Rain dry", "strike x rain Dry", "strike x rain dry dry", "back rain", "back rain dry dry", "back Rain dry",
        "back rain d1", "drop", "drop Rain", "drop rain dry", "drop rain ", "drop 1", "unback", "unback rain",
        "unback rain dry dry", "unback rain Dry", "word", "word x y", "word X", "word abcdefghi", "counting x", "counting ",
        "rounds 1", "least x", "greatest x", "outright -", "granted rain", "some", "some x y", "each", "each X", "firm",
        "firm x firm", "fewest", "fewest 1", "fewest x ", "Person x 1", "COUNTING", "ask x", "done", "\t", "word\tx", "text",
        "standing", "whole", "drops x", "-"]

    def test_right_ones(self):
        for row in self.RIGHT:
            self.assertEqual(len(self.ask([row])), 1)

    def test_wrong_ones(self):
        for row in self.WRONG:
            self.refused([row], 0)
            self.refused(BEGIN + [row], len(BEGIN))
            self.refused([row] + BEGIN, 0)
            self.refused(["", ""] + BEGIN[:3] + ["", row, "word rain"], 6)

    def test_right_ones_spoilt(self):
        for row in self.RIGHT:
            for other in (" " + row, row + " ", row + " X", row.replace(" ", "  ", 1), row.capitalize(), row + ".",
                          "\t" + row, row.split(" ")[0] + "s" + row[len(row.split(" ")[0]):]):
                if other != row:
                    self.refused(["counting", other], 1)

    def test_the_first_of_two(self):
        self.refused(["counting", "x", "y", "person x 1"], 1)
        self.refused(["", "", "counting", "", "x", "y"], 4)

    def test_ahead_of_all_answers(self):
        # Whatever the rows ahead would answer, and be it refused.
        self.refused(["drop x", "say a fact zoe", "word x", "fewest x", "nothing"], 4)
        self.assertRaises(StrikeError, told_by, "say a fact\nnothing")


class Drawn(Case):
    def test_weaves_texts_are_rows_of_a_desk(self):
        for parts in looms.drawn_weaves(201, 40, (3, 4, 5, 4)):
            people, sayings, strikes, backs = parts
            known = [row[0] for row in sayings]
            here = []
            for name, one, goal in strikes:
                # A goal must be there ahead.
                here.append((name, one, goal if goal in known + [row[0] for row in here] else name))
            rows = row_texts((people, sayings, here, backs))
            told = self.ask(rows + ["counting", "rounds", "least"])
            self.assertEqual(told[:-3], ["done"] * len(rows))

    def test_drawn_rows(self):
        source = random.Random(202)
        answers = []
        for step in range(60):
            names = source.sample(["a", "b", "c", "d", "e", "s", "t", "u", "v"], source.randint(4, 7))
            answers += self.ask(desks.drawn_rows(source, names, source.choice((20, 40, 60))))
        for answer in ("done", "refused", "in", "out", "open", "none", "-", "yes", "no", "asker", "doubter", "0", "1"):
            self.assertGreater(answers.count(answer), 5, answer)

    def test_greater_ones(self):
        for parts in looms.drawn_weaves(204, 12, (4, 5, 7, 4)):
            people, sayings, strikes, backs = parts
            said = [row[0] for row in sayings]
            rows = row_texts((people, sayings, [row for row in strikes if row[2] in said], backs))
            names = said + [row[0] for row in strikes]
            asks = ["greatest", "outright", "granted", "counting", "rounds"]
            for name in names[:3] + names[-3:]:
                asks += [ask + " " + name for ask in ("some", "each", "firm", "fewest", "word")]
            asks += ["drop " + name for name in names[:1]] + asks[:5] + ["drop " + name for name in names[-2:]] + asks[:5]
            self.ask(rows + asks)

    def test_a_hundred_rows(self):
        rows = BEGIN + ["greatest", "granted", "fewest u", "each rain", "rounds", "drop t", "strike t dry rain"] * 13
        self.assertEqual(len(self.ask(rows)), 100)


if __name__ == "__main__":
    unittest.main()
