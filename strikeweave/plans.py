"""Who can win a dispute, and how."""

from strikeweave.grants import in_some
from strikeweave.rounds import rounds


def won_by(web, name, kind):
    """A pair: who can win the dispute about this name, whatever the other one names, and a plan to go by."""
    web.check_has(name)
    if kind == "firm":
        return won_firm(web, name)
    word, plan = in_some(web, name)
    if word == "told":
        return ("asker", plan)
    return ("doubter", plan)


def won_firm(web, name):
    rows = rounds(web)
    words = {one: word for one, word, number in rows}
    if words[name] == "in":
        return ("asker", [answer_row(web, rows, one, number) for one, word, number in rows if word == "in"])
    return ("doubter", [(one, doubt_at(web, words, one)) for one, word, number in rows if word != "in"])


def answer_row(web, rows, name, number):
    """The row of a name that is in: each striker of it got out by one that was in ahead of the name."""
    earliest = [one for one, word, count in rows if word == "in"]
    answers = [(doubt, first_striker(web, doubt, earliest)) for doubt in web.strikers(name)]
    return (name, number, tuple(answers))


def first_striker(web, name, order):
    """The first one in this order that strikes the name."""
    return [one for one in order if one in web.strikers(name)][0]


def doubt_at(web, words, name):
    """A striker of a name that isn't in, such that none of its own strikers is in."""
    strikers = web.strikers(name)
    ins = [one for one in strikers if words[one] == "in"]
    # A name that is out is struck by one that is in, an open one by an open one; both have no striker that is in.
    return (ins + [one for one in strikers if words[one] == "open"])[0]
