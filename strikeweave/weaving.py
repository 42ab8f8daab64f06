"""What a weave comes to: strengths, the strikes that count, what they hit, and the web of all this."""

from strikeweave.errors import NoName
from strikeweave.rounds import rounds
from strikeweave.weaves import names_of
from strikeweave.webs import Web, reached

FACT_STRENGTH = 10


def strength(weave, name):
    """Of a saying the greatest rank of its speakers, and more where it is a fact; of a strike that of its one."""
    strike = row_of(weave.strikes, name)
    if strike is not None:
        return saying_strength(weave, row_of(weave.sayings, strike[1]))
    return saying_strength(weave, saying_of(weave, name))


def saying_strength(weave, saying):
    name, kind, speakers = saying
    greatest = max([rank for person, rank in weave.people if person in speakers], default=0)
    return greatest + FACT_STRENGTH if kind == "fact" else greatest


def row_of(rows, name):
    """The row that begins with this name; None where there is none."""
    for row in rows:
        if row[0] == name:
            return row
    return None


def saying_of(weave, name):
    """The row of this saying."""
    saying = row_of(weave.sayings, name)
    if saying is None:
        raise NoName("the weave has no such saying")
    return saying


def strike_of(weave, name):
    """The row of this strike."""
    strike = row_of(weave.strikes, name)
    if strike is None:
        raise NoName("the weave has no such strike")
    return strike


def counting(weave):
    """The rising list of the strikes whose strength is not less than that of their goal."""
    return sorted([name for name, one, goal in weave.strikes if strength(weave, name) >= strength(weave, goal)])


def backers(weave, name):
    """The rising list of all other sayings from which a row of backs leads to this one."""
    known = saying_of(weave, name)[0]
    steps = {said: [one for one, other in weave.backs if other == said] for said in names_of(weave.sayings)}
    return [one for one in reached(steps, [known]) if one != known]


def hit_by(weave, name):
    """The rising list of the strike's goal and, where this is a saying, all its backers."""
    goal = strike_of(weave, name)[2]
    if goal in names_of(weave.sayings):
        return sorted(backers(weave, goal) + [goal])
    return [goal]


def woven(weave):
    """The web of all sayings and of the strikes that count."""
    counted = counting(weave)
    names = names_of(weave.sayings) + counted
    return Web(names, [(name, other) for name in counted for other in woven_struck(weave, names, name)])


def woven_struck(weave, names, name):
    """What a strike that counts strikes in the woven web of these names."""
    hit = hit_by(weave, name)
    # Strikes that don't count are none of the names, and so aren't told, though they may be hit.
    return [other for other in names if other in hit or is_strike_from(weave, other, hit)]


def is_strike_from(weave, name, hit):
    """Whether this is a strike whose one is among those that are hit."""
    strike = row_of(weave.strikes, name)
    return strike is not None and strike[1] in hit


def word_of(weave, name):
    """The word that rounds gives the name in the woven web; "none" of a strike that doesn't count."""
    if name not in names_of(weave.sayings) + names_of(weave.strikes):
        raise NoName("the weave has no such saying or strike")
    words = {one: word for one, word, number in rounds(woven(weave))}
    return words.get(name, "none")


def plain_web(weave):
    """The web of the sayings alone, one striking other where a strike goes from one to other."""
    said = names_of(weave.sayings)
    return Web(said, sorted({(one, goal) for name, one, goal in weave.strikes if goal in said}))
