"""A desk: rows of a text put into a weave, take out of it, and ask what it comes to."""

from strikeweave.errors import BadRow, BadWeave, NoName
from strikeweave.fewest import fewest
from strikeweave.grants import granted, in_each, in_some
from strikeweave.lists import greatest_sets, outright_sets
from strikeweave.plans import won_by
from strikeweave.rounds import least, rounds
from strikeweave.texts import are_names, no_parts, put_of, weave_from
from strikeweave.weaves import names_of
from strikeweave.weaving import counting, word_of, woven
from strikeweave.webs import reached

DONE = "done"
REFUSED = "refused"

# How many of each sort a weave has at most, and how many names a web at most for what goes by all its sets.
MOST_ROWS = {"person": 8, "say": 12, "strike": 12, "back": 12}
MOST_NAMES = 12
ASKS_BY_SETS = ("greatest", "outright", "granted", "some", "each", "fewest")

# How many names stand behind each first word; those that put a row of a weave are read as a weave's text is.
NAMES_BEHIND = {
    "drop": 1, "unback": 2, "word": 1, "counting": 0, "rounds": 0, "least": 0, "greatest": 0, "outright": 0,
    "granted": 0, "some": 1, "each": 1, "firm": 1, "fewest": 1}


def told_by(text):
    """The answers to the text's rows, in order."""
    # All rows are looked at ahead of the first answer.
    rows = desk_rows(text)
    parts = no_parts()
    answers = []
    for words in rows:
        answers.append(answer_to(parts, words))
    return answers


def desk_rows(text):
    """The words of each row that has signs."""
    rows = []
    for number, row in enumerate(text.split("\n")):
        if row:
            words = row.split(" ")
            if not is_desk_row(words):
                raise BadRow(number)
            rows.append(words)
    return rows


def is_desk_row(words):
    if words[0] in NAMES_BEHIND:
        return are_names(words[1:], NAMES_BEHIND[words[0]])
    return put_of(words) is not None


def answer_to(parts, words):
    """Does or answers what a row says; parts are the rows of the desk's weave, by their sorts."""
    if words[0] == "drop":
        return drop(parts, words[1])
    if words[0] == "unback":
        return unback(parts, tuple(words[1:]))
    if words[0] in NAMES_BEHIND:
        return answer_of(weave_from(parts), words[0], words[1:])
    sort, row = put_of(words)
    return put_row(parts, sort, row)


def put_row(parts, sort, row):
    more = dict(parts)
    more[sort] = parts[sort] + [row]
    if len(more[sort]) > MOST_ROWS[sort]:
        return REFUSED
    try:
        # The whole weave is asked: a saying may bear no strike's name either, and these come behind in a weave.
        weave_from(more)
    except BadWeave:
        return REFUSED
    parts[sort] = more[sort]
    return DONE


def drop(parts, name):
    """Takes a saying or a strike out, with all that goes with it."""
    names = names_of(parts["say"]) + names_of(parts["strike"])
    if name not in names:
        return REFUSED
    gone = reached({one: strikes_about(parts, one) for one in names}, [name])
    parts["say"] = [row for row in parts["say"] if row[0] not in gone]
    parts["strike"] = [row for row in parts["strike"] if row[0] not in gone]
    parts["back"] = [pair for pair in parts["back"] if name not in pair]
    return DONE


def strikes_about(parts, name):
    """The strikes of which this is the one or the goal."""
    return [strike for strike, one, goal in parts["strike"] if name in (one, goal)]


def unback(parts, pair):
    if pair not in parts["back"]:
        return REFUSED
    parts["back"].remove(pair)
    return DONE


def word_text(weave, name):
    try:
        return word_of(weave, name)
    except NoName:
        return REFUSED


def set_text(some):
    return " ".join(some) or "-"


def sets_text(sets):
    return " ; ".join([set_text(some) for some in sets]) or "none"


def yes_or_no(so):
    return "yes" if so else "no"


def round_text(name, word, number):
    if number is None:
        return f"{name}:{word}:-"
    return f"{name}:{word}:{number}"


def tell_rounds(web):
    return " ".join([round_text(name, word, number) for name, word, number in rounds(web)]) or "-"


def tell_least(web):
    return set_text(least(web))


def tell_greatest(web):
    return sets_text(greatest_sets(web))


def tell_outright(web):
    return sets_text(outright_sets(web))


def tell_granted(web):
    return set_text(granted(web)[0])


def tell_some(web, name):
    return yes_or_no(in_some(web, name)[0] == "told")


def tell_each(web, name):
    return yes_or_no(in_each(web, name)[0] == "each")


def tell_firm(web, name):
    return won_by(web, name, "firm")[0]


def tell_fewest(web, name):
    return str(fewest(web, name)[0])


TELL_OF_ALL = {
    "rounds": tell_rounds, "least": tell_least, "greatest": tell_greatest, "outright": tell_outright,
    "granted": tell_granted}
TELL_OF_NAME = {"some": tell_some, "each": tell_each, "firm": tell_firm, "fewest": tell_fewest}


def answer_of(weave, ask, names):
    """The answer to an ask about these names, at most one."""
    if ask == "counting":
        return set_text(counting(weave))
    if ask == "word":
        return word_text(weave, names[0])
    web = woven(weave)
    if not may_ask(web.all_names(), ask, names):
        return REFUSED
    if names:
        tell_of_name = TELL_OF_NAME[ask]
        return tell_of_name(web, names[0])
    tell_of_all = TELL_OF_ALL[ask]
    return tell_of_all(web)


def may_ask(known, ask, names):
    """Whether these are names of the woven web, and it isn't too great for the ask."""
    if ask in ASKS_BY_SETS and len(known) > MOST_NAMES:
        return False
    return all([name in known for name in names])
