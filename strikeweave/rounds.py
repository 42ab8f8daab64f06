"""Words given round by round, the least whole set, and whether rows show it."""

from strikeweave.kinds import is_listed, is_number, is_row_of


def rounds(web):
    """The rows (name, word, round): round by round, in ahead of out, rising each; then all that stay open."""
    return rounds_beside(web, {})


def rounds_beside(web, known):
    """The same rows for all names but those whose words are known, a dict: these stay as they are."""
    words = dict(known)
    rows = []
    number = 1
    fresh = one_round(web, words, number)
    while fresh:
        rows.extend(fresh)
        number += 1
        fresh = one_round(web, words, number)
    return rows + [(name, "open", None) for name in wordless(web, words)]


def one_round(web, words, number):
    """The rows of the next round; their words are put down in words."""
    ins = [name for name in wordless(web, words) if all_out(web, words, name)]
    words.update({name: "in" for name in ins})
    # Asked only now: what got in in this round strikes others out in the same round.
    outs = [name for name in wordless(web, words) if one_in(web, words, name)]
    words.update({name: "out" for name in outs})
    return [(name, "in", number) for name in ins] + [(name, "out", number) for name in outs]


def wordless(web, words):
    return [name for name in web.all_names() if name not in words]


def all_out(web, words, name):
    return all([words.get(striker) == "out" for striker in web.strikers(name)])


def one_in(web, words, name):
    return any([words.get(striker) == "in" for striker in web.strikers(name)])


def least(web):
    """The rising list of the names that rounds tells to be in."""
    return sorted([name for name, word, number in rounds(web) if word == "in"])


def shows_least(web, rows):
    """Whether rows, in any order, give each name a word and a number such that those in are just the least set."""
    if not are_rows(web, rows):
        return False
    words = {name: word for name, word, number in rows}
    numbers = {name: number for name, word, number in rows}
    return all([is_grounded(web, words, numbers, name) for name in words])


def are_rows(web, rows):
    """Whether these are rows (name, word, number), each name of the web once."""
    names = web.all_names()
    if not is_listed(rows) or not all([is_row(names, row) for row in rows]):
        return False
    return sorted([row[0] for row in rows]) == names


def is_row(names, row):
    if not is_row_of(row, 3) or row[0] not in names:
        return False
    if row[1] == "open":
        return row[2] is None
    return row[1] in ("in", "out") and is_number(row[2])


def is_grounded(web, words, numbers, name):
    """Whether the name's word and number go by those of its strikers."""
    strikers = web.strikers(name)
    if words[name] == "in":
        return all([words[one] == "out" and numbers[one] < numbers[name] for one in strikers])
    if words[name] == "out":
        return any([words[one] == "in" and numbers[one] <= numbers[name] for one in strikers])
    against = [words[one] for one in strikers]
    return "in" not in against and "open" in against
