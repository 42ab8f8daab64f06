"""What the tests of disputes need: the rules of [15] by the document's words, played out plainly."""

import functools


def is_quiet(strikes, some):
    return not any((one, other) in strikes for one in some for other in some)


def turn_of(strikes, kind, line):
    if kind == "some" and (line[0], line[0]) in strikes:
        return "asker"
    return "doubter" if len(line) % 2 else "asker"


def moves_of(names, strikes, kind, line):
    mine = line[0::2]
    against_last = [name for name in sorted(names) if (name, line[-1]) in strikes]
    if turn_of(strikes, kind, line) == "doubter":
        if kind == "firm":
            return against_last
        return [name for name in sorted(names) if any((name, one) in strikes for one in mine)
                and not any((one, name) in strikes for one in mine)]
    if kind == "firm":
        return [name for name in against_last if name not in mine]
    return [name for name in against_last if is_quiet(strikes, list(mine) + [name])]


def other_one(who):
    return "asker" if who == "doubter" else "doubter"


def winner_of(names, strikes, kind, line):
    if moves_of(names, strikes, kind, line):
        return None
    return other_one(turn_of(strikes, kind, line))


def who_wins(names, strikes, kind, name):
    """Who can win, whatever the other one names: all plays gone through."""
    strikes = frozenset(strikes)

    # What can come later hangs on who named what, not on when; but the last name counts.
    @functools.lru_cache(maxsize=None)
    def wins(mine, last, turn):
        if turn == "doubter":
            line = [last] if kind == "firm" else sorted(mine)
            doubts = [one for one in names if any((one, other) in strikes for other in line)
                      and (kind == "firm" or not any((other, one) in strikes for other in mine))]
            return "doubter" if any(wins(mine, one, "asker") == "doubter" for one in doubts) else "asker"
        answers = [one for one in names if (one, last) in strikes]
        if kind == "firm":
            answers = [one for one in answers if one not in mine]
        else:
            answers = [one for one in answers if is_quiet(strikes, mine | {one})]
        return "asker" if any(wins(mine | {one}, one, "doubter") == "asker" for one in answers) else "doubter"

    return wins(frozenset([name]), name, turn_of(strikes, kind, [name]))
