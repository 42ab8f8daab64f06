"""What the tests of weaves need: drawn weaves, and the words of [18] and [19] reckoned plainly."""

import random

NAMES = [first + second for first in "spqr" for second in "tabcdefghijkl"]


def drawn_weave(source, most=(8, 12, 12, 12)):
    """People, sayings, strikes and backs, as they are handed in."""
    people_count, said_count, strike_count, back_count = [source.randint(0, many) for many in most]
    names = source.sample(NAMES, said_count + strike_count)
    said, struck = names[:said_count], names[said_count:] if said_count else []
    # People may bear the names of sayings and strikes.
    people = [(name, source.randint(0, 9)) for name in source.sample(NAMES, people_count)]
    shared = min(len(people), source.choice((0, 1, 3)))
    sayings = [(name, source.choice(("fact", "claim", "claim")),
                [person for person, rank in source.sample(people, source.randint(0, shared))]) for name in said]
    goals = said * source.choice((1, 1, 4)) + struck
    strikes = [(name, source.choice(said), source.choice(goals)) for name in struck]
    pairs = [(one, other) for one in said for other in said if one != other]
    backs = source.sample(pairs, min(len(pairs), source.choice((0, back_count))))
    return people, sayings, strikes, backs


def drawn_weaves(seed, count, most=(8, 12, 12, 12)):
    source = random.Random(seed)
    return [drawn_weave(source, most) for step in range(count)]


def strength(parts, name):
    people, sayings, strikes, backs = parts
    for own, one, goal in strikes:
        if own == name:
            return strength(parts, one)
    [(own, kind, speakers)] = [row for row in sayings if row[0] == name]
    return max([0] + [dict(people)[person] for person in speakers]) + (10 if kind == "fact" else 0)


def counting(parts):
    return sorted(name for name, one, goal in parts[2] if strength(parts, one) >= strength(parts, goal))


def backers(parts, name):
    found = {name}
    for step in parts[1]:
        found |= {one for one, other in parts[3] if other in found}
    return sorted(found - {name})


def hit_by(parts, name):
    [goal] = [goal for own, one, goal in parts[2] if own == name]
    said = [row[0] for row in parts[1]]
    return sorted([goal] + (backers(parts, goal) if goal in said else []))


def woven(parts):
    """The woven web as (names, strikes), both rising."""
    people, sayings, strikes, backs = parts
    said, counted = [row[0] for row in sayings], counting(parts)
    found = set()
    for name in counted:
        for hit in hit_by(parts, name):
            if hit in said or hit in counted:
                found.add((name, hit))
            found |= {(name, own) for own, one, goal in strikes if one == hit and own in counted}
    return sorted(said + counted), sorted(found)


def plain_web(parts):
    said = [row[0] for row in parts[1]]
    return sorted(said), sorted({(one, goal) for name, one, goal in parts[2] if goal in said})
