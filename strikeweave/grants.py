"""What is in some standing set, in each greatest one, and what every doubter grants."""

from strikeweave.lists import greatest_sets
from strikeweave.sets import strikers_of_any
from strikeweave.trees import greatest_with, standing_with


def in_some(web, name):
    """("told", set), a standing set that has the name; or ("none", tree), which shows that there is none."""
    web.check_has(name)
    return standing_with(web, [name])


def in_each(web, name):
    """("each", sets, tree), the greatest sets, where each has the name; or ("not", set), one of them that hasn't."""
    web.check_has(name)
    without = [some for some in greatest_sets(web) if name not in some]
    if without:
        return ("not", without[0])
    sets, tree = greatest_with(web)
    return ("each", sets, tree)


def granted(web):
    """A pair: the greatest standing set of which no name is struck by a standing set, and a paper that shows it."""
    told = {name: standing_with(web, [name]) for name in web.all_names()}
    drops = outer_drops(web, told)
    drops = drops + bare_drops(web, drops)
    dropped = [name for name, why in drops]
    some = [name for name in web.all_names() if name not in dropped]
    # No striker of these is in a standing set, so a tree was told of each.
    trees = [(name, told[name][1]) for name in strikers_of_any(web, some)]
    return (some, (trees, drops))


def outer_drops(web, told):
    """The drops of all names that a standing set strikes, or that are in none."""
    drops = []
    for name in web.all_names():
        against = [striker for striker in web.strikers(name) if told[striker][0] == "told"]
        if against:
            # A copy: the same set may strike several names, and no list is told twice.
            drops.append((name, ("struck", list(told[against[0]][1]))))
        elif told[name][0] == "none":
            drops.append((name, ("never", told[name][1])))
    return drops


def bare_drops(web, drops):
    """The drops behind these: of names with a striker that only dropped names strike, one after the other."""
    dropped = [name for name, why in drops]
    bare = []
    fresh = next_bare(web, dropped)
    while fresh is not None:
        bare.append(fresh)
        dropped.append(fresh[0])
        fresh = next_bare(web, dropped)
    return bare


def next_bare(web, dropped):
    """The next such drop; None where there is none left."""
    for name in [one for one in web.all_names() if one not in dropped]:
        for striker in web.strikers(name):
            if all([one in dropped for one in web.strikers(striker)]):
                return (name, ("bare", striker))
    return None
