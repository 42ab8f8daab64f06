"""Sets of a web's names, whether they stand, and the words that they give."""

WORDS = ("in", "out", "open")


def is_quiet(web, some):
    """Whether none of the set strikes one of the set."""
    hit = struck_by_any(web, some)
    return all([name not in hit for name in some])


def strikes_back(web, some):
    """Whether each name that strikes one of the set is struck by one of the set."""
    hit = struck_by_any(web, some)
    return all([name in hit for name in strikers_of_any(web, some)])


def stands(web, some):
    """Whether the set is quiet and strikes back."""
    return is_quiet(web, some) and strikes_back(web, some)


def kept_by(web, some):
    """The rising list of all names each of whose strikers is struck by one of the set."""
    hit = struck_by_any(web, some)
    return [name for name in web.all_names() if all([striker in hit for striker in web.strikers(name)])]


def is_whole(web, some):
    """Whether the set stands and keeps just its own names."""
    return stands(web, some) and kept_by(web, some) == sorted(some)


def is_outright(web, some):
    """Whether the set is quiet and strikes each name that is not in it."""
    hit = struck_by_any(web, some)
    return is_quiet(web, some) and all([name in some or name in hit for name in web.all_names()])


def struck_by_any(web, some):
    """The rising list of the names that one of the set strikes."""
    return sorted({other for name in some for other in web.struck(name)})


def strikers_of_any(web, some):
    """The rising list of the names that strike one of the set."""
    return sorted({striker for name in some for striker in web.strikers(name)})


def words_by(web, some):
    """The words that a quiet set gives: in for its names, out for those that it strikes, open for the others."""
    hit = struck_by_any(web, some)
    words = []
    for name in web.all_names():
        if name in some:
            words.append((name, "in"))
        elif name in hit:
            words.append((name, "out"))
        else:
            words.append((name, "open"))
    return words


def is_telling(web, words):
    """Whether these are words, and each name's agrees with those of its strikers."""
    if not are_words(web, words):
        return False
    given = {name: word for name, word in words}
    return all([agrees(web, given, name) for name in web.all_names()])


def are_words(web, words):
    """Whether these are pairs (name, word), one for each name of the web, rising."""
    names = web.all_names()
    if len(words) != len(names):
        return False
    return all([pair in [(name, word) for word in WORDS] for name, pair in zip(names, words)])


def agrees(web, given, name):
    """Whether the name is in just where all its strikers are out, and out just where one of them is in."""
    against = [given[striker] for striker in web.strikers(name)]
    all_out = all([word == "out" for word in against])
    one_in = "in" in against
    return (given[name] == "in") == all_out and (given[name] == "out") == one_in
