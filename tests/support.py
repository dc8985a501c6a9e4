"""What several tests share: tongues to speak of, and plain walks through all that can be said."""

from itertools import combinations, permutations, product
from random import Random

from looseorder.frames import Frame
from looseorder.heard import depths_of, heard_of
from looseorder.sayings import Saying
from looseorder.speaking import pattern_of
from looseorder.stocks import Stock
from looseorder.tongues import Tongue

NUMBERS = ("one", "many")


class Sayable:
    """Equal to nothing; stands for a thing of another class."""


STRANGE = (None, True, False, 1.0, "", "x", b"x", {}, {0: 1}, object(), Sayable, range(2), frozenset())


def refuses(test, error, told, call, *args, **more):
    """The call raises just this error with just these attributes."""
    with test.assertRaises(error) as caught:
        call(*args, **more)
    test.assertIs(type(caught.exception), error)
    for name, value in told.items():
        found = getattr(caught.exception, name)
        test.assertEqual((type(found), found), (type(value), value), name)


def are_tuples(thing):
    """No list stands in the thing, however deep."""
    if isinstance(thing, tuple):
        return all(are_tuples(entry) for entry in thing)
    return not isinstance(thing, (list, dict, set))


def two_roles(rules=(), verbs="last"):
    """Two roles shown alike in "one" by one stock; a frame with both and one with the first alone."""
    noun = Stock("noun", [(0, ("a",), ("s",)), (1, ("a",), ("t",))])
    return Tongue(["who", "whom"], [noun], [Frame("see", [0, 1]), Frame("go", [0])], rules, verbs)


def nesting(verbs="last", agreed=None, rules=()):
    """Noun roles 0 and 1, clause role 2 and far role 3; two stocks that do not bear all of them."""
    noun = Stock("noun", [(0, ("a",), ("a", "s")), (1, ("a",), ("b",)), (3, ("",), ("x", "y"))])
    thing = Stock("thing", [(1, ("a",), ("b",)), (3, ("b",), ("b",))])
    frames = [Frame("say", [0, 1], 2, agreed), Frame("give", [0, 1, 3]), Frame("go", [0], None, 0),
              Frame("hear", [1], 2)]
    return Tongue(["who", "whom", "what", "far"], [noun, thing], frames, rules, verbs)


def great():
    """Six roles, five of them noun roles of one frame with a clause role, and four stocks and frames."""
    stocks = [Stock("n", [(role, ("a",), ("b",)) for role in range(6)]),
              Stock("m", [(0, ("a",), ("a",)), (5, ("c",), ("d",))]),
              Stock("o", [(2, ("",), ("",))]),
              Stock("p", [(1, ("a", "b"), ("a",)), (3, ("zzz",), ("",))])]
    frames = [Frame("f", [0, 1, 2, 3, 4], 5, 2), Frame("g", [0]), Frame("h", [0, 5]), Frame("i", [4, 5], 0)]
    names = ["aaaaaaaa", "b", "c", "d", "e", "zzzzzzzz"]
    return Tongue(names, stocks, frames, [(0, 3), (3, 5)], "free")


def some_tongues(count, seed, most_roles=4, verbs=None):
    """Tongues of many kinds, the same ones in each run."""
    source = Random(seed)
    found = []
    while len(found) < count:
        many = source.randint(1, most_roles)
        kind = verbs or source.choice(("first", "last", "free"))
        found.append(_some_tongue(source, many, kind))
    return found


def _some_tongue(source, many, verbs):
    roles = list(range(many))
    parts = [("a",), ("b",), ("a", "b"), ("",)]
    stocks = []
    for name in "nm"[:source.randint(1, 2)]:
        bears = roles if name == "n" else sorted(source.sample(roles, source.randint(1, many)))
        stocks.append(Stock(name, [(r, source.choice(parts), source.choice(parts)) for r in bears]))
    frames = []
    for name in "fgh"[:source.randint(1, 3)]:
        slots = sorted(source.sample(roles, source.randint(1, min(many, 4))))
        clause = None
        if name != "f" and len(slots) > 1:
            clause = slots.pop(source.randrange(len(slots)))
        frames.append(Frame(name, slots, clause, source.choice([None, source.choice(slots)])))
    source.shuffle(frames)
    row = source.sample(roles, many)
    rules = [(row[i], row[j]) for i in range(many) for j in range(i + 1, many) if source.random() < 0.25]
    return Tongue(["r" + chr(97 + r) for r in roles], stocks, frames, rules, verbs)


def walk_closure(rules):
    """The closure, by joining couples until nothing new comes."""
    found = set(tuple(rule) for rule in rules)
    while True:
        more = {(a, d) for a, b in found for c, d in found if b == c} - found
        if not more:
            return tuple(sorted(found))
        found |= more


def keeps(closure, row):
    """No role stands behind one that it is ahead of; None is the verb."""
    return not any((row[j], row[i]) in closure for j in range(len(row)) for i in range(j))


def walk_orders(tongue, frame):
    """All orders of a frame, ascending."""
    closure = walk_closure(tongue.rules)
    return [row for row in permutations(tongue.frames[frame].slots) if keeps(closure, row)]


def table_of(tongue, stock):
    """The endings of a stock by role and number."""
    return {(row[0], number): row[1 + at] for row in tongue.stocks[stock].table
            for at, number in enumerate(NUMBERS)}


def walk_patterns(tongue, frame):
    """All patterns of a frame, by rows of roles, of stocks, of numbers."""
    told = tongue.frames[frame]
    found = []
    for row in walk_orders(tongue, frame):
        bearing = [[None] if role == told.clause else
                   [s for s in range(len(tongue.stocks)) if (role, "one") in table_of(tongue, s)]
                   for role in row]
        numbers = [[None] if role == told.clause else list(NUMBERS) for role in row]
        for stocks in product(*bearing):
            for told_numbers in product(*numbers):
                found.append(tuple(zip(row, stocks, told_numbers)))
    return found


def walk_shown(tongue, frame, pattern):
    """The things and the heard number of a pattern."""
    told = tongue.frames[frame]
    things = tuple(None if stock is None else (stock, table_of(tongue, stock)[role, number])
                   for role, stock, number in pattern)
    heard = [number for role, _, number in pattern if told.agreed is not None and role == told.agreed]
    return things, (heard[0] if heard else None)


def fits(things, shown):
    """Whether things, some with swallowed endings, can be what is shown."""
    for thing, full in zip(things, shown):
        if (thing is None) != (full is None):
            return False
        if thing is not None and (thing[0] != full[0] or thing[1] not in (None, full[1])):
            return False
    return True


def walk_readings(tongue, frame, things, number):
    """All readings, by their rows of roles and then of numbers, from all patterns."""
    found = []
    for pattern in walk_patterns(tongue, frame):
        if [entry[1] for entry in pattern] == [thing and thing[0] for thing in things]:
            shown, heard = walk_shown(tongue, frame, pattern)
            if heard == number and fits(things, shown):
                found.append(pattern)
    return sorted(found, key=lambda pattern: ([entry[0] for entry in pattern],
                                              [NUMBERS.index(entry[2] or "one") for entry in pattern]))


def heard_things(tongues, most=12):
    """Things and heard numbers of some patterns, with all lots of up to two endings swallowed."""
    for tongue in tongues:
        for frame in range(len(tongue.frames)):
            patterns = walk_patterns(tongue, frame)
            for pattern in patterns[::max(1, len(patterns) // most)]:
                things, number = walk_shown(tongue, frame, pattern)
                nouns = [place for place, thing in enumerate(things) if thing is not None]
                for size in (0, 1, 2, len(nouns)):
                    for places in combinations(nouns, size):
                        hidden = [(t[0], None) if at in places else t for at, t in enumerate(things)]
                        yield tongue, frame, tuple(hidden), number


def one_frame(table, rules=(), agreed=None):
    """One stock with this table, and one frame with all its roles as noun roles."""
    roles = [row[0] for row in table]
    return Tongue(["r" + chr(97 + role) for role in roles], [Stock("noun", table)],
                  [Frame("see", roles, None, agreed)], rules)


def all_alike(many, rules=(), agreed=None):
    """One frame of so many noun roles, all of them shown by one ending."""
    return one_frame([(role, ("a",), ("a",)) for role in range(many)], rules, agreed)


def words(text, size):
    """A table of so many roles from letters: "aa ab" shows role 0 by a, a and role 1 by a, b."""
    return [(role, (row[0],), (row[1],)) for role, row in enumerate(text.split()[:size])]


def four_stocks(rules=(), agreed=0):
    """Four stocks that bear some of four roles each, and four frames of one to three slots."""
    stocks = [Stock("n", words("ab ab cd ef", 4)), Stock("m", [(1, ("a",), ("b",)), (2, ("b",), ("b",))]),
              Stock("o", [(0, ("",), ("x",)), (3, ("x",), ("",))]), Stock("p", [(2, ("a", "b"), ("a",))])]
    frames = [Frame("f", [0, 1, 2], None, agreed), Frame("g", [2, 3]), Frame("h", [3]), Frame("i", [1, 2], 0, 1)]
    return Tongue(["w", "x", "y", "z"], stocks, frames, rules)


def walk_alike(tongue, frame):
    """The lots of patterns that are heard alike."""
    lots = {}
    for pattern in walk_patterns(tongue, frame):
        lots.setdefault(walk_shown(tongue, frame, pattern), []).append(pattern)
    return list(lots.values())


def roles_in(pattern):
    return tuple(entry[0] for entry in pattern)


def walk_is_clear(tongue, frame):
    """No two patterns that are heard alike have unlike roles."""
    return all(len({roles_in(pattern) for pattern in lot}) == 1 for lot in walk_alike(tongue, frame))


def walk_rings(tongue, frame):
    """The steps of all rings: any two patterns that are heard alike with unlike roles, place by place."""
    found = set()
    for lot in walk_alike(tongue, frame):
        for said, read in product(lot, repeat=2):
            if roles_in(said) != roles_in(read):
                found.add(tuple(sorted((a[0], b[0], a[1], a[2], b[2]) for a, b in zip(said, read)
                                       if a[1] is not None)))
    return sorted(found)


VERB = ("verb",)


def tiny(verbs, agreed=None, rules=()):
    """A noun role and a clause role; the noun's endings are alike for the two noun roles."""
    noun = Stock("n", [(0, ("a",), ("b",)), (2, ("a",), ("c",))])
    frames = [Frame("say", (0,), 1, agreed), Frame("go", (0,)), Frame("see", (0, 2), None, 2)]
    return Tongue(["who", "what", "whom"], [noun], frames, rules, verbs)


def walk_sayings(tongue, most):
    """All sayings of at most so many pieces; the stem of a noun is told by its stock."""
    if most < 2:
        return []
    found = []
    for frame, told in enumerate(tongue.frames):
        if len(told.slots) + 1 > most + (told.clause is not None):
            continue
        inner = [None] if told.clause is None else walk_sayings(tongue, most - len(told.nouns) - 1)
        for pattern in walk_patterns(tongue, frame):
            for within in inner:
                found += walk_verbs(tongue, frame, pattern, within)
    return found


def walk_verbs(tongue, frame, pattern, within):
    items = [("clause", role, within) if stock is None else ("noun", "nm"[stock], stock, role, number)
             for role, stock, number in pattern]
    places = {"first": [0], "last": [len(items)], "free": range(len(items) + 1)}[tongue.verbs]
    return [Saying(tongue, frame, [*items[:place], VERB, *items[place:]]) for place in places]


def place_in_order(saying):
    """Where a reading stands: by its shape, then clause by clause by roles and numbers."""
    clauses = []
    inner = saying
    while inner is not None:
        pattern = pattern_of(inner)
        clauses.append(([entry[0] for entry in pattern], [NUMBERS.index(entry[2] or "one") for entry in pattern]))
        inner = inner.inner
    return depths_of(saying), clauses


def grouped(tongue, most):
    """The sayings that are heard as each heard row, in the order of readings."""
    rows = {}
    for saying in walk_sayings(tongue, most):
        rows.setdefault(heard_of(saying), []).append(saying)
    return {heard: sorted(sayings, key=place_in_order) for heard, sayings in rows.items()}


def matching(rows, heard):
    """All sayings of which a heard row, with endings swallowed, is heard."""
    found = []
    for full, sayings in rows.items():
        if len(full) == len(heard) and all(
                piece == other or (piece[0] == "noun" and piece[:3] == other[:3] and piece[3] is None)
                for piece, other in zip(heard, full)):
            found += sayings
    return sorted(found, key=place_in_order)


def some_pairs(count, seed, most_roles=3):
    """Couples of tongues with unlike tables and rules, the same ones in each run; some are equal."""
    source = Random(seed)
    found = []
    for tongue in some_tongues(count, seed, most_roles):
        parts = [("a",), ("b",), ("a", "b"), ("",)]
        stocks = []
        for stock in tongue.stocks:
            kept = [row for row in stock.table if len(stock.table) == 1 or stock.name == "n" or source.random() < 0.8]
            rows = [(role, *[source.choice(parts) if source.random() < 0.4 else ending for ending in endings])
                    for role, *endings in kept or stock.table]
            stocks.append(Stock(stock.name, rows))
        row = source.sample(range(len(tongue.roles)), len(tongue.roles))
        rules = [(a, b) for at, a in enumerate(row) for b in row[at + 1:] if source.random() < 0.3]
        kind = source.randrange(5)
        other = Tongue(tongue.roles, tongue.stocks if kind == 0 else stocks, tongue.frames,
                       tongue.rules if kind in (1, 2) else rules, tongue.verbs)
        found.append((tongue, tongue if kind == 4 else other))
    return found


def rank_by(habit, row):
    """Rows with lesser ranks are ahead by the habit."""
    return [habit.index(role) for role in row]


def numbers_in(pattern):
    return [NUMBERS.index(entry[2] or "one") for entry in pattern]


def walk_taken(tongue, habit, frame, things, number):
    """All readings, in the order in which a hearer with the habit would take them."""
    found = walk_readings(tongue, frame, things, number)
    return sorted(found, key=lambda pattern: (rank_by(habit, roles_in(pattern)), numbers_in(pattern)))


def steps_from(said, read):
    """A row (role, goal, stock, number, mate) for each noun, ascending, from two patterns heard alike."""
    return tuple(sorted((a[0], b[0], a[1], a[2], b[2]) for a, b in zip(said, read) if a[1] is not None))


def step_ranks(agreed, steps):
    """The agreed number and the cells of the steps, for the first of several."""
    kept = [NUMBERS.index(step[3]) for step in steps if step[0] == agreed]
    return kept, [(step[2], NUMBERS.index(step[3]), NUMBERS.index(step[4])) for step in steps]
