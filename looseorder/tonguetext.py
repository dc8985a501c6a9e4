"""Tongues as texts: written, and read back."""

from looseorder.errors import BadText
from looseorder.frames import Frame
from looseorder.names import NAME_MOST, are_letters, is_name
from looseorder.stocks import Stock
from looseorder.tongues import Tongue

# Which kinds of rows may stand behind a row of each kind; the first row stands behind none.
NEXT_ROWS = {
    "": ("roles",),
    "roles": ("stock",),
    "stock": ("stock", "frame"),
    "frame": ("frame", "rule", "verbs"),
    "rule": ("rule", "verbs"),
    "verbs": (),
}


def ending_text(ending):
    """The text of an ending: "-" and the part, for each part."""
    return "".join([f"-{part}" for part in ending])


def ending_from_text(text):
    """The parts that an ending's text tells, of any count and length; None if it tells none."""
    if not text.startswith("-"):
        return None
    parts = text[1:].split("-")
    return tuple(parts) if are_letters("".join(parts)) else None


def tongue_text(tongue):
    """The text of a tongue, row by row."""
    rows = [["roles", *tongue.roles]]
    rows += [_stock_words(tongue.roles, stock) for stock in tongue.stocks]
    rows += [_frame_words(tongue.roles, frame) for frame in tongue.frames]
    rows += [["rule", tongue.roles[ahead], tongue.roles[behind]] for ahead, behind in tongue.rules]
    rows.append(["verbs", tongue.verbs])
    return "\n".join([" ".join(row) for row in rows])


def _stock_words(names, stock):
    cells = [f"{names[role]}:{ending_text(one)}/{ending_text(many)}" for role, one, many in stock.table]
    return ["stock", stock.name, *cells]


def _frame_words(names, frame):
    words = ["frame", frame.name]
    for role in frame.nouns:
        words.append(names[role] + "!" if role == frame.agreed else names[role])
    if frame.clause is not None:
        words.append(f"[{names[frame.clause]}]")
    return words


def tongue_from(text):
    """The tongue that a text tells."""
    if not isinstance(text, str):
        raise BadText(0, "text")
    names, told = _told_rows([row.split(" ") for row in text.split("\n")])
    stocks = [Stock(row[1], row[2]) for row in told if row[0] == "stock"]
    frames = [Frame(row[1], row[2], row[3], row[4]) for row in told if row[0] == "frame"]
    rules = [row[1:] for row in told if row[0] == "rule"]
    return Tongue(names, stocks, frames, rules, told[-1][1])


def _told_rows(rows):
    # The names of the roles and, for each further row, its kind and what it tells.
    before = ""
    names = []
    told = []
    for place, words in enumerate(rows):
        row = _told_row(names, words) if words[0] in NEXT_ROWS[before] else None
        if row is None:
            raise BadText(place, "row")
        before = words[0]
        if before == "roles":
            names = row[1:]
        else:
            told.append(row)
    if before != "verbs":
        raise BadText(len(rows), "row")
    return names, told


def _told_row(names, words):
    if words[0] == "roles":
        return _told_names(words)
    if words[0] == "stock":
        return _told_stock(names, words)
    if words[0] == "frame":
        return _told_frame(names, words)
    if words[0] == "rule":
        return _told_rule(names, words)
    return words if len(words) == 2 and is_name(words[1], NAME_MOST) else None


def _told_names(words):
    if len(words) == 1 or not all([is_name(name, NAME_MOST) for name in words[1:]]):
        return None
    return words


def _told_stock(names, words):
    if len(words) < 3 or not is_name(words[1], NAME_MOST):
        return None
    cells = [_told_cell(names, word) for word in words[2:]]
    return None if None in cells else ("stock", words[1], cells)


def _told_cell(names, word):
    name, _, endings = word.partition(":")
    one, _, many = endings.partition("/")
    cell = (_role_named(names, name), ending_from_text(one), ending_from_text(many))
    return None if None in cell else cell


def _role_named(names, name):
    return names.index(name) if name in names else None


def _told_frame(names, words):
    if len(words) < 3 or not is_name(words[1], NAME_MOST):
        return None
    nouns = words[2:]
    clause = None
    if nouns[-1].startswith("[") and nouns[-1].endswith("]"):
        clause = _role_named(names, nouns.pop()[1:-1])
        if clause is None:
            return None
    roles = [_role_named(names, word.removesuffix("!")) for word in nouns]
    agreed = [role for role, word in zip(roles, nouns) if word.endswith("!")]
    if len(roles) == 0 or None in roles or len(agreed) > 1:
        return None
    return "frame", words[1], roles, clause, (agreed[0] if len(agreed) == 1 else None)


def _told_rule(names, words):
    if len(words) != 3 or words[1] not in names or words[2] not in names:
        return None
    return "rule", names.index(words[1]), names.index(words[2])
