"""Sayings as texts: written, and read back."""

from looseorder.errors import BadText
from looseorder.names import is_stem
from looseorder.sayings import Saying


def place_of_name(rows, name):
    """The number of the stock or frame with this name, or None."""
    for number, row in enumerate(rows):
        if row.name == name:
            return number
    return None


def saying_text(saying):
    """The text of a saying, clauses in brackets."""
    return " ".join(_words_of(saying))


def _words_of(saying):
    tongue = saying.tongue
    words = []
    for item in saying.said:
        if item[0] == "noun":
            _, stem, stock, role, number = item
            behind = ".many" if number == "many" else ""
            words.append(f"{stem}:{tongue.stocks[stock].name}:{tongue.roles[role]}{behind}")
        elif item[0] == "clause":
            words += ["[", *_words_of(item[2]), "]"]
        else:
            words.append(tongue.frames[saying.frame].name)
    return words


def saying_from(tongue, text):
    """The saying of the tongue that a text tells."""
    if not isinstance(text, str):
        raise BadText(0, "text")
    told = []
    for place, word in enumerate(text.split(" ")):
        entry = _told_word(tongue, word)
        if entry is None:
            raise BadText(place, "word")
        told.append(entry)
    _check_brackets(told)
    _check_verbs(told)
    return _made(tongue, told)


def _told_word(tongue, word):
    # A bracket, ("verb", frame) or the item of a noun; None for any other word.
    if word in ("[", "]"):
        return (word,)
    frame = place_of_name(tongue.frames, word)
    return _told_noun(tongue, word) if frame is None else ("verb", frame)


def _told_noun(tongue, word):
    parts = word.split(":")
    if len(parts) != 3 or not is_stem(parts[0]):
        return None
    stock = place_of_name(tongue.stocks, parts[1])
    name = parts[2].removesuffix(".many")
    if stock is None or name not in tongue.roles:
        return None
    number = "many" if parts[2].endswith(".many") else "one"
    return ("noun", parts[0], stock, tongue.roles.index(name), number)


def _check_brackets(told):
    begun = 0
    for place, entry in enumerate(told):
        if entry[0] == "[":
            begun += 1
        elif entry[0] == "]":
            begun -= 1
        if begun < 0:
            raise BadText(place, "bracket")
    if begun > 0:
        raise BadText(len(told), "bracket")


def _check_verbs(told):
    verbs = [0]
    for place, entry in enumerate(told):
        if entry[0] == "[":
            verbs.append(0)
        elif entry[0] == "verb":
            verbs[-1] += 1
        elif entry[0] == "]" and verbs.pop() != 1:
            raise BadText(place, "verb")
    if verbs[0] != 1:
        raise BadText(len(told), "verb")


def _made(tongue, told):
    # The clauses that are begun and not yet ended, the outermost first.
    begun = [[]]
    for entry in told:
        if entry[0] == "[":
            begun.append([])
        elif entry[0] == "]":
            saying = _made_clause(tongue, begun.pop())
            begun[-1].append(("clause", saying))
        else:
            begun[-1].append(entry)
    return _made_clause(tongue, begun[0])


def _made_clause(tongue, entries):
    frame = [entry[1] for entry in entries if entry[0] == "verb"][0]
    items = []
    for entry in entries:
        if entry[0] == "verb":
            items.append(("verb",))
        elif entry[0] == "clause":
            items.append(("clause", tongue.frames[frame].clause, entry[1]))
        else:
            items.append(entry)
    return Saying(tongue, frame, items)
