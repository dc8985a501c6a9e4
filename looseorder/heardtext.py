"""Heard rows as texts: written, and read back."""

from looseorder.errors import BadText
from looseorder.names import is_number, is_stem
from looseorder.sayingtext import place_of_name
from looseorder.tonguetext import ending_from_text, ending_text


def heard_text(tongue, heard):
    """The text of a heard row."""
    return " ".join([_piece_word(tongue, piece) for piece in heard])


def _piece_word(tongue, piece):
    if piece[0] == "noun":
        _, stem, stock, ending = piece
        shown = "?" if ending is None else ending_text(ending)
        return f"{stem}:{tongue.stocks[stock].name}:{shown}"
    _, frame, number = piece
    name = tongue.frames[frame].name
    return name if number is None else f"{name}.{number}"


def heard_from(tongue, text):
    """The heard row that a text tells."""
    if not isinstance(text, str):
        raise BadText(0, "text")
    heard = []
    for place, word in enumerate(text.split(" ")):
        piece = _told_noun(tongue, word) if ":" in word else _told_verb(tongue, word)
        if piece is None:
            raise BadText(place, "word")
        heard.append(piece)
    return tuple(heard)


def _told_noun(tongue, word):
    parts = word.split(":")
    if len(parts) != 3 or not is_stem(parts[0]):
        return None
    stock = place_of_name(tongue.stocks, parts[1])
    ending = ending_from_text(parts[2])
    if stock is None or (ending is None and parts[2] != "?"):
        return None
    return ("noun", parts[0], stock, ending)


def _told_verb(tongue, word):
    name, dot, number = word.partition(".")
    frame = place_of_name(tongue.frames, name)
    if frame is None:
        return None
    if dot == "":
        return ("verb", frame, None)
    return ("verb", frame, number) if is_number(number) else None
