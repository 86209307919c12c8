"""Things as texts: each length in figures, `/` between lengths, one blank between things."""

from benchpair.errors import BadText, BadThings
from benchpair.things import check_things

FIGURES = "0123456789"
NOTHING = "-"


def is_short(length):
    """Tell whether the length has at most sixty figures."""
    # Compared, not counted in a text: Python writes out no number of more than 4300 figures.
    return length < 10 ** 60


def check_short(things):
    """Refuse things with lengths of more than sixty figures."""
    for count, thing in enumerate(things):
        if not all([is_short(part) for part in thing]):
            raise BadThings(f"thing {count} has a length of more than sixty figures")


def written(things):
    """Tell the things as a text."""
    check_things(things)
    check_short(things)
    if not things:
        return NOTHING
    return " ".join(["/".join([str(part) for part in thing]) for thing in things])


def is_written_length(part):
    """Tell whether the text is one length as it is written."""
    if not 1 <= len(part) <= 60:
        return False
    if not all([sign in FIGURES for sign in part]):
        return False
    return part == "0" or part[0] != "0"


def read_thing(word):
    """Tell the thing that is written so."""
    parts = word.split("/")
    if len(parts) != 3 or not all([is_written_length(part) for part in parts]):
        raise BadText("a thing is three lengths of at most sixty figures, with / between")
    return tuple([int(part) for part in parts])


def read(text):
    """Tell the things that are written so."""
    if not isinstance(text, str):
        raise BadText("what is read is a text")
    if text == NOTHING:
        return []
    return [read_thing(word) for word in text.split(" ")]
