"""Tables as texts."""

from mistakesigns.errors import NoText
from mistakesigns.tables import is_table

FIGURES = "0123456789"


def written(table):
    """A table as a text."""
    many, pairs = table
    return f"{many}:" + ",".join([f"{one}{other}" for one, other in pairs])


def figure(text):
    """The number that a text of one figure tells; None of other texts."""
    if len(text) != 1 or text not in FIGURES:
        return None
    return FIGURES.index(text)


def read(text):
    """The table that a text tells; NoText of all texts that are no table's."""
    front, colon, rest = text.partition(":")
    parts = rest.split(",") if rest else []
    # What is no figure becomes None, so that is_table refuses it with all else that is wrong.
    table = (figure(front), tuple([tuple([figure(sign) for sign in part]) for part in parts]))
    if not colon or not is_table(table):
        raise NoText("the text is no table's")
    return table
