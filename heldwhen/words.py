"""The four words that blend two truths."""

from heldwhen.errors import NoWord


def truth_by(word, one, other):
    if word == "both":
        return one and other
    if word == "either":
        return one or other
    if word == "less":
        return one and not other
    if word == "just":
        return one != other
    raise NoWord(f"no word that blends two truths: {word!r}")
