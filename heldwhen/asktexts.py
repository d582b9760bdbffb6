"""Asks as texts: an ask's word, then its parts and numbers in their order, a part by its own words."""

from heldwhen.asks import form_of, formed
from heldwhen.errors import NoText
from heldwhen.texts import Reader, write_counted, write_number, write_numbers

DEEPEST = 20


def write_thing(kind, thing):
    """The words of a thing in an ask."""
    if kind == "ask":
        return ask_words(thing)
    if kind == "column" or kind == "number":
        return [write_number(thing)]
    if kind == "columns":
        return write_counted(thing)
    if kind == "pairs":
        return write_pairs(thing)
    return [thing]


def write_pairs(pairs):
    words = [write_number(len(pairs))]
    for pair in pairs:
        words.extend(write_numbers(pair))
    return words


def ask_words(ask):
    words = [ask[0]]
    for kind, thing in formed(ask):
        words.extend(write_thing(kind, thing))
    return words


def write_ask(ask):
    return " ".join(ask_words(ask))


def read_thing(reader, kind, deep):
    if kind == "ask":
        return read_part(reader, deep + 1)
    if kind == "column" or kind == "number":
        return reader.number()
    if kind == "columns":
        return reader.numbers()
    if kind == "pairs":
        return tuple([(reader.number(), reader.number()) for place in range(reader.many())])
    return reader.letters()


def read_part(reader, deep):
    # Refused on the way down, so that no text leads deeper than that.
    if deep > DEEPEST:
        raise NoText("an ask that is too deep")
    word = reader.word()
    form = form_of(word)
    if form is None:
        raise NoText(f"no ask begins with {word!r}")
    return tuple([word] + [read_thing(reader, kind, deep) for kind in form])


def read_ask(text):
    reader = Reader(text)
    ask = read_part(reader, 1)
    reader.finish()
    return ask
