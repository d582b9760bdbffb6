"""What is made of tables: picked and twin rows, kept columns, joined, matched and lifted tables."""

from heldwhen.errors import NoWord
from heldwhen.lifts import lift
from heldwhen.plots import NO_SPOTS, blend_plots
from heldwhen.tables import table_of
from heldwhen.words import truth_by


def is_picked(here, word, number):
    if word == "is":
        return here == number
    if word == "under":
        return here < number
    if word == "over":
        return here > number
    raise NoWord(f"no word that picks rows: {word!r}")


def pick_rows(table, column, word, number):
    # Asked once ahead, so that a wrong word is refused where there are no rows, too.
    is_picked(number, word, number)
    return [entry for entry in table if is_picked(entry[0][column], word, number)]


def twin_rows(table, column, other):
    return [entry for entry in table if entry[0][column] == entry[0][other]]


def numbers_in(row, columns):
    return tuple([row[column] for column in columns])


def columns_of(table, wanted):
    return table_of([(numbers_in(row, wanted), plot) for row, plot in table])


def join_tables(one, other, word):
    # As in pick_rows: refused where there are no rows, too.
    truth_by(word, False, False)
    in_one = dict(one)
    in_other = dict(other)
    pairs = []
    for row in sorted(set(in_one) | set(in_other)):
        plot = blend_plots(in_one.get(row, NO_SPOTS), in_other.get(row, NO_SPOTS), word)
        pairs.append((row, plot))
    return table_of(pairs)


def match_tables(one, other, pairs):
    one_columns = [pair[0] for pair in pairs]
    other_columns = [pair[1] for pair in pairs]
    partners = {}
    for entry in other:
        partners.setdefault(numbers_in(entry[0], other_columns), []).append(entry)
    found = []
    for row, plot in one:
        for partner, partner_plot in partners.get(numbers_in(row, one_columns), []):
            found.append((row + partner, blend_plots(plot, partner_plot, "both")))
    return table_of(found)


def lift_table(table, word, by):
    # As in pick_rows: refused where there are no rows, too.
    lift(NO_SPOTS, word, by)
    return table_of([(row, lift(plot, word, by)) for row, plot in table])
