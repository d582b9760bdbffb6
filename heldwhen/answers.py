"""Answers: what an ask makes of tables, for all days and all turns at once."""

from heldwhen.algebra import columns_of, join_tables, lift_table, match_tables, pick_rows, twin_rows
from heldwhen.asks import parts_of
from heldwhen.groups import count_rows, sum_rows


def made_of(ask, parts):
    """What an ask that is no table's name makes of its parts' answers."""
    word = ask[0]
    if word == "pick":
        return pick_rows(parts[0], ask[2], ask[3], ask[4])
    if word == "twins":
        return twin_rows(parts[0], ask[2], ask[3])
    if word == "columns":
        return columns_of(parts[0], ask[2])
    if word == "joined":
        return join_tables(parts[0], parts[1], ask[3])
    if word == "matched":
        return match_tables(parts[0], parts[1], ask[3])
    if word == "counted":
        return count_rows(parts[0], ask[2])
    if word == "summed":
        return sum_rows(parts[0], ask[2], ask[3])
    return lift_table(parts[0], ask[2], ask[3])


def answer_of(tables, ask):
    if ask[0] == "table":
        return list(tables[ask[1]])
    return made_of(ask, [answer_of(tables, part) for part in parts_of(ask)])
