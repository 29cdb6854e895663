"""A book by which numbers are added and taken times, and the numbers of values."""

COUNTING = """kind add 0 1
kind dup 0 0
kind era
kind mul 0 1
kind succ 0
kind zero
rule add succ succ add
tie l1 1:1
tie l2 0:0
tie r1 1:0
tie 0:1 1:2
rule add zero
tie l1 l2
rule dup succ succ succ dup
tie l1 0:0
tie l2 1:0
tie r1 2:0
tie 0:1 2:1
tie 1:1 2:2
rule dup zero zero zero
tie l1 0:0
tie l2 1:0
rule era succ era
tie r1 0:0
rule era zero
rule mul succ dup mul add
tie l1 0:0
tie l2 2:2
tie r1 1:0
tie 0:1 1:1
tie 0:2 2:0
tie 1:2 2:1
rule mul zero era zero
tie l1 0:0
tie l2 1:0
"""


def number_text(value):
    """The number that a value is, so many `succ` round `zero`; -1 for another text."""
    if not isinstance(value, str):
        return -1
    many = value.count("(")
    return many if value == "succ(" * many + "zero" + ")" * many else -1
