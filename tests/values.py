"""Values of many kinds, for the places in which anything may stand."""

from pileworn.rules import Rule


def of_all_kinds():
    """Values of every kind, strings that tell nothing here included."""
    return [
        None, True, False, 0, 1, -1, 7, 10 ** 39, "", "x", "1", "\n", b"", b"rest", (), (1, "rest"), ("rest",),
        [], ["rest"], [1, (2, [3])], {}, {"rest": 1}, set(), {1, 2}, Rule("plates 2 away 0", "rest"),
        Rule, len, object(), ValueError("rest"), (((((((((1,),),),),),),),),),
    ]
