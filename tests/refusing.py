"""Asks that wrong arguments are refused, each by itself and the first of several."""

import inspect
import itertools

from tests.helper import refused


class Unasked:
    """A value that may neither be compared nor measured."""

    __hash__ = None

    def __eq__(self, other):
        raise RuntimeError("was compared")

    def __lt__(self, other):
        raise RuntimeError("was compared")

    def __len__(self):
        raise RuntimeError("was measured")

    def __bool__(self):
        raise RuntimeError("was asked")


UNASKED = Unasked()
# What is neither a whole number, nor a tuple, nor None.
ODD = (True, False, "", "0", "text", [], [0], {}, b"0", UNASKED)


def given_wrongs(error, *values):
    """The wrongs of an argument of which the error keeps what was given."""
    return [(value, error, {"given": value}) for value in values]


def index_wrongs(error, *pairs):
    """The wrongs of an argument of which the error keeps an index: pairs of a value and this."""
    return [(value, error, {"index": index}) for value, index in pairs]


def asked_in_order(test, call, right, wrongs):
    """Asks that a call with the names of `right`, in order, refuses each of the wrongs, and the first of several."""
    names = list(right)
    told = inspect.signature(call).parameters.values()
    test.assertEqual([one.name for one in told], names, call)
    for one in told:
        test.assertIs(one.kind, inspect.Parameter.POSITIONAL_OR_KEYWORD)
        test.assertIs(one.default, inspect.Parameter.empty)
    by_position = call(*right.values())
    backwards = {name: right[name] for name in reversed(names)}
    test.assertEqual(by_position, call(**backwards))
    for name, cases in wrongs.items():
        for value, error, kept in cases:
            refused_both_ways(test, call, {**right, name: value}, error, kept)
    for many in range(2, len(wrongs) + 1):
        for chosen in itertools.combinations([name for name in names if name in wrongs], many):
            given = {**right, **{name: wrongs[name][-1][0] for name in chosen}}
            _, error, kept = wrongs[chosen[0]][-1]
            refused_both_ways(test, call, given, error, kept)


def refused_both_ways(test, call, given, error, kept):
    """Asks that a call refuses what is given by position, and by name in another order."""
    for named in (False, True):
        with test.assertRaises(error) as caught:
            if named:
                call(**{name: given[name] for name in reversed(list(given))})
            else:
                call(*given.values())
        test.assertIs(type(caught.exception), error)
        found = vars(caught.exception)
        test.assertEqual(list(found), list(kept))
        for key, value in kept.items():
            if found[key] is not value:
                test.assertIs(type(found[key]), type(value))
                test.assertEqual(found[key], value)


__all__ = ["ODD", "UNASKED", "asked_in_order", "given_wrongs", "index_wrongs", "refused"]
