"""Values and checks that several tests use."""

import copy
import random

R = (('ann', 5, (3, 0), 9), ('bob', 1, (1, 2), 4), ('cat', 2, (2, 1), 9))
E = (('a', 3, (1, 2), 1), ('b', 4, (2, 3), 1), ('c', 2, (1, 3), 1), ('d', 1, (1, 3), 1), ('e', 1, (3, 3), 1))
T = (('a', 'b'), (('a',), ('b',), ('b',)))
S = (('a', 2, (1,), 9), ('b', 1, (2,), 5), ('c', 3, (3,), 9))
Q = ('top', ((0, 'asc'),), 1)

LETTERS = 'abcdefghijklmnopqrstuvwxyz'


def name_of(number):
    """Return a name; greater numbers have greater names."""
    return LETTERS[number // 26] + LETTERS[number % 26]


def rows_of_width(count, width):
    """Return a tuple of so many rows in ascending order."""
    return tuple((name_of(number), number + 1, (number,) * width, 1) for number in range(count))


SIXTY = rows_of_width(60, 2)
SIXTY_ONE = rows_of_width(61, 2)


def nested(wrap, depth):
    value = 1
    for _ in range(depth):
        value = wrap(value)
    return value


FIFTY_DIGITS = 10 ** 50 - 1

# Values that are neither a row, a rowset, an order, a condition nor anything else of the document,
# but for (), which is a rowset, an order, a tuple of names, a cut and a flow.
ODD_VALUES = (
    None, True, False, 0, 1, -1, FIFTY_DIGITS, -FIFTY_DIGITS, '', 'ann ', 'Ann', 'asc', (), (1,), (None, None),
    ((),), ((1, 2), 3), [], [1, 'a'], ['a'], {}, {'a': 1}, {1: ()}, (True, False), ('not',), ('and', []),
    nested(lambda part: (part,), 20), nested(lambda part: [part], 20), nested(lambda part: {'a': part}, 20),
    nested(lambda part: ('not', part), 20), nested(lambda part: ('and', (part, part)), 6),
    nested(lambda part: (part, part), 6),
)

NOT_INTEGERS = (None, True, False, '1', '', (), (1,), [1], {1: 1})


def numbers_outside(low, high):
    """Return values that are not integers from low to high."""
    return (low - 1, high + 1, -FIFTY_DIGITS, FIFTY_DIGITS) + NOT_INTEGERS


NOT_ROWSETS = (
    None, 1, True, 'a', [], list(R), {}, R[0], (R[1], R[0]), (R[0], R[0]), (list(R[0]),), SIXTY_ONE,
    (R[0], ('bob', 1, (1,), 4)), (('a', True, (1, 2), 1),), (('a', 1, [1, 2], 1),), (('a', 1, (1, 2), 0),),
)

NOT_ORDERS = (
    None, 1, 'asc', [], [(0, 'asc')], (0, 'asc'), ((0,),), ((0, 'asc', 1),), ([0, 'asc'],), ((0, 'up'),),
    ((-1, 'asc'),), ((4, 'asc'),), ((True, 'asc'),), (('0', 'asc'),), ((0, True),), ((0, 'asc'), (0, 'desc')),
    ((0, 'asc'), (0, 'asc')), {}, ((0, ['asc']),), (([0], 'asc'),),
)

NOT_CONDITIONS = (
    None, 1, 'ge', (), ('ge',), ('ge', 0), ('gt', 0, 1), ['ge', 0, 1], ('ge', 0, True), ('ge', False, 1),
    ('ge', -1, 1), ('ge', 4, 1), ('ge', 0, 10 ** 9 + 1), ('ge', 0, -10 ** 9 - 1), ('ge', 0, 1, 1), ('not', ()),
    ('not', ('ge', 0, 1), ('ge', 0, 1)), ('xor', (('ge', 0, 1),) * 2), ('and', (('ge', 0, 1),) * 2, 1, 1),
    ('not', ('ge', 0, 1), 1, 1), ((), (('ge', 0, 1),) * 2), ('and', ()), ('or', (('ge', 0, 1),)),
    ('and', [('ge', 0, 1), ('ge', 0, 1)]),
)

NOT_MARGINS = (
    None, 1, (), [], [(0, 'asc', 0)], (0, 'asc', 0), ((0, 'asc'),), ((0, 'asc', 0, 0),), ([0, 'asc', 0],),
    ((0, 'up', 0),), ((-1, 'asc', 0),), ((4, 'asc', 0),), ((True, 'asc', 0),), ((0, 'asc', -1),),
    ((0, 'asc', 10 ** 9 + 1),), ((0, 'asc', True),), ((0, 'asc', 0), (0, 'desc', 1)), {}, ((0, ['asc'], 0),),
)

NOT_NAMES_OF_ROWS = (None, 1, True, '', 'zoe', 'Ann', (), ('ann',), [], ['ann'], {}, {'ann': 1})


def replaced(value):
    """Return values like the value, each with one part replaced by an odd value."""
    results = list(ODD_VALUES)
    if isinstance(value, tuple):
        for index, part in enumerate(value):
            for other in replaced(part):
                results.append(value[:index] + (other,) + value[index + 1:])
            results.append(value[:index] + value[index + 1:])
            results.append(value[:index] + (part,) + value[index:])
        results.append(list(value))
    return results


def subsets(parts):
    """Return all tuples of some of the parts, in their order."""
    results = [()]
    for part in parts:
        results += [chosen + (part,) for chosen in results]
    return results


def cost_of(rows):
    return sum(row[1] for row in rows)


def random_source(*parts):
    """Return a source of random numbers that depends on the parts only."""
    return random.Random(' '.join(map(str, parts)))


def random_rowset(seed, count, width, *, low=0, high=3, cost=5, expiry=1):
    """Return a rowset that depends on the arguments only; its rows expire from time 1 to the expiry."""
    source = random_source(seed, count, width)
    return tuple(
        (name_of(number), source.randint(1, cost), tuple(source.randint(low, high) for _ in range(width)),
         1 if expiry == 1 else source.randint(1, expiry))
        for number in range(count))


def check_selection(test, select, rowset):
    """Check that a selection from the subsets of the rowset is path-independent."""
    selected = {subset: select(subset) for subset in subsets(rowset)}
    for larger, chosen in selected.items():
        test.assertTrue(set(chosen) <= {row[0] for row in larger})
        for smaller in subsets(larger):
            names = {row[0] for row in smaller}
            test.assertTrue(set(chosen) & names <= set(selected[smaller]), (larger, smaller))
            if set(chosen) <= names:
                test.assertEqual(chosen, selected[smaller], (larger, smaller))


def check_bool(test, value):
    test.assertTrue(value is True or value is False, value)


def check_steady(test, function, *arguments, **keywords):
    """Check that the call changes no argument and gives an equal result a second time; return the result."""
    before = copy.deepcopy((arguments, keywords))
    first = copy.deepcopy(function(*arguments, **keywords))
    second = function(*arguments, **keywords)
    test.assertEqual(first, second)
    test.assertEqual(repr(first), repr(second))
    test.assertEqual(repr(before), repr((arguments, keywords)))
    return second


def check_raises(test, error, function, *arguments, **keywords):
    """Check that the call raises exactly this error: a class, or a class, an attribute and its value."""
    kind, attribute, value = error if isinstance(error, tuple) else (error, None, None)
    try:
        result = function(*arguments, **keywords)
    except Exception as raised:
        test.assertIs(raised.__class__, kind, (arguments, keywords, raised))
        if attribute is not None:
            held = getattr(raised, attribute)
            test.assertIs(held.__class__, value.__class__, (arguments, keywords))
            test.assertEqual(held, value, (arguments, keywords))
    else:
        test.fail(f'{function.__name__} {arguments} {keywords} returned {result!r} and raised nothing')


def check_errors(test, function, good, bad):
    """Check the errors of a function, alone and two at once.

    good maps each parameter to a valid argument: a position (0, 1, ..) or a keyword. bad lists, in the
    order of the document, pairs (parameter, cases), each case a pair of an invalid argument and its error.
    """
    call_with(function, good)
    for index, (parameter, cases) in enumerate(bad):
        for value, error in cases:
            check_raises(test, error, call_with, function, {**good, parameter: value})
            for later, others in bad[index + 1:]:
                if later != parameter:
                    both = {**good, parameter: value, later: others[0][0]}
                    check_raises(test, error, call_with, function, both)


def call_with(function, arguments):
    positions = sorted(key for key in arguments if isinstance(key, int))
    keywords = {key: arguments[key] for key in arguments if not isinstance(key, int)}
    return function(*[arguments[key] for key in positions], **keywords)


def cases(values, kind):
    """Return the cases of check_errors for values that raise an error with a message."""
    return [(value, kind) for value in values]


def holding(values, kind, attribute):
    """Return the cases of check_errors for values that raise an error which holds them."""
    return [(value, (kind, attribute, value)) for value in values]
