"""Tests of spareskept.text.formats: 16.1."""

import unittest

from spareskept.errors import InvalidQuery, InvalidRow, InvalidRowset, ParseError
from spareskept.queries.forms import is_query
from spareskept.rows.rowsets import is_row
from spareskept.text.formats import format_query, format_row, format_rowset, parse_query, parse_row, parse_rowset
from tests.queries import LARGE, QUERIES
from tests.test_forms import NOT_QUERIES
from tests.test_replica import fed
from tests.test_store import NOT_ROWS, WIDTH_CASES, made
from tests.test_tables import ordered
from tests.values import E, NOT_CONDITIONS, NOT_MARGINS, NOT_ORDERS, NOT_ROWSETS, ODD_VALUES, Q, R, S, SIXTY, T
from tests.values import cases, check_errors, check_raises, check_steady, random_rowset

EXTREME = ('abcdefgh', 10 ** 6, (10 ** 9, -10 ** 9, 0, -1), 10 ** 9)
SIX = ('a', 'b', 'c', 'd', 'e', 'f')

# Queries of width 2 and their text forms, worked out by hand.
TEXTS = (
    (('top', (), 9), 'top 9 -'),
    (('top', ((1, 'desc'), (0, 'asc')), 1), 'top 1 1 desc 0 asc'),
    (('capped', (), 3, 1, 2), 'capped 3 1 2 -'),
    (('capped', ((0, 'asc'),), 1, 0, 9), 'capped 1 0 9 0 asc'),
    (('where', ('ge', 0, -5), ('top', (), 1)), 'where ( ge 0 -5 ) top 1 -'),
    (('where', ('le', 1, 10 ** 9), ('hull', 1, 0)), 'where ( le 1 1000000000 ) hull 1 0'),
    (('where', ('not', ('eq', 0, 0)), ('hull', 0, 1)), 'where ( not eq 0 0 ) hull 0 1'),
    (('where', ('and', (('ge', 0, 1), ('not', ('le', 1, 2)))), ('top', (), 1)),
     'where ( and ( ge 0 1 , not le 1 2 ) ) top 1 -'),
    (('where', ('or', (('ge', 0, 1), ('le', 0, 2), ('eq', 1, 3), ('not', ('ge', 1, 4)))), ('top', (), 1)),
     'where ( or ( ge 0 1 , le 0 2 , eq 1 3 , not ge 1 4 ) ) top 1 -'),
    (('where', ('and', (('or', (('ge', 0, 1), ('ge', 1, 1))), ('ge', 0, 0))), ('top', (), 1)),
     'where ( and ( or ( ge 0 1 , ge 1 1 ) , ge 0 0 ) ) top 1 -'),
    (('where', ('not', ('not', ('ge', 0, 1))), ('top', (), 1)), 'where ( not not ge 0 1 ) top 1 -'),
    (('group', 1, ('group', 0, ('top', (), 1))), 'group 1 group 0 top 1 -'),
    (('skyline', ((0, 'asc', 0),)), 'skyline 0 asc 0'),
    (('skyline', ((1, 'desc', 10 ** 9), (0, 'asc', 3))), 'skyline 1 desc 1000000000 0 asc 3'),
    (('forest', 1, 0, ()), 'forest 1 0 -'),
    (('forest', 0, 1, ((1, 'desc'),)), 'forest 0 1 1 desc'),
    (('union', (('top', (), 1), ('hull', 0, 1))), 'union ( top 1 - , hull 0 1 )'),
    (('union', (Q, ('forest', 0, 1, ((0, 'asc'),)), ('skyline', ((0, 'asc', 1),)), ('hull', 0, 1))),
     'union ( top 1 0 asc , forest 0 1 0 asc , skyline 0 asc 1 , hull 0 1 )'),
    (('union', (('union', (('top', (), 1), ('where', ('ge', 0, 1), ('top', (), 2)))), ('group', 0, ('top', (), 3)))),
     'union ( union ( top 1 - , where ( ge 0 1 ) top 2 - ) , group 0 top 3 - )'),
    (('table', T), 'table a,b : 1=a 2=b 3=b'),
    (('table', (('a', 'b'), ((), (), ()))), 'table a,b : -'),
    (('table', (('a', 'b'), ((), ('b',), ('b',)))), 'table a,b : 2=b 3=b'),
    (('table', (('a', 'b'), (('a',), ('b',), ('a', 'b')))), 'table a,b : 1=a 2=b 3=a,b'),
    (('table', (('abcdefgh',), (('abcdefgh',),))), 'table abcdefgh : 1=abcdefgh'),
    (('group', 0, ('table', T)), 'group 0 table a,b : 1=a 2=b 3=b'),
    (('union', (('table', T), ('table', (('z',), ((),))))), 'union ( table a,b : 1=a 2=b 3=b , table z : - )'),
    (('table', ordered(SIX, (SIX, SIX[::-1]))), None),
)
SIGNS = ' ,;()-=:0123456789abcdegopst\t\nA+'


def one_sign_off(text):
    """Return the texts that differ from the text in one sign."""
    found = []
    for at in range(len(text) + 1):
        found += [text[:at] + sign + text[at:] for sign in SIGNS]
        if at < len(text):
            found.append(text[:at] + text[at + 1:])
            found += [text[:at] + sign + text[at + 1:] for sign in SIGNS]
            found += [text[:at] + text[at + 1:at + 2] + text[at] + text[at + 2:]]
    return [other for other in found if other != text]


class CheckedTest(unittest.TestCase):
    def check_other_text(self, text, parse, write):
        """Check that the text is refused or is the text form of what it is parsed to; return whether it is one."""
        try:
            value = parse(text)
        except ParseError:
            return False
        self.assertEqual(write(value), text)
        return True

    def check_refused(self, parse, texts):
        for text in texts:
            check_raises(self, ParseError, parse, text)


class RowTest(CheckedTest):
    def test_text_forms(self):
        for row, text in ((('a', 2, (1, -3), 9), 'a 2 1,-3 9'), (S[0], 'a 2 1 9'), (R[0], 'ann 5 3,0 9'),
                          (EXTREME, 'abcdefgh 1000000 1000000000,-1000000000,0,-1 1000000000')):
            self.assertEqual(check_steady(self, format_row, row), text)
            self.assertEqual(check_steady(self, parse_row, text), row)
        for row in R + S + E + SIXTY + random_rowset(1, 40, 4, low=-10 ** 9, high=10 ** 9, expiry=10 ** 9):
            self.assertEqual(parse_row(format_row(row)), row)

    def test_other_texts(self):
        self.check_refused(parse_row, (
            '', ' ', '-', 'a', 'a 2', 'a 2 1', 'a 2 1 9 ', ' a 2 1 9', 'a  2 1 9', 'a 2 1  9', 'a 2 1 9 9', 'a\t2 1 9',
            'a 2 1 9\n', '\na 2 1 9', 'a 02 1 9', 'a 2 01 9', 'a 2 1 09', 'a 2 -0 9', 'a 2 00 9', 'a +2 1 9',
            'a 2 +1 9', 'a 2 1 +9', 'a -2 1 9', 'a 2 1 -9', 'a 0 1 9', 'a 2 1 0', 'A 2 1 9', 'a1 2 1 9', '- 2 1 9',
            'abcdefghi 2 1 9', ' 2 1 9', 'a 2 1, 9', 'a 2 ,1 9', 'a 2 1,,1 9', 'a 2 1, 2 9', 'a 2 - 9', 'a 2  9',
            'a 2 1,2,3,4,5 9', 'a 1000001 1 9', 'a 2 1000000001 9', 'a 2 -1000000001 9', 'a 2 1 1000000001',
            'a 2 \u0661 9', 'a \u00b2 1 9', 'a \uff12 1 9', 'a 2 1_0 9', 'a 2 1.0 9', 'a 2 --1 9', 'a 2 0x1 9',
            'a 2 1e1 9', '\u00e4 2 1 9', '\u0430 2 1 9', 'a,b 2 1 9', 'a 2 1;9', 'a 2 1 9 ; b 2 1 9', 'a\u00a02 1 9',
            'a 2 ' + '1' * 40 + ' 9', 'a 2 ' + '1' * 41 + ' 9', 'a 2 ' + '0' * 50 + '1 9', 'a 2 -' + '1' * 41 + ' 9',
            'a ' + '9' * 5000 + ' 1 9', 'a 2 ' + '1,' * 5000 + '1 9', 'a ' * 5000, 'None', '\ud800 2 1 9'))

    def test_one_sign_off(self):
        found = 0
        for row in (('a', 2, (1, -3), 9), ('bc', 10, (0,), 70)):
            for text in one_sign_off(format_row(row)):
                found += self.check_other_text(text, parse_row, format_row)
        self.assertGreater(found, 100)

    def test_any_value(self):
        for value in ODD_VALUES + R + (made(), fed(), b'a 2 1 9', ['a 2 1 9'], ('a 2 1 9',), ('a', '2', '1', '9')):
            if not is_row(value):
                check_raises(self, InvalidRow, format_row, value)
            check_raises(self, ParseError, parse_row, value)
            check_raises(self, ParseError, parse_query, value)
            if value != '-':
                check_raises(self, ParseError, parse_rowset, value)
        for value in NOT_ROWS[:-10] + ('a 2 1 9', R, (R[0],), list(R[0])):
            check_raises(self, InvalidRow, format_row, value)


class RowsetTest(CheckedTest):
    def test_text_forms(self):
        for rowset, text in (((), '-'), (S[:1], 'a 2 1 9'), (S, 'a 2 1 9 ; b 1 2 5 ; c 3 3 9'),
                             (R[:2], 'ann 5 3,0 9 ; bob 1 1,2 4')):
            self.assertEqual(check_steady(self, format_rowset, rowset), text)
            self.assertEqual(check_steady(self, parse_rowset, text), rowset)
        for rowset in (R, S, E, SIXTY, random_rowset(1, 60, 3, low=-9, expiry=99)):
            self.assertEqual(parse_rowset(format_rowset(rowset)), rowset)

    def test_other_texts(self):
        self.check_refused(parse_rowset, (
            '', ' ', '--', '- ', ' -', '-\n', ';', ' ; ', 'a 2 1 9 ;', 'a 2 1 9 ; ', '; a 2 1 9', ' ; a 2 1 9',
            'a 2 1 9 ; -', '- ; a 2 1 9', 'a 2 1 9 ;b 1 2 5', 'a 2 1 9; b 1 2 5', 'a 2 1 9;b 1 2 5',
            'a 2 1 9  ; b 1 2 5', 'a 2 1 9 ;  b 1 2 5', 'a 2 1 9 ; ; b 1 2 5', 'b 1 2 5 ; a 2 1 9',
            'a 2 1 9 ; a 2 1 9', 'a 2 1 9 ; a 3 1 9', 'a 2 1 9 ; b 1 2,3 5', 'a 2 1 9 , b 1 2 5', 'a 2 1 9\nb 1 2 5',
            'a 2 1 9 ; b 01 2 5', 'a 2 1 9 ; b 1 2', '()', 'a 2 1 9 ; ' * 3000 + 'b 1 2 5',
            format_rowset(SIXTY) + ' ; zz 1 1,1 1', '; ' * 5000))

    def test_one_sign_off(self):
        found = 0
        for text in one_sign_off('a 2 1 9 ; b 1 2 5') + one_sign_off('-'):
            found += self.check_other_text(text, parse_rowset, format_rowset)
        self.assertGreater(found, 100)

    def test_errors(self):
        check_errors(self, format_rowset, {0: R}, [(0, cases(NOT_ROWSETS, InvalidRowset))])
        for value in ODD_VALUES + (made(), 'a 2 1 9', '-'):
            if value != ():
                check_raises(self, InvalidRowset, format_rowset, value)


class QueryTest(CheckedTest):
    def test_text_forms(self):
        for query, text in TEXTS:
            self.assertIs(is_query(2, query), True, query)
            found = check_steady(self, format_query, query, width=2)
            if text is not None:
                self.assertEqual(found, text)
            for width in (2, 3, 4):
                self.assertEqual(format_query(query, width=width), found)
                self.assertEqual(check_steady(self, parse_query, found, width=width), query)
        self.assertEqual(
            format_query(TEXTS[-1][0], width=1), 'table a,b,c,d,e,f : ' + ' '.join(
                f'{number}={",".join(choice)}' for number, choice in enumerate(TEXTS[-1][0][1][1], 1)))

    def test_every_query(self):
        texts = set()
        for query in QUERIES + LARGE:
            text = format_query(query, width=2)
            self.assertEqual(parse_query(text, width=2), query)
            self.assertEqual(' '.join(text.split()), text)
            texts.add(text)
        self.assertEqual(len(texts), len({repr(query) for query in QUERIES + LARGE}))

    def test_wide_queries(self):
        wide = ('where', ('and', (('ge', 3, 1), ('ge', 2, 1))), ('group', 3, ('skyline', tuple(
            (column, 'desc', column) for column in (3, 1, 2, 0)))))
        text = 'where ( and ( ge 3 1 , ge 2 1 ) ) group 3 skyline 3 desc 3 1 desc 1 2 desc 2 0 desc 0'
        self.assertEqual(format_query(wide), text)
        self.assertEqual(parse_query(text), wide)
        self.assertEqual(parse_query(text, width=4), wide)
        for width in (1, 2, 3):
            check_raises(self, ParseError, parse_query, text, width=width)
            check_raises(self, InvalidQuery, format_query, wide, width=width)
        for query, least in ((('top', ((2, 'asc'),), 1), 3), (('hull', 0, 1), 2), (('group', 1, ('top', (), 1)), 2),
                             (('forest', 1, 3, ()), 4), (('capped', (), 1, 2, 1), 3),
                             (('skyline', ((1, 'asc', 0),)), 2), (('where', ('le', 3, 0), ('top', (), 1)), 4),
                             (('union', (Q, ('hull', 2, 0))), 3), (('table', T), 1)):
            text = format_query(query)
            for width in (1, 2, 3, 4):
                if width < least:
                    check_raises(self, ParseError, parse_query, text, width=width)
                    check_raises(self, InvalidQuery, format_query, query, width=width)
                else:
                    self.assertEqual(parse_query(text, width=width), query)

    def test_one_sign_off(self):
        found = 0
        for query in (TEXTS[1], TEXTS[3], TEXTS[4], TEXTS[8], TEXTS[13], TEXTS[15], TEXTS[18], TEXTS[22], TEXTS[25]):
            for text in one_sign_off(query[1]):
                found += self.check_other_text(
                    text, lambda text: parse_query(text, width=2), lambda query: format_query(query, width=2))
        self.assertGreater(found, 300)

    def test_words_left_out_and_doubled(self):
        for query, _ in TEXTS[:-1]:
            words = format_query(query).split()
            for at in range(len(words)):
                for text in (words[:at] + words[at + 1:], words[:at + 1] + words[at:], words[:at], words[at:],
                             words[:at] + words[at:at + 2][::-1] + words[at + 2:], words + words[at:]):
                    self.check_other_text(' '.join(text), parse_query, format_query)

    def test_other_texts(self):
        self.check_refused(parse_query, (
            '', ' ', '-', 'top', 'top 1', 'top -', 'top 1 - ', ' top 1 -', 'top  1 -', 'top 1  -', 'top 1 -\n',
            'Top 1 -',
            'top 01 -', 'top +1 -', 'top 0 -', 'top 10 -', 'top -1 -', 'top 1 - 0 asc', 'top 1 0 asc -', 'top 1 0',
            'top 1 asc 0', 'top 1 0 up', 'top 1 0 asc 0 desc', 'top 1 4 asc', 'top 1 -0 asc', 'top 1 00 asc',
            'top 1 0 asc,', 'top 1 0,asc', 'top\t1 -', 'top 1 \u0660 asc', 'top one -', 'top 1 - -', 'top - 1',
            'top 1 0 asc 1 desc 2 asc 3 desc 0 asc', 'capped 1 0 1', 'capped 1 0 10 -', 'capped 1 4 1 -',
            'capped 1 0 -',
            'where ge 0 1 top 1 -', 'where (ge 0 1) top 1 -', 'where ( ge 0 1 )', 'where ( ge 0 1 ) ',
            'where ( ) top 1 -',
            'where ( ge 0 ) top 1 -', 'where ( gt 0 1 ) top 1 -', 'where ( ge 0 1 top 1 -', 'where ( ge 0 01 ) top 1 -',
            'where ( ge 0 -0 ) top 1 -', 'where ( ge 0 1000000001 ) top 1 -', 'where ( ge 4 1 ) top 1 -',
            'where ( not ) top 1 -', 'where ( not ( ge 0 1 ) ) top 1 -', 'where ( and ( ge 0 1 ) ) top 1 -',
            'where ( and ( ge 0 1 , ge 0 2 , ge 0 3 , ge 0 4 , ge 0 5 ) ) top 1 -',
            'where ( and ( ge 0 1 ge 0 2 ) ) top 1 -', 'where ( and ( ge 0 1, ge 0 2 ) ) top 1 -',
            'where ( and ( ge 0 1 , ge 0 2 , ) ) top 1 -', 'where ( and ( , ge 0 1 , ge 0 2 ) ) top 1 -',
            'where ( and ge 0 1 , ge 0 2 ) top 1 -', 'where ( and ( ) ) top 1 -', 'where ( ( ge 0 1 ) ) top 1 -',
            'where ( not not not ge 0 1 ) top 1 -', 'where ( not and ( not ge 0 1 , ge 0 1 ) ) top 1 -',
            'group top 1 -', 'group 4 top 1 -', 'group 0', 'group 0 - top 1 -', 'group 0 ( top 1 - )',
            'group 0 0 top 1 -',
            'group 0 group 0 group 0 group 0 top 1 -', 'skyline', 'skyline -', 'skyline 0 asc', 'skyline 0 asc -1',
            'skyline 0 asc 1 0 desc 1', 'skyline 0 asc 1 1', 'skyline 0 asc 1 1 asc', 'skyline 0 asc 1000000001',
            'hull', 'hull 0', 'hull 0 0', 'hull 0 4', 'hull 0 1 -', 'hull 0 1 2', 'hull 0,1', 'forest 0 1',
            'forest 0 0 -',
            'forest 0 1 - -', 'forest 0 -', 'union', 'union ( )', 'union ( top 1 - )', 'union ( top 1 - top 1 - )',
            'union ( top 1 - , top 1 -', 'union top 1 - , top 1 - )', 'union ( top 1 - , , top 1 - )',
            'union ( top 1 - , top 1 - , top 1 - , top 1 - , top 1 - )', 'union ( top 1 - , top 1 - ) )',
            'union (top 1 - , top 1 -)', 'union ( top 1 -, top 1 - )', 'union ( top 1 - ; top 1 - )', 'top 1 - top 1 -',
            'table', 'table a,b', 'table a,b :', 'table a,b : ', 'table : -', 'table - : -', 'table b,a : -',
            'table a,a : -', 'table a,b,c,d,e,f,g : -', 'table a,b - : -', 'table a,b : - 1=a', 'table a,b : 1=a -',
            'table a,b : 1=-', 'table a,b : 1=- 2=b 3=b', 'table a,b : 0=a', 'table a,b : 4=a', 'table a,b : 01=a',
            'table a,b : 2=b 1=a 3=b', 'table a,b : 1=a 3=b 2=b', 'table a,b : 1=a 2=b 3=b 3=b', 'table a,b : 1=a,a',
            'table a,b : 1=a 2=b 3=b,a', 'table a,b : 1=b', 'table a,b : 1=a 2=b', 'table a,b: 1=a 2=b 3=b',
            'table a,b : 1=a 2=b 3=c', 'table a,b : 1 =a', 'table a,b : 1==a', 'table a,b : 1=a=b', 'table a,b : =a',
            'table a,b : 1=', 'table a,b : 1=a,', 'table a,b : 1=a  2=b 3=b', 'table a, b : -', 'table a,b : 1=a 2=b 3',
            'table a,b : -1=a', 'table A : 1=A', 'tables a,b : -', 'None', '()', 'select', 'top 1 - ;', 'top 1 - #'))

    def test_long_texts(self):
        self.check_refused(parse_query, (
            'where ( ge 0 1 ) ' * 20000 + 'top 1 -', 'group 0 ' * 50000 + 'top 1 -', 'union ( ' * 50000,
            'union ( top 1 - , ' * 20000 + 'top 1 -' + ' )' * 20000, 'where ( ' + 'not ' * 50000 + 'ge 0 1 ) top 1 -',
            'where ( ' + 'and ( ' * 50000,
            'where ( ' + 'or ( ge 0 1 , ' * 20000 + 'ge 0 1' + ' )' * 20000 + ' ) top 1 -',
            'top 1' + ' 0 asc' * 50000, 'union ( top 1 -' + ' , top 1 -' * 50000 + ' )', 'skyline' + ' 0 asc 1' * 50000,
            'table ' + ','.join(['a'] * 5000) + ' : -', 'table a,b :' + ' 1=a' * 50000, 'top ' + '1' * 100000 + ' -',
            'table a : ' + '1' * 5000 + '=a', '(' * 100000, ' ' * 100000, 'top 1 -' + ' ' * 100000,
            'where ( and ( ge 0 1' + ' , ge 0 1' * 50000 + ' ) ) top 1 -', 'table ' + 'a,b,c,d,e,f,' * 1000 + 'z : -',
            'table ' + ','.join(chr(97 + i // 26 % 26) + chr(97 + i % 26) + 'x' for i in range(600)) + ' : -'))

    def test_digits(self):
        for digits in (40, 41, 4300, 5000):
            number = '1' * digits
            self.check_refused(parse_query, (
                f'top {number} -', f'top 1 {number} asc', f'where ( ge 0 {number} ) top 1 -', f'hull 0 {number}',
                f'where ( ge 0 -{number} ) top 1 -', f'skyline 0 asc {number}', f'table a : {number}=a'))

    def test_the_default(self):
        for query in QUERIES:
            self.assertEqual(format_query(query), format_query(query, width=4))
            self.assertEqual(parse_query(format_query(query)), parse_query(format_query(query), width=4))
        self.assertRaises(TypeError, format_query, Q, 1)
        self.assertRaises(TypeError, parse_query, 'top 1 -', 1)

    def test_errors(self):
        queries = cases(NOT_QUERIES + (('group', 2, Q), ('hull', 0, 2)), InvalidQuery)
        check_errors(self, format_query, {0: Q, 'width': 2}, [('width', WIDTH_CASES), (0, queries)])
        check_errors(self, parse_query, {0: 'top 1 -', 'width': 2}, [
            ('width', WIDTH_CASES), (0, cases(('', None, 1, 'top', 'hull 0 2', ['top 1 -'], Q), ParseError))])
        for value in ODD_VALUES + NOT_ORDERS + NOT_CONDITIONS + NOT_MARGINS + (made(), fed()):
            check_raises(self, InvalidQuery, format_query, value)
            check_raises(self, InvalidQuery, format_query, ('group', 0, value))
            if not isinstance(value, str):
                check_raises(self, ParseError, parse_query, value)


if __name__ == '__main__':
    unittest.main()
