import unittest

from deadbeat.errors import TextError
from deadbeat.tokens import is_reserved, spell, tokenize

RESERVED = (
    "system in out object cell operation give end task every within if else loop to while read write interrupt calls "
    "mod and or"
).split()
SIGNS = ":= , ; . ( ) [ ] + - * / & | ^ ~ ! << >> < <= ~< ~<= == !=".split()


def pairs(text):
    """The tokens without their lines and without the last one."""
    return [(kind, value) for kind, value, _ in tokenize(text)[:-1]]


class TokenizeTest(unittest.TestCase):
    def refuse(self, text, line=1):
        with self.assertRaises(TextError, msg=text) as caught:
            tokenize(text)
        self.assertEqual(caught.exception.line, line, text)

    def test_document_example(self):
        self.assertEqual(tokenize("a:=b~<3 # x"), [
            ("name", "a", 1), ("sign", ":=", 1), ("name", "b", 1), ("sign", "~<", 1), ("number", 3, 1), ("end", "", 1),
        ])

    def test_nothing(self):
        self.assertEqual(tokenize(""), [("end", "", 1)])

    def test_separators_alone(self):
        self.assertEqual(tokenize("  "), [("end", "", 1)])
        self.assertEqual(tokenize("\n"), [("end", "", 2)])
        self.assertEqual(tokenize(" \n\n  \n "), [("end", "", 4)])

    def test_comments(self):
        self.assertEqual(tokenize("#"), [("end", "", 1)])
        self.assertEqual(tokenize("# a := 007 # = _ ~<= system"), [("end", "", 1)])
        self.assertEqual(tokenize("#\n"), [("end", "", 2)])
        self.assertEqual(tokenize("a# b\nc #d"), [("name", "a", 1), ("name", "c", 2), ("end", "", 2)])
        self.assertEqual(tokenize("# one\n# two\n\nx"), [("name", "x", 4), ("end", "", 4)])

    def test_lines(self):
        self.assertEqual(tokenize("\n\n\na\n\nb\n"), [("name", "a", 4), ("name", "b", 6), ("end", "", 7)])
        self.assertEqual(tokenize("a b\nc"), [("name", "a", 1), ("name", "b", 1), ("name", "c", 2), ("end", "", 2)])
        self.assertEqual(tokenize("\n" * 399 + "a"), [("name", "a", 400), ("end", "", 400)])

    def test_reserved_words(self):
        for word in RESERVED:
            self.assertEqual(pairs(word), [("word", word)])

    def test_names_like_reserved_words(self):
        for word in RESERVED:
            for name in (word + "s", word + "_", word + "1", word.upper(), word[:-1] + "q"):
                if name not in RESERVED:
                    self.assertEqual(pairs(name), [("name", name)])

    def test_names(self):
        for name in ("a", "Z", "x_", "a1b2", "abcdefghijklmnop", "A234567890123456", "a_______________"):
            self.assertEqual(pairs(name), [("name", name)])

    def test_numbers(self):
        for text, value in (("0", 0), ("7", 7), ("10", 10), ("4294967295", 4294967295), ("0x0", 0),
                            ("0xffffffff", 4294967295),
                            ("0x00000001", 1), ("0x1f", 31), ("0x0123abcd", 0x123abcd), ("999999999", 999999999),
                            ("1000000000", 1000000000)):
            self.assertEqual(pairs(text), [("number", value)])
            self.assertIs(type(tokenize(text)[0][1]), int)

    def test_signs(self):
        for sign in SIGNS:
            self.assertEqual(pairs(sign), [("sign", sign)])
            self.assertEqual(pairs(f"a{sign}b"), [("name", "a"), ("sign", sign), ("name", "b")])

    def test_longest_signs(self):
        for text, expected in (
            ("~<=", "~<="), ("~<<", "~< <"), ("~<<=", "~< <="), ("~~<", "~ ~<"), ("<<<", "<< <"), ("<<<=", "<< <="),
            ("<<<<", "<< <<"), ("<=<", "<= <"), (">>>>", ">> >>"), ("!!=", "! !="), ("~==", "~ =="), ("====", "== =="),
            (":=:=", ":= :="), ("~!-", "~ ! -"), ("~<=~<", "~<= ~<"), ("<~<", "< ~<"),
        ):
            self.assertEqual(pairs(text), [("sign", sign) for sign in expected.split()])

    def test_side_by_side(self):
        self.assertEqual(pairs("if(a)mod[0x1]"), [
            ("word", "if"), ("sign", "("), ("name", "a"), ("sign", ")"), ("word", "mod"), ("sign", "["), ("number", 1),
            ("sign", "]"),
        ])
        self.assertEqual(pairs("1.a"), [("number", 1), ("sign", "."), ("name", "a")])
        self.assertEqual(pairs("o.f(1,2);"), [
            ("name", "o"), ("sign", "."), ("name", "f"), ("sign", "("), ("number", 1), ("sign", ","), ("number", 2),
            ("sign", ")"), ("sign", ";"),
        ])
        self.assertEqual(pairs("a-1"), [("name", "a"), ("sign", "-"), ("number", 1)])

    def test_every_pair_of_signs(self):
        """Two signs side by side are cut by the longest match, wherever that leads."""
        for text in [first + second for first in SIGNS for second in SIGNS]:
            expected, rest = [], text
            while rest:
                matching = [sign for sign in SIGNS if rest.startswith(sign)]
                if not matching:
                    break
                expected.append(("sign", max(matching, key=len)))
                rest = rest[len(expected[-1][1]):]
            if rest:
                self.refuse(text)
            else:
                self.assertEqual(pairs(text), expected)

    def test_characters_that_start_no_token(self):
        for character in "=:_>%@$?'\"`{}\\\t\r":
            self.refuse(character)
            self.refuse(f"a {character} b")
        self.refuse("_a")
        self.refuse("a + _")
        self.refuse("a = b")
        self.refuse("a : = b")
        self.refuse("~< = ")
        self.refuse("<==")
        self.refuse(">=")
        self.refuse("&&=")

    def test_long_names(self):
        self.refuse("abcdefghijklmnopq")
        self.refuse("interrupt_______1")
        self.refuse("a" * 16384)

    def test_no_numbers(self):
        for run in ("00", "01", "007", "4294967296", "0x", "0x123456789", "0x000000000", "0xA", "0xF", "0X1", "1a",
                    "1_",
                    "0_", "0a", "1x", "0xg", "0x_", "0x1_", "10000000000", "99999999999", "1" * 16384, "00x1", "1e5",
                    "4294967295a"):
            self.refuse(run)

    def test_line_of_the_error(self):
        self.refuse("\n\n  =", 3)
        self.refuse("a # =\n01", 2)
        self.refuse("\n" * 399 + "=", 400)
        self.refuse("#\n#\n\nabcdefghijklmnopq\n", 4)

    def test_first_part_decides(self):
        self.refuse("a\n=\n01\n", 2)
        self.refuse("a\n01\n=\n", 2)
        self.refuse("\nabcdefghijklmnopq = 1_\n_", 2)

    def test_results_are_independent(self):
        first = tokenize("a b")
        first.append(1)
        first[0] = 0
        self.assertEqual(tokenize("a b"), [("name", "a", 1), ("name", "b", 1), ("end", "", 1)])


class ReservedTest(unittest.TestCase):
    def test_reserved(self):
        for word in RESERVED:
            self.assertIs(is_reserved(word), True)

    def test_others(self):
        for name in ("a", "systems", "In", "not", "neg", "inv", "", "xor", "OR", "ou", "and_", ":="):
            self.assertIs(is_reserved(name), False)


class SpellTest(unittest.TestCase):
    def test_document_example(self):
        tokens = [("name", "a", 1), ("sign", ":=", 1), ("number", 31, 2), ("end", "", 2)]
        self.assertEqual(spell(tokens), "a := 31")
        self.assertEqual(tokens, [("name", "a", 1), ("sign", ":=", 1), ("number", 31, 2), ("end", "", 2)])

    def test_nothing(self):
        self.assertEqual(spell(tokenize("")), "")
        self.assertEqual(spell(tokenize("\n# a\n")), "")

    def test_text(self):
        tokens = tokenize("if(a<=0xff)\n# c\n x[0]:=4294967295;")
        self.assertEqual(spell(tokens), "if ( a <= 255 ) x [ 0 ] := 4294967295 ;")

    def test_spelled_tokens_are_read_again(self):
        text = " ".join(RESERVED + SIGNS + ["a1", "0x10", "0"])
        again = tokenize(spell(tokenize(text)))
        self.assertEqual(again, tokenize(text))
