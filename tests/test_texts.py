"""Point 12: tables as texts."""

import unittest

from oncefound.errors import BadTable, BadText
from oncefound.tables import Table
from oncefound.texts import from_text, to_text
from samples import Case, any_values, random_tables, table_a, wrong_values

KINDS = "kinds 2 3\n"


class Case12(Case):
    def wrong(self, text, line, column):
        self.refused(BadText, from_text, text, told={"line": line, "column": column})


class Texts(Case12):
    def test_example(self):
        self.assertEqual(to_text(table_a()), "kinds 2 3\naa\nb?\naa\nbc")
        self.same(from_text("# A\n  kinds 2  3 # two\n\na a\n b? \naa#\nbc\n"), table_a())
        self.wrong("kinds 2 7\nag", 1, 9)
        self.wrong("kinds 2 3\nab\nca", 3, 1)
        self.wrong("kinds 2 3\n a", 2, 0)
        self.wrong("kinds", 1, 0)
        self.wrong("", 0, 0)
        self.wrong("kinds 2", 0, 0)
        self.wrong("kinds 2 2\na?", 0, 0)

    def test_all_letters(self):
        table = Table((6, 1), tuple((custom, 0) for custom in range(6)) + ((None, None),))
        text = "kinds 6 1\naa\nba\nca\nda\nea\nfa\n??"
        self.assertEqual(to_text(table), text)
        self.same(from_text(text), table)

    def test_edges(self):
        self.assertEqual(to_text(Table((1,), ((0,),))), "kinds 1\na")
        self.same(from_text("kinds 1\na"), Table((1,), ((0,),)))
        table = Table((1, 2, 3, 4, 5, 6, 6, 6), ((0, 1, 2, 3, 4, 5, None, 5),) * 11 + ((None,) * 6 + (0, None),))
        self.assertEqual(to_text(table), "kinds 1 2 3 4 5 6 6 6\n" + "abcdef?f\n" * 11 + "??????a?")
        self.same(from_text(to_text(table)), table)

    def test_there_and_back(self):
        for dice, table in random_tables(12):
            self.same(from_text(to_text(table)), table)

    def test_remarks_blank_lines_and_spaces_change_nothing(self):
        for dice, table in random_tables(121):
            lines = []
            for line in to_text(table).split("\n"):
                lines += dice.choice(([], [""], ["   "], ["# b?"], ["  # kinds 9 #"], ["#"]))
                cells = line.split(" ") if line.startswith("kinds") else line
                gap = " " if line.startswith("kinds") else ""
                line = "".join(cell + gap + " " * dice.randint(0, 2) for cell in cells)
                lines.append(" " * dice.randint(0, 2) + line + dice.choice(("", "#", " # kinds", "#?x#")))
            text = "\n".join(lines + dice.choice(([], [""], ["# end"], ["", " "])))
            self.same(from_text(text), table)

    def test_only_newlines_divide(self):
        self.wrong("kinds 1\ra", 1, 7)
        self.wrong("kinds 1\r\na", 1, 7)
        self.wrong("kinds 1\na\r\na", 2, 2)
        self.wrong("kinds 1\na\u2028a", 2, 2)
        self.wrong("kinds 1\na\x0ba", 2, 2)
        self.same(from_text("# \r kinds 1 \u2028 \x0c\nkinds 1\na"), Table((1,), ((0,),)))

    def test_only_spaces_are_spaces(self):
        self.wrong("kinds\t1\na", 1, 1)
        self.wrong("kinds 1\n\t\na", 2, 1)
        self.wrong("\t\nkinds 1\na", 1, 1)
        self.wrong("kinds 1\na\u00a0", 2, 2)
        self.wrong("kinds 1 \u00a0\na", 1, 9)


class KindsLine(Case12):
    def test_first_word(self):
        for text in ("Kinds 2\na", "kind 2\na", "kinds2\na", "2 kinds\na", "a", "?", "kindskinds 2\na", "kinds2 9\na"):
            self.wrong(text, 1, 1)
        self.wrong("\n#\n   kindz 9", 3, 4)
        self.wrong("aa\nkinds 2 2", 1, 1)

    def test_further_words(self):
        numbers = ("0", "7", "9", "22", "12", "23", "123456", "-1", "+1", "1.", "1,2", "\u00b2", "\u0663", "\u2460")
        for word in numbers + ("a", "?", "kinds"):
            self.wrong("kinds " + word + "\na", 1, 7)
            self.wrong("kinds  2 " + word + "  9\nx", 1, 10)
            self.wrong("\n kinds 1 1 " + word, 2, 12)
        for digit in "123456":
            self.assertEqual(from_text("kinds " + digit + "\na").kinds, (int(digit),))

    def test_kinds_alone(self):
        self.wrong("kinds\na", 1, 0)
        self.wrong("\n\n  kinds  \nx", 3, 0)
        self.wrong("kinds # 2 3\naa", 1, 0)
        self.wrong("kinds#2", 1, 0)

    def test_ninth_kind(self):
        self.assertEqual(from_text("kinds 2 2 2 2 2 2 2 2\naaaaaaaa").kinds, (2,) * 8)
        self.wrong("kinds 2 2 2 2 2 2 2 2 2\naaaaaaaaa", 1, 23)
        self.wrong("kinds 2 2 2 2 2 2 2 2  x\naaaaaaaaa", 1, 24)
        self.wrong("kinds 2 2 2 2 2 2 2 7 2\naaaaaaaaa", 1, 21)

    def test_a_second_kinds_line_is_a_row_line(self):
        self.wrong("kinds 2\nkinds 2\na", 2, 1)


class RowLines(Case12):
    def test_characters(self):
        for letter in ("c", "d", "f", "g", "A", "B", "0", "1", "*", "-", "\t", "\u0430", "!", "@"):
            self.wrong("kinds 2 3\n" + letter + "a", 2, 1)
            self.wrong("kinds 2 2\naa\n  a " + letter + "a", 3, 5)
        self.wrong("kinds 2 3\nac\nad", 3, 2)
        self.wrong("kinds 1 6\nag", 2, 2)
        self.wrong("kinds 1 6\nbf", 2, 1)
        self.same(from_text("kinds 1 6\naf"), Table((1, 6), ((0, 5),)))

    def test_behind_the_last_matter(self):
        self.wrong(KINDS + "aaa", 2, 3)
        self.wrong(KINDS + " a a  ?", 2, 7)
        self.wrong(KINDS + "aa x\n", 2, 4)
        self.wrong(KINDS + "xaa", 2, 1)

    def test_cells_lacking(self):
        self.wrong(KINDS + "a", 2, 0)
        self.wrong(KINDS + "aa\n# a\n?  # a", 4, 0)
        self.wrong(KINDS + "g", 2, 1)

    def test_the_thirteenth(self):
        twelve = "kinds 2\n" + "a\n" * 12
        self.assertEqual(len(from_text(twelve).rows), 12)
        self.assertEqual(len(from_text(twelve + "  # b\n\n").rows), 12)
        for line in ("a", "b", "?", "x", "aa", " ab # more", "kinds 2"):
            self.wrong(twelve + line, 14, 0)
            self.wrong(twelve + "\n#\n" + line + "\na", 16, 0)
        self.wrong("kinds 2\n" + "?\n" * 13, 14, 0)
        self.wrong("kinds 2\n" + "a\n" * 11 + "g\na", 13, 1)

    def test_the_first_wrong_thing_is_told(self):
        self.wrong("kinds 2 9 0\ng", 1, 9)
        self.wrong("kinds 2 3\na\ng", 2, 0)
        self.wrong("kinds 2 3\nag\na", 2, 2)
        self.wrong("kinds 2 3\ngg", 2, 1)

    def test_what_comes_behind_all_others(self):
        self.wrong("kinds 2 2\na?\nc?", 3, 1)
        self.wrong("kinds 2 2\na?\n?", 3, 0)
        self.wrong("kinds 2 2\n?a\n?b", 0, 0)
        self.wrong("kinds 2 2\n??", 0, 0)
        self.wrong("kinds 2 2\n# aa\n\n", 0, 0)
        self.wrong("\n  \n# kinds 2\n", 0, 0)
        self.same(from_text("kinds 2 2\n?a\nb?"), Table((2, 2), ((None, 0), (1, None))))


class OtherValues(Case12):
    def test_what_is_no_string(self):
        for value in any_values():
            if type(value) is not str:
                self.wrong(value, 0, 0)
        self.wrong(["kinds 2", "a"], 0, 0)
        self.wrong(("kinds 2\na",), 0, 0)

    def test_what_is_no_table(self):
        for value in any_values():
            if type(value) is not Table:
                self.refused(BadTable, to_text, value)

    def test_strings_that_are_no_text(self):
        for value in wrong_values(["kinds 1\na"]):
            if type(value) is str and value != "":
                self.wrong(value, 1, 1)


if __name__ == "__main__":
    unittest.main()
