import unittest

from sumgrove.deeds import Group
from sumgrove.errors import GroveError
from sumgrove.journals import end_line, group_line, read_group, read_lines, readable_length, write_group
from sumgrove.refusals import InvalidLine
from tests.helper import noted, outcome, signed
from tests.test_group_model import some_cases

NOTES = noted((5, 6, 0), 2, 50, (1, 20, 9))
SIGNATURE = ("ann", ((0, 5, 7), (2, 11, 13)))
# The written form of one deed of each word.
DEEDS = {
    "open ann 5 6 0 2 50 1 20 9": ("open", "ann", NOTES),
    "close ann": ("close", "ann"),
    "move ann bob 1 5": ("move", "ann", "bob", 1, 5),
    "mint ann 0 5": ("mint", "ann", 0, 5),
    "burn ann 1 5": ("burn", "ann", 1, 5),
    "change ann 0 1 5": ("change", "ann", 0, 1, 5),
    "rule ann 5 6 0 2 50 1 20 9": ("rule", "ann", NOTES),
}
SIGNATURES = {
    "ann 2 0 5 7 2 11 13": SIGNATURE,
    "bob 1 1 0 1": ("bob", ((1, 0, 1),)),
    "z_9 3 0 1 2 1 3 4 2 5 6": ("z_9", ((0, 1, 2), (1, 3, 4), (2, 5, 6))),
}
FORTY = "1" + "0" * 39


def body_of(epoch, deeds, signatures):
    return " ".join([str(epoch), str(len(deeds)), *deeds, str(len(signatures)), *signatures])


def group_of(epoch, deeds, signatures):
    return Group(tuple(DEEDS[deed] for deed in deeds), tuple(SIGNATURES[shown] for shown in signatures), epoch)


class FormTest(unittest.TestCase):
    """Points 146 and 147."""

    def check(self, body, group):
        self.assertEqual(write_group(group), body)
        self.assertEqual(read_group(body), group)
        for part in (read_group(body).deeds, read_group(body).signatures):
            self.assertIsInstance(part, tuple)

    def invalid(self, *bodies):
        for body in bodies:
            self.assertEqual(outcome(read_group, body), ("InvalidLine", {"body": body}))

    def test_in_letters(self):
        group = Group((("open", "ann", NOTES), ("move", "ann", "bob", 0, 7)), (SIGNATURE,), 3)
        self.check("3 2 open ann 5 6 0 2 50 1 20 9 move ann bob 0 7 1 ann 2 0 5 7 2 11 13", group)

    def test_each_deed(self):
        for deed in DEEDS:
            self.check(body_of(0, [deed], []), group_of(0, [deed], []))
            self.check(body_of(7, [deed, "close ann", deed], []), group_of(7, [deed, "close ann", deed], []))
            self.check(body_of(7, [deed], SIGNATURES), group_of(7, [deed], SIGNATURES))
        self.check(body_of(12, DEEDS, SIGNATURES), group_of(12, DEEDS, SIGNATURES))

    def test_without_deeds_or_signatures(self):
        self.check("0 0 0", Group((), (), 0))
        self.check("5 0 1 bob 1 1 0 1", Group((), (SIGNATURES["bob 1 1 0 1"],), 5))
        self.check("5 0 1 bob 0", Group((), (("bob", ()),), 5))

    def test_many_made_up_groups(self):
        for _, _, _, group in some_cases(12, 500):
            self.assertEqual(read_group(write_group(group)), group)

    def test_what_points_81_and_82_say_is_not_looked_at(self):
        for body, group in (
            ("0 1 burn ann 9 0 0", Group((("burn", "ann", 9, 0),), (), 0)),
            ("0 1 move ann ann 5 0 0", Group((("move", "ann", "ann", 5, 0),), (), 0)),
            ("0 1 open ann 0 0 0 9 9 9 9 9 0", Group((("open", "ann", (0, 0, 0, 9, 9, 9, 9, 9)),), (), 0)),
            ("0 0 2 ann 1 9 9 0 ann 1 9 9 0", Group((), (("ann", ((9, 9, 0),)),) * 2, 0)),
            ("0 0 1 ann 4 2 1 0 1 1 0 1 1 0 3 0 0",
             Group((), (("ann", ((2, 1, 0), (1, 1, 0), (1, 1, 0), (3, 0, 0))),), 0)),
            ("0 25" + " close ann" * 25 + " 0", Group((("close", "ann"),) * 25, (), 0)),
        ):
            self.check(body, group)

    def test_integers(self):
        body = "0 1 burn ann 1 5 1 ann 1 0 5 7"
        words = body.split(" ")
        for place, word in enumerate(words):
            if word.isdigit():
                def changed(item):
                    return " ".join([*words[:place], item, *words[place + 1:]])
                self.invalid(*[changed(item) for item in
                               ("0" + word, "+" + word, "-" + word, "-1", "", "x", "1.0", "1e1", "1_0", " ", "0x1", "00",
                                "\u0661", "\u00b2", FORTY + "0", "9" * 41, "0" + FORTY, "\n", word + "\n", "ann")])
                # These are not how many deeds, signatures or keys there are.
                if place not in (1, 6, 8):
                    for item in ("0", "9", FORTY, "9" * 40):
                        self.assertEqual(write_group(read_group(changed(item))), changed(item))

    def test_great_keys(self):
        self.check(f"0 0 1 ann 1 0 {FORTY} 5", Group((), (("ann", ((0, 10 ** 39, 5),)),), 0))
        self.check(f"{'9' * 40} 0 0", Group((), (), 10 ** 40 - 1))

    def test_numbers_of_parts(self):
        self.invalid("0 1 0", "0 2 close ann 0", "0 0 close ann 0", "0 1 close ann 1", "0 0 2 bob 1 1 0 1",
                     "0 0 0 bob 1 1 0 1", "0 0 1 bob 2 1 0 1", "0 0 1 bob 0 1 0 1", "0 9999999999 close ann 0",
                     f"0 0 {FORTY} bob 1 1 0 1", f"0 0 1 bob {FORTY} 1 0 1", f"0 {FORTY} 0")

    def test_words_too_many_or_too_few(self):
        for deed in DEEDS:
            words = body_of(7, [deed], ["bob 1 1 0 1"]).split(" ")
            for place in range(len(words)):
                self.invalid(" ".join(words[:place]))
                self.invalid(" ".join([*words[:place], "", *words[place:]]))
                self.invalid(" ".join([*words[:place], "", *words[place + 1:]]))
                self.invalid(" ".join([*words[:place], "ann", *words[place:]]))
                self.invalid(" ".join([*words[:place], *words[place + 1:]]))
            for more in ("0", "ann", "", "close", "1 ann"):
                self.invalid(" ".join([*words, more]), " ".join([more, *words]) if not more.isdigit() else "")

    def test_notes_are_eight_words(self):
        for word in ("open", "rule"):
            for many in (0, 1, 7, 9):
                self.invalid(f"0 1 {word} ann" + " 1" * many + " 0")
            self.invalid(f"0 1 {word} ann 1,1,1,1,1,1,1,1 0", f"0 1 {word} ann - 0")

    def test_other_blanks(self):
        for body in ("0\t0 0", "0 0\n0", "0 0 0\n", "\n0 0 0", "0\u00a00 0", "0 0 0\r", " 0 0 0", "0 0 0 ", "0  0 0"):
            self.invalid(body)

    def test_unknown_words_of_deeds(self):
        for word in ("what", "Close", "closes", "clos", "", "2", "end", "name", "notes"):
            self.invalid(f"0 1 {word} ann 0")

    def test_names(self):
        for name in ("a", "0", "_", "z" * 8, "0" * 8, "a_9"):
            self.check(f"0 1 close {name} 0", Group((("close", name),), (), 0))
            self.check(f"0 0 1 {name} 1 1 0 1", Group((), ((name, ((1, 0, 1),)),), 0))
        for name in ("", "A", "a" * 9, "a-b", "a,b", "\u00e4", "a\n", "-", "a.", "a" * 50):
            self.invalid(f"0 1 close {name} 0", f"0 0 1 {name} 1 1 0 1", f"0 1 move ann {name} 0 1 0",
                         f"0 1 move {name} ann 0 1 0")

    def test_bodies_that_are_no_groups(self):
        self.invalid("", " ", "end", "end ", "0", "0 0", "0 0 0 0", "end 0 0", "x")

    def test_error_class(self):
        self.assertEqual(InvalidLine.__bases__, (GroveError,))


BODIES = ["0 0 0", body_of(0, ["close ann"], []), body_of(12, DEEDS, SIGNATURES)]


def line(body):
    return f"{len(body)} {body}\n"


class LinesTest(unittest.TestCase):
    """Points 145 and 148."""

    def check(self, text, length, read):
        self.assertEqual(readable_length(text), length)
        self.assertEqual(read_lines(text), read)

    def unreadable(self, *lines):
        """Lines that are not whole: alone, behind whole lines and before them."""
        whole = line("end") + line(BODIES[1])
        for text in lines:
            self.check(text, 0, [])
            self.check(whole + text + whole, len(whole), [None, read_group(BODIES[1])])

    def test_lines(self):
        self.assertEqual(end_line(), "3 end\n")
        self.assertEqual(group_line(Group((("close", "ann"),), (), 0)), "15 0 1 close ann 0\n")
        for body in BODIES:
            self.assertEqual(group_line(read_group(body)), line(body))

    def test_empty_text(self):
        self.check("", 0, [])

    def test_whole_lines(self):
        self.check("3 end\n", 6, [None])
        self.check("3 end\n" * 3, 18, [None] * 3)
        text = "".join(line(body) for body in BODIES)
        groups = [read_group(body) for body in BODIES]
        self.check(text, len(text), groups)
        self.check(text + end_line() + text, 2 * len(text) + 6, groups + [None] + groups)

    def test_cut_at_each_place(self):
        rows = [(line("end"), None)] + [(line(body), read_group(body)) for body in BODIES] + [(line("end"), None)]
        text = "".join(row for row, _ in rows)
        ends = [sum(len(row) for row, _ in rows[:many]) for many in range(len(rows) + 1)]
        for place in range(len(text) + 1):
            many = max(many for many, end in enumerate(ends) if end <= place)
            self.check(text[:place], ends[many], [read for _, read in rows[:many]])

    def test_lengths_of_several_digits(self):
        for many, digits in ((1, 1), (2, 2), (12, 3), (150, 4), (1200, 5)):
            group = Group((("close", "ann"),) * many if many > 1 else (), (), 0)
            text = group_line(group)
            self.assertEqual(len(text.split(" ")[0]), digits)
            self.check(text, len(text), [group])

    def test_lengths_that_are_wrong(self):
        self.unreadable("03 end\n", "00000003 end\n", "0000000003 end\n", "0 end\n", "0 \n", "2 end\n", "4 end\n", " end\n",
                        "end\n", "+3 end\n", "-3 end\n", "3.0 end\n", "x end\n", "3_0 end\n", "\u0663 end\n",
                        "1000000003 end\n", "3000000000 end\n", "999999999 end\n", "3", "3 ", "0\n", "\n", " \n", "0", " ")
        for body in BODIES:
            many = len(body)
            self.unreadable(*[f"{length} {body}\n" for length in (0, 1, many - 1, many + 1, many + 2, f"0{many}", "")])

    def test_missing_spaces_and_newlines(self):
        self.unreadable("3end\n", "3  end\n", "4  end\n", "3\tend\n", "3 end", "3 end\r\n", "3\nend\n", " 3 end\n",
                        "4 end\n\n", "4 end\n", "3 end ", "3 end3 end\n", "3 enx\n", "3 END\n")

    def test_bodies_that_are_not_written_groups(self):
        for body in ("", "0", "0 0", "0 0 00", "0 0 0 ", " 0 0 0", "0 1 close ANN 0", "0 1 what ann 0", "en", "end ", "x",
                     "0 1 close ann", "close ann"):
            self.unreadable(line(body))

    def test_bodies_with_a_newline(self):
        for body in ("0 0\n0", "0 0 0\n", "\n0 0 0", "end\n", "\nend", "en\nd", "3 end\n3 end"):
            self.unreadable(line(body))
        # The beginning of such a body can be a whole line of its own.
        self.check("9 3 end\n3 end\n", 0, [])

    def test_the_rest_is_not_read(self):
        self.check("3 end\nx\n3 end\n", 6, [None])
        self.check("3 end\n\n3 end\n", 6, [None])
        self.check("3 end\n3 end", 6, [None])

    def test_lists_are_new_ones(self):
        read_lines("3 end\n").clear()
        self.assertEqual(read_lines("3 end\n"), [None])

    def test_signed_groups(self):
        group = Group((("burn", "ann", 0, 1),), (signed("ann", 5, 6),), 9)
        self.check(group_line(group), len(group_line(group)), [group])


if __name__ == "__main__":
    unittest.main()
