"""Texts and tokens, and the faults of a text: their codes, their places and their order."""

import unittest

from helper import ask, load, named_boxes

LONG = "abcdefghijklmnop"


def loaded(text):
    return ask(load(text))[0]


class FaultCase(unittest.TestCase):
    def fault(self, code, marked):
        """The sign ^ marks the place where the fault is to be told."""
        self.assertEqual(marked.count("^"), 1, marked)
        self.assertEqual(loaded(marked.replace("^", "")), [0, code, marked.index("^")], marked)

    def faults(self, code, *marked):
        for text in marked:
            with self.subTest(text=text):
                self.fault(code, text)

    def diagram(self, text, boxes, edges, wishes):
        self.assertEqual(loaded(text), [1, boxes, edges, wishes], text)


class Blanks(FaultCase):
    def test_nothing_but_blanks_and_remarks(self):
        for text in ("", " ", "\n", "\t", " \t\n", "#", "# box", "#\n", "##\n#", "#\xff\x00\r;\n"):
            with self.subTest(text=text):
                self.diagram(text, 0, 0, 0)

    def test_blanks_are_32_9_and_10_alone(self):
        self.diagram("\tbox\nA\t;\n\n box B ;\t", 2, 0, 0)
        for byte in range(256):
            with self.subTest(byte=byte):
                answer = loaded([byte] + list(b"box A ;"))
                if byte in (32, 9, 10):
                    self.assertEqual(answer, [1, 1, 0, 0])
                elif byte == ord("#"):
                    self.assertEqual(answer, [1, 0, 0, 0])
                elif chr(byte) in "{};:" or byte < 128 and chr(byte).isalnum():
                    self.assertEqual(answer, [0, 3, 0])
                else:
                    self.assertEqual(answer, [0, 2, 0])

    def test_remarks_part_tokens(self):
        self.diagram("box#\nA#a#b\n;#box B;\nbox#;\nC;#", 2, 0, 0)
        self.fault(3, "box A#\n^B;")
        self.fault(2, "box A; edge A ^-#\n> A;")

    def test_remark_ends_before_the_line_end_or_at_the_end_of_the_text(self):
        self.diagram("box A;#box B;", 1, 0, 0)
        self.diagram("box A;#box B;\nbox C;", 2, 0, 0)
        self.diagram("box A;#", 1, 0, 0)
        self.diagram("box A;#\r\tbox B;", 1, 0, 0)

    def test_nothing_needs_to_part_tokens_that_end_by_themselves(self):
        self.diagram("box A;box B;edge A->B:l;above A B;", 2, 1, 1)
        self.diagram("box A;box B;above A B;edge A->B;box C 9 9;box D;", 4, 1, 1)
        self.diagram("box A 5#\n3;", 1, 0, 0)

    def test_word_ahead_of_which_nothing_parts_it(self):
        self.diagram("box A 5 3;box B;", 2, 0, 0)
        self.diagram("box A;#\nbox B;", 2, 0, 0)
        self.faults(3, "box A 5 3^box B;", "box A 5^above;", "^7box A;", "}box A;".replace("}", "^}"))
        self.faults(3, "^boxA;", "^boxbox A;", "^box5 A;", "box A;^edgeA->A;", "box A;^aboveA A;")


class Tokens(FaultCase):
    def test_names(self):
        self.diagram("box a;box A;box z9;box Z0a;box boxes;box Box;box edges;box aboveX;box group1;", 9, 0, 0)
        self.faults(3, "box ^9;", "box ^9a;", "box ^;")
        self.faults(2, "box ^_a;", "box a^_;", "box a^\xe9;", "box a^.b;", "box a^-b;")

    def test_bytes_beside_letters_and_digits_are_none(self):
        for byte in (47, 64, 91, 96, 123, 125, 58):
            answer = loaded(list(b"box a") + [byte] + list(b";"))
            self.assertEqual(answer, [0, 3 if chr(byte) in "{}:" else 2, 5])

    def test_words_are_no_names(self):
        for word in ("box", "edge", "above", "group"):
            with self.subTest(word=word):
                self.fault(3, f"box ^{word};")
                self.fault(3, f"box A;edge ^{word}->A;")
                self.fault(3, f"box A;edge A->^{word};")
                self.fault(3, f"box A;edge A->A:^{word};")
                self.fault(3, f"box A;above ^{word} A;")
                self.fault(3, f"box A;above A ^{word};")

    def test_group_is_a_word_that_is_nowhere_allowed(self):
        self.faults(3, "^group", "box A;^group A { }")

    def test_names_of_16_and_17_bytes(self):
        self.diagram(f"box {LONG};box A;edge {LONG}->A:{LONG};above {LONG} A;", 2, 1, 1)
        long = LONG + "7"
        self.faults(2, f"box ^{long};", f"box A;edge ^{long}->A;", f"box A;edge A->^{long};",
                    f"box A;edge A->A:^{long};", f"box A;above ^{long} A;", f"^{long}", f"box ^{'a' * 4000}")

    def test_numbers(self):
        self.diagram("box A 5 3;box B 10 9;", 2, 0, 0)
        self.fault(7, "box A ^1000000000 3;")
        self.fault(7, "box A 5 ^1000000000;")
        self.faults(2, "box A ^1000000001 3;", "box A 5 ^1000000001;", "box A ^10000000000 3;", "^1000000001")
        self.fault(2, "box A ^" + "9" * 4000 + ";")

    def test_needless_zeros(self):
        self.faults(2, "box A ^05 3;", "box A 5 ^03;", "box A ^00 3;", "^00", "box A 5 ^0000000000003;", "^01box")
        self.faults(7, "box A ^0 3;", "box A 5 ^0;")
        self.fault(3, "^0")
        self.diagram("box A 10 3;", 1, 0, 0)

    def test_signs(self):
        self.faults(2, "box A;edge A ^- > A;", "box A;edge A ^> A;", "box A;edge A ^--> A;", "^-", "box A;^-",
                    "box A;edge A ^=> A;", "box A ^-5 3;", "box A ^+5 3;", "box A^,")
        self.faults(3, "^{", "^}", "^;", "^:", "^->", "box A ^{", "box A;^{}", "box A;edge A ->^->A;")

    def test_the_first_place_without_a_token_counts(self):
        self.fault(2, "box A; ^? ! 00")
        self.fault(2, "box A; ^00 ?")
        self.fault(2, f"box A; ^{LONG}q ? 00")


class Grammar(FaultCase):
    def test_token_not_allowed(self):
        self.faults(3, "^A", "^5", "box A ^box", "box A ^B", "box A ^:", "box A ^->", "box A 5 ^;", "box A 5 3 ^4;",
                    "box A 5 ^B;", "box A 5 3 ^B", "box A;^;", "box ^5", "box ^-> ")
        self.faults(3, "edge ^5", "edge A ^B", "edge A ^;", "edge A -> ^;", "edge A -> ^5;", "edge A -> B ^C;",
                    "edge A -> B : ^;", "edge A -> B : ^5;", "edge A -> B : l ^l;", "edge A -> B : l ^: l;",
                    "edge A ^: l", "edge A -> B ^-> C;", "edge A -> B ^5;")
        self.faults(3, "above ^;", "above A ^;", "above A ^-> B;", "above A B ^C;", "above A B ^:", "above A ^5")

    def test_text_that_ends_too_early(self):
        self.faults(3, "box^", "box A^", "box A 5^", "box A 5 3^", "edge^", "edge A^", "edge A ->^", "edge A -> B^",
                    "edge A -> B :^", "edge A -> B : l^", "above^", "above A^", "above A B^", "box A \n^",
                    "box A;box#B;^")

    def test_boxes_may_be_named_in_front_of_their_place(self):
        self.diagram("edge A->B;above A B;box B;box A;", 2, 1, 1)

    def test_width(self):
        for low, name in ((3, "A"), (5, "abc"), (18, LONG)):
            with self.subTest(name=name):
                self.diagram(f"box {name} {low} 3;", 1, 0, 0)
                self.diagram(f"box {name} 30 3;", 1, 0, 0)
                self.fault(7, f"box {name} ^{low - 1} 3;")
                self.fault(7, f"box {name} ^31 3;")

    def test_height(self):
        self.diagram("box A 5 3;", 1, 0, 0)
        self.diagram("box A 5 9;", 1, 0, 0)
        self.faults(7, "box A 5 ^2;", "box A 5 ^10;", "box A 5 ^0;", "box A 5 ^1;")

    def test_counts(self):
        self.diagram(named_boxes(24), 24, 0, 0)
        self.fault(4, named_boxes(24) + "^box C;")
        self.diagram("box A;box B;" + "edge A->B;" * 40, 2, 40, 0)
        self.fault(4, "box A;box B;" + "edge A->B;" * 40 + "^edge A->B;")
        self.diagram("box A;box B;" + "above A B;" * 16, 2, 0, 16)
        self.fault(4, "box A;box B;" + "above A B;" * 16 + "^above A B;")
        self.diagram(named_boxes(24) + "edge B0->B1;" * 40 + "above B0 B1;" * 16, 24, 40, 16)

    def test_word_alone_is_one_too_many(self):
        self.faults(4, named_boxes(24) + "^box", named_boxes(24) + "^box ;", named_boxes(24) + "^box 5 A")


class Lengths(FaultCase):
    def test_4096_and_4097_bytes(self):
        text = "box A;"
        for filler in (" ", "#"):
            with self.subTest(filler=filler):
                self.diagram(text + filler * (4096 - len(text)), 1, 0, 0)
                self.assertEqual(loaded(text + filler * (4097 - len(text))), [0, 1, 4096])
        self.assertEqual(loaded(" " * 8192), [0, 1, 4096])

    def test_too_long_counts_ahead_of_all_else(self):
        for text in ("?", "00", "A", "box", "box A;box A;", "edge A->B;", named_boxes(25)):
            with self.subTest(text=text):
                self.assertEqual(loaded(text + " " * 4097), [0, 1, 4096])
                self.assertEqual(loaded(" " * 4097 + text), [0, 1, 4096])

    def test_last_byte_counts(self):
        self.assertEqual(loaded(" " * 4095 + "?"), [0, 2, 4095])
        self.assertEqual(loaded(" " * 4095 + ";"), [0, 3, 4095])
        self.assertEqual(loaded(" " * 4093 + "box"), [0, 3, 4096])


class Names(FaultCase):
    def test_name_twice(self):
        self.faults(5, "box A;box ^A;", "box A;box B;box ^B;box A;", "box A;box ^A 9 9;box A;")
        self.diagram("box A;box a;box A1;box AA;", 4, 0, 0)

    def test_unknown_name(self):
        self.faults(6, "edge ^A->B;", "box A;edge A->^B;", "box B;edge ^A->B;", "above ^A B;", "box A;above A ^B;",
                    "box B;above ^A B;", "box A;edge A->^a;", "box A;box B;edge A->B;edge B->^C;edge D->A;")

    def test_label_is_no_box(self):
        self.diagram("box A;box B;edge A->B:nobody;edge A->B:A;", 2, 2, 0)

    def test_edges_count_ahead_of_wishes(self):
        self.fault(6, "box A;above X Y;edge A->^Z;")
        self.fault(8, "box A;box B;above A A;edge B->^B;")

    def test_to_itself(self):
        self.faults(8, "box A;edge A->^A;", "box A;above A ^A;", "box A;box B;edge A->B;edge B->^B;edge A->A;",
                    "box A;box B;above A B;above B ^B;above A A;", "box A;edge A->^A:A;")

    def test_circle_of_wishes(self):
        start = "box A;box B;box C;"
        self.faults(9, start + "above A B;above ^B A;", start + "above A B;above B C;above ^C A;above B A;",
                    start + "above B C;above A B;above A C;above ^C B;", start + "above A B;above A B;above ^B A;",
                    "above A B;above B C;above ^C A;" + start)
        self.diagram(start + "above A B;above B C;above A C;above A B;", 3, 0, 4)

    def test_edges_close_no_circle_of_wishes(self):
        self.diagram("box A;box B;edge A->B;edge B->A;above B A;", 2, 2, 1)


class Order(FaultCase):
    def test_2_counts_ahead_of_what_stands_before_it(self):
        self.faults(2, "A ^?", "box 5 ^?", named_boxes(25) + "^?", "box A 1 1; ^00", "box A;box A;^?", "edge A->B;^?",
                    "box A;edge A->A;^?", "box A;box B;above A B;above B A;^?", "box ^?")

    def test_3_4_and_7_from_left_to_right(self):
        full = named_boxes(24)
        self.fault(3, "box ^; box A 1 1;")
        self.fault(7, "box A ^1 1; box ;")
        self.fault(7, "box A ^1 ;")
        self.fault(7, "box A ^31 99")
        self.fault(4, full + "^box A 1 1; A")
        self.fault(3, full + "^A box B;")
        self.fault(7, "box A ^1 3;" + full + "box C;")
        self.fault(4, full + "^box ; box")
        self.fault(4, full + "^box A; edge A")
        self.fault(3, full + "edge A^; box C;")

    def test_3_4_and_7_count_ahead_of_5_6_8_and_9(self):
        for told in ("box A;box A;", "edge X->Y;", "box A;edge A->A;", "box A;above A A;",
                     "box A;box B;above A B;above B A;"):
            with self.subTest(told=told):
                self.fault(3, told + "^;")
                self.fault(3, told + "box^")
                self.fault(7, told + "box C 5 ^2;")
                self.fault(4, told + named_boxes(24 - told.count("box")) + "^box C;")

    def test_5_counts_ahead_of_6_8_and_9(self):
        self.faults(5, "edge X->Y;box A;box ^A;", "box A;edge A->A;box ^A;", "above A A;box A;box ^A;",
                    "box A;box B;above A B;above B A;box ^B;")

    def test_6_counts_ahead_of_8_and_9(self):
        self.faults(6, "box A;edge A->A;edge ^X->A;", "box A;edge A->A;above A ^X;", "edge ^X->X;", "above ^X X;",
                    "box A;box B;above A B;above B A;above A ^X;")

    def test_8_counts_ahead_of_9(self):
        self.faults(8, "box A;box B;above A B;above B A;edge A->^A;", "box A;box B;above A B;above B A;above B ^B;")
