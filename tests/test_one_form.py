"""The one form of a diagram, and what shown, sizes, box and edge tell of the text itself."""

import unittest

from helper import CYCLE, SHOWN, SIZES, ask, ask_of, box, bytes_of, edge, load, thrown_diagram, written


def shown(text):
    return ask_of(text, SHOWN)[0]


class OneForm(unittest.TestCase):
    def form(self, text, expected):
        self.assertEqual(shown(text), [len(expected)] + bytes_of(expected))

    def test_empty(self):
        self.form("", "")
        self.form(" # nothing", "")

    def test_boxes_always_with_width_and_height(self):
        self.form("box A;", "box A 5 3 ;\n")
        self.form("box abc 30 9;box de 4 3;", "box abc 30 9 ;\nbox de 4 3 ;\n")
        self.form("box abcdefghijklmnop;", "box abcdefghijklmnop 20 3 ;\n")

    def test_sorts_in_order_whatever_the_order_of_the_text(self):
        self.form(
            "above B A;edge B->A:x1;box\tB#remark\n;edge A->B;above B C;box A;edge C->A:A;box C 3 3;",
            "box B 5 3 ;\nbox A 5 3 ;\nbox C 3 3 ;\n"
            "edge B -> A : x1 ;\nedge A -> B ;\nedge C -> A : A ;\n"
            "above B A ;\nabove B C ;\n",
        )

    def test_worked_text(self):
        self.form(CYCLE, "box A 5 3 ;\nbox B 5 3 ;\nbox C 5 3 ;\nbox D 5 3 ;\nedge A -> B ;\nedge B -> C ;\n"
                         "edge C -> A : back ;\nedge A -> D ;\nedge D -> C ;\nedge A -> C ;\n")

    def all_told(self, text):
        counts = ask(load(text))[0]
        calls = [SHOWN, SIZES, [5]] + [box(k) for k in range(counts[1])] + [edge(k) for k in range(counts[2])]
        return ask_of(text, *calls)

    def test_loading_the_one_form_gives_the_same_diagram(self):
        texts = [CYCLE, "", "above B A;edge B->A:x1;box B 9 9;box A;"]
        for text in texts + [written(*thrown_diagram(seed)) for seed in range(40)]:
            with self.subTest(text=text):
                self.assertEqual(self.all_told(shown(text)[1:]), self.all_told(text))

    def test_longest_one_form_can_be_loaded(self):
        names = [f"abcdefghijklmn{number}" for number in range(10, 34)]
        text = "".join(f"box {name} 30 9;" for name in names)
        text += f"edge {names[0]}->{names[1]}:abcdefghijklmnop;" * 40 + f"above {names[0]} {names[1]};" * 16
        form = shown(text)
        self.assertEqual(form[0], 24 * 28 + 40 * 63 + 16 * 42)
        self.assertEqual(shown(form[1:]), form)


class Told(unittest.TestCase):
    def test_sizes(self):
        self.assertEqual(ask_of("", SIZES), [[0, 0, 0, 0]])
        self.assertEqual(ask_of("box A;box B;edge A->B;above A B;above A B;", SIZES), [[2, 1, 2, 0]])
        self.assertEqual(ask_of(CYCLE, SIZES), [[4, 6, 0, 6]])

    def test_box_without_width_and_height(self):
        self.assertEqual(ask_of("box A;box abc;", box(0), box(1)), [[0, 5, 3, 1, 65], [0, 7, 3, 3, 97, 98, 99]])

    def test_box_with_width_and_height(self):
        self.assertEqual(ask_of("box A 30 9;box B 3 4;", box(0), box(1)), [[0, 30, 9, 1, 65], [0, 3, 4, 1, 66]])

    def test_edge_with_and_without_label(self):
        text = "box A;box B;edge B->A:hi2;edge A->B;edge B->A;"
        self.assertEqual(ask_of(text, edge(0))[0], [1, 0, 0, 1, 3, 104, 105, 50])
        self.assertEqual(ask_of(text, edge(1))[0], [0, 1, 1, 1, 0])
        self.assertEqual(ask_of(text, edge(2))[0], [1, 0, 0, 1, 0])
