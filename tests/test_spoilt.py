"""Texts that are spoilt in some places, read a second time by other means than those of the program."""

import re
import unittest

from helper import Numbers, ask, load

PIECE = re.compile(r"[ \t\n]+|#[^\n]*|[A-Za-z][A-Za-z0-9]*|[0-9]+|->|[{};:]")
LETTERS = {"box": "b", "edge": "e", "above": "a", "group": "g", "->": ">"}
WHOLE = re.compile("(?:bn(?:99)?;|en>n(?::n)?;|ann;)*")
BEGUN = re.compile("b(?:n(?:99?)?)?|e(?:n(?:>(?:n(?::n?)?)?)?)?|a(?:nn?)?|")
STATEMENT = re.compile("b(n)(9?)(9?);|e(n)>(n)(?::n)?;|a(n)(n);")

GOOD = "box A;box B1 9 4;edge A->B1:l;above A B1;edge B1->A;# end\nbox C ;above C A;"
PIECES = ["box", "edge", "above", "group", ";", ":", "->", "{", "}", "-", "?", "5", "3", "31", "2", "007", "0", "A", "B1",
          "C", "x" * 17, " ", "\n", "#", "1000000001", "box Q 4 9;", "box A;", "above B1 C;", "edge C->C;", "\t",
          "above C C;", "box D 10 2;"]


def is_bad(piece):
    if piece[0].isdigit():
        return str(int(piece)) != piece or int(piece) > 10 ** 9
    return len(piece) > 16 and piece[0].isalpha()


def tokens_of(text):
    """The tokens with their places, and the place of fault 2, if there is one."""
    tokens = []
    at = 0
    while at < len(text):
        match = PIECE.match(text, at)
        if match is None or is_bad(match.group()):
            return tokens, at
        if match.group()[0] not in " \t\n#":
            tokens.append((match.group(), at))
        at = match.end()
    return tokens, None


def letter(token):
    """One letter for each sort of token, so that patterns say how tokens may stand."""
    if token in LETTERS:
        return LETTERS[token]
    return "n" if token[0].isalpha() else "9" if token[0].isdigit() else token


def expected(text):
    """What load is to answer."""
    tokens, bad = tokens_of(text)
    if bad is not None:
        return [0, 2, bad]
    letters = "".join(letter(token) for token, place in tokens)
    whole = WHOLE.match(letters).end()
    read = BEGUN.match(letters, whole).end()
    places = [place for token, place in tokens] + [len(text)]
    faults = bound_faults(tokens, letters[:read])
    if whole < len(letters):
        faults.append((places[read], 3))
    if faults:
        place, code = min(faults)
        return [0, code, place]
    return names_expected(tokens, letters)


def bound_faults(tokens, letters):
    found = []
    for match in re.finditer("bn(9)(9?)", letters):
        name = tokens[match.start() + 1][0]
        for at, low, high in ((match.start(1), len(name) + 2, 30), (match.start(2), 3, 9)):
            if letters[at:at + 1] == "9" and not low <= int(tokens[at][0]) <= high:
                found.append((tokens[at][1], 7))
    return found


def names_expected(tokens, letters):
    """The faults 5, 6, 8, 9, or how many there are of each sort."""
    boxes, edges, wishes = [], [], []
    for match in STATEMENT.finditer(letters):
        names = [tokens[match.start(k)] for k in (1, 4, 5, 6, 7) if match.group(k)]
        {"b": boxes, "e": edges, "a": wishes}[match.group()[0]].append(names)
    known = [names[0][0] for names in boxes]
    faults = [[0, 5, names[0][1]] for k, names in enumerate(boxes) if names[0][0] in known[:k]]
    faults += [[0, 6, place] for names in edges + wishes for name, place in names if name not in known]
    faults += [[0, 8, names[1][1]] for names in edges + wishes if names[0][0] == names[1][0]]
    above = set()
    for (upper, place), (lower, other) in wishes:
        if (lower, upper) in above:
            faults.append([0, 9, place])
        ups = {upper} | {a for a, b in above if b == upper}
        downs = {lower} | {b for a, b in above if a == lower}
        above |= {(a, b) for a in ups for b in downs}
    return faults[0] if faults else [1, len(boxes), len(edges), len(wishes)]


class Spoilt(unittest.TestCase):
    def test_spoilt_texts(self):
        seen = set()
        for seed in range(4000):
            dice = Numbers(seed)
            text = GOOD
            for _ in range(1 + dice.below(3)):
                at = dice.below(len(text) + 1)
                text = text[:at] + PIECES[dice.below(len(PIECES))] + text[at + dice.below(3):]
            answer = ask(load(text))[0]
            self.assertEqual(answer, expected(text), text)
            seen.add(answer[1] if answer[0] == 0 else 0)
        self.assertEqual(seen, {0, 2, 3, 5, 6, 7, 8, 9})

    def test_texts_cut_short(self):
        for at in range(len(GOOD) + 1):
            self.assertEqual(ask(load(GOOD[:at]))[0], expected(GOOD[:at]), GOOD[:at])
