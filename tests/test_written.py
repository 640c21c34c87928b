"""Points 9.1 to 9.3: papers as texts."""

import random
import re
import unittest

from broken import broken, with_item, with_level, with_step
from by_hand import is_accepted, paper_by_hand, small_kinds, too_many_layers
from definitions import ready_kinds, sample_kinds, some_structure
from oneofeach.errors import InvalidPaper, TooManyLayers
from oneofeach.kinds import Kind
from oneofeach.papers import Item, Paper, write_up
from oneofeach.short import shorten
from oneofeach.written import audit, read_paper, read_structure, write_paper, write_structure

GRAPHS = ready_kinds()["graphs"]
NUMBER = "(?:0|[1-9][0-9]{0,8})"
LAYER = f"(?:[.]|(?:-|{NUMBER}(?:,{NUMBER})*)(?:/(?:-|{NUMBER}(?:,{NUMBER})*))*)"
NAMES = f"{NUMBER}(?:,{NUMBER})*"

SMALL = """level 0
item
step - to 0 by 0
level 1
item -
chain 0
step 0 to 1 by 1,0
step 1 to 0 by 0,1
level 2
item - 1
chain 0,1 1,0
chain 0,1
item - 0
chain 0,1 1,0
chain 0,1"""


def fields(paper):
    """The fields of all items."""
    return [[vars(item) for item in level] for level in paper.levels]


def first_wrong_line(text):
    """Point 9.2: the number of the first line that cannot stand there, or None."""
    size, chains, steps = -1, 0, False
    lines = text.split("\n")
    for number, line in enumerate(lines):
        if chains:
            if not re.fullmatch(f"chain(?: {NAMES})+", line):
                return number + 1
            chains -= 1
        elif line == f"level {size + 1}":
            size, steps = size + 1, False
        elif size >= 0 and re.fullmatch(f"item(?: {LAYER}){{{size}}}", line):
            chains, steps = size, True
        elif not steps or not re.fullmatch(f"step {LAYER} to {NUMBER} by {NAMES}", line):
            return number + 1
    return len(lines) + 1 if chains else None


class StructureTest(unittest.TestCase):

    def test_forms(self):
        for structure, text in [
            ((), ""),
            (((),), "."),
            (((), (), ()), ". . ."),
            ((((),),), "-"),
            ((((0,),),), "0"),
            ((((),), ((1,),), ((0, 1),)), "- 1 0,1"),
            ((((2,), ()), ((0,), (12, 3))), "2/- 0/12,3"),
            ((((), ()), ((5,), ()), ((0, 999999999), (0,))), "-/- 5/- 0,999999999/0"),
            ((((), (1,), ()),), "-/1/-"),
        ]:
            self.assertEqual(write_structure(structure), text)
            self.assertEqual(read_structure(text), structure)

    def test_any_structure(self):
        chance = random.Random(300)
        for kind in sample_kinds().values():
            for size in range(6):
                structure = some_structure(kind, size, chance)
                text = write_structure(structure)
                self.assertEqual(read_structure(text), structure)
                self.assertEqual(len(text.split()), size)

    def test_kinds_of_values(self):
        found = read_structure("1/- 0,1/2")
        self.assertIs(type(found), tuple)
        self.assertEqual([type(layer) for layer in found], [tuple, tuple])
        self.assertEqual({type(numbers) for layer in found for numbers in layer}, {tuple})
        self.assertEqual({type(number) for layer in found for numbers in layer for number in numbers}, {int})

    def test_layers_with_different_numbers_of_parts(self):
        self.assertEqual(read_structure(". - 0/1 ."), ((), ((),), ((0,), (1,)), ()))

    def test_wrong_words(self):
        for word in [
            "x", "..", "-.", ".-", "./-", "-/.", "/", "-/", "/-", "-//-", "1,", ",1", ",", "1,,2", "1,-", "--", "-1", "+1",
            "01", "00", "1,02", "1234567890", "0000000001", "1.5", "1/x", "1/2/", "0x1", "1_0", "item", "\t", "1\t", "1\n",
            "\n", ".\n", "-\n", "\n1", "1;2", "1/2,3/04",
        ]:
            for text in [word, "0 " + word, word + " 0", "- 1 " + word + " ."]:
                with self.assertRaises(InvalidPaper) as held:
                    read_structure(text)
                self.assertEqual(held.exception.line, 1)

    def test_empty_words(self):
        for text in [" ", "  ", " 0", "0 ", "0  1", ". ", " .", "0\n1", "0 \n"]:
            with self.assertRaises(InvalidPaper) as held:
                read_structure(text)
            self.assertEqual(held.exception.line, 1)

    def test_numbers(self):
        self.assertEqual(read_structure("0,10,100000000,999999999"), (((0, 10, 100000000, 999999999),),))


class WritePaperTest(unittest.TestCase):

    def paper(self):
        """The paper of the text SMALL."""
        both = [[(0, 1), (1, 0)], [(0, 1)]]
        return Paper([
            [Item((), [], [(((),), 0, (0,))])],
            [Item((((),),), [[(0,)]], [(((0,),), 1, (1, 0)), (((1,),), 0, (0, 1))])],
            [Item((((),), ((1,),)), both, []), Item((((),), ((0,),)), both, [])],
        ])

    def test_a_small_paper(self):
        self.assertEqual(write_paper(self.paper()), SMALL)
        self.assertEqual(fields(read_paper(SMALL)), fields(self.paper()))
        self.assertEqual(audit(GRAPHS, SMALL), "accepted")

    def test_kinds_of_values(self):
        paper = read_paper(SMALL)
        self.assertIs(type(paper), Paper)
        for item in [item for level in paper.levels for item in level]:
            self.assertIs(type(item), Item)
            self.assertIs(type(item.structure), tuple)
            self.assertEqual({type(row) for row in item.chain} | {list}, {list})
            self.assertEqual({type(names) for row in item.chain for names in row} | {tuple}, {tuple})
            self.assertEqual({type(step) for step in item.steps} | {tuple}, {tuple})

    def test_lists_without_items(self):
        for count in range(1, 9):
            text = "\n".join(f"level {size}" for size in range(count))
            self.assertEqual(write_paper(Paper([[]] * count)), text)
            self.assertEqual(fields(read_paper(text)), [[]] * count)

    def test_no_relations(self):
        paper = write_up(sample_kinds()["bare"], 2)
        self.assertEqual(write_paper(paper), "\n".join([
            "level 0", "item", "step . to 0 by 0", "level 1", "item .", "chain 0", "step . to 0 by 0,1", "level 2",
            "item . .", "chain 0,1 1,0", "chain 0,1",
        ]))

    def test_several_relations(self):
        item = Item((((1,), ()), ((0,), (2, 12))), [[(0, 1)], [(0, 1)]], [(((0,), (0, 1, 2, 3)), 7, (2, 0, 1))])
        text = "level 0\nlevel 1\nlevel 2\nitem 1/- 0/2,12\nchain 0,1\nchain 0,1\nstep 0/0,1,2,3 to 7 by 2,0,1"
        self.assertEqual(write_paper(Paper([[], [], [item]])), text)
        self.assertEqual(fields(read_paper(text)), fields(Paper([[], [], [item]])))

    def test_read_again(self):
        chance = random.Random(301)
        for kind, size in small_kinds():
            for paper in [write_up(kind, size), paper_by_hand(kind, size, chance), shorten(kind, write_up(kind, size))]:
                text = write_paper(paper)
                self.assertIsNone(first_wrong_line(text))
                self.assertEqual(fields(read_paper(text)), fields(paper))

    def test_only_the_form_is_read(self):
        text = "level 0\nitem\nitem\nstep 5/- to 1 by 7,7"
        paper = read_paper(text)
        self.assertEqual(fields(paper), [[
            {"structure": (), "chain": [], "steps": []},
            {"structure": (), "chain": [], "steps": [(((5,), ()), 1, (7, 7))]},
        ]])
        self.assertEqual(write_paper(paper), text)
        text = "level 0\nlevel 1\nitem 3,3/-\nchain 9 9 0,0,0 1\nstep . to 999999999 by 4\nstep . to 999999999 by 4"
        self.assertEqual(write_paper(read_paper(text)), text)

    def test_eight_lists(self):
        item = Item(((),) * 7, [[tuple(range(7))]] * 7, [])
        paper = Paper([[]] * 7 + [[item, item]])
        self.assertEqual(fields(read_paper(write_paper(paper))), fields(paper))

    def test_papers_stay_as_they_were(self):
        paper = self.paper()
        before = write_paper(paper)
        self.assertEqual(fields(paper), fields(self.paper()))
        self.assertEqual(write_paper(paper), before)

    def test_new_lists(self):
        paper = read_paper(SMALL)
        for item in [item for level in paper.levels for item in level]:
            item.chain.clear()
            item.steps.append("more")
        paper.levels.clear()
        self.assertEqual(fields(read_paper(SMALL)), fields(self.paper()))


class WrongLinesTest(unittest.TestCase):

    def wrong(self, text, line):
        """Check the number of the first wrong line."""
        self.assertEqual(first_wrong_line(text), line, repr(text))
        with self.assertRaises(InvalidPaper) as held:
            read_paper(text)
        self.assertIs(type(held.exception), InvalidPaper)
        self.assertEqual(held.exception.line, line, repr(text))

    def changed(self, line, *others):
        """The text SMALL with other lines in the place of a line."""
        lines = SMALL.split("\n")
        return "\n".join(lines[:line - 1] + list(others) + lines[line:])

    def test_the_small_text(self):
        self.assertIsNone(first_wrong_line(SMALL))
        read_paper(SMALL)

    def test_the_first_line(self):
        for text in ["", " ", "\n", "level", "level 1", "level 00", "level 0 ", " level 0", "level  0", "Level 0", "level 0 0",
                     "item", "step . to 0 by 0", "chain 0", "\nlevel 0", "level -0", "level x", "level\t0", "level0"]:
            self.wrong(text, 1)

    def test_levels_that_do_not_follow_one_another(self):
        self.wrong("level 0\nlevel 0", 2)
        self.wrong("level 0\nlevel 2", 2)
        self.wrong("level 0\nlevel 1\nlevel 3", 3)
        self.wrong("level 0\nlevel 1\nlevel 1", 3)
        self.wrong("level 0\nlevel 1\nlevel 0", 3)
        self.wrong("level 0\nlevel 01", 2)
        self.wrong(self.changed(4, "level 2"), 4)
        self.wrong(self.changed(9, "level 3"), 9)
        self.wrong(self.changed(9), 9)

    def test_too_many_or_too_few_words_of_layers(self):
        self.wrong(self.changed(2, "item -"), 2)
        self.wrong(self.changed(5, "item"), 5)
        self.wrong(self.changed(5, "item - 0"), 5)
        self.wrong(self.changed(10, "item -"), 10)
        self.wrong(self.changed(10, "item - 1 0,0"), 10)
        self.wrong(self.changed(10, "item"), 10)

    def test_words_that_are_no_layers(self):
        for word in ["x", "..", "01", "1,", "-/", "1234567890", "-1", "./.", "1;1", "item", "\t"]:
            self.wrong(self.changed(5, "item " + word), 5)
            self.wrong(self.changed(10, f"item - {word}"), 10)
            self.wrong(self.changed(10, f"item {word} -"), 10)
            self.wrong(self.changed(7, f"step {word} to 1 by 1,0"), 7)

    def test_first_words(self):
        for line, words in enumerate(SMALL.split("\n")):
            first, _, rest = words.partition(" ")
            for other in ["Level", "items", "Chain", "steps", "x", "", first + ":", first.upper(), "level,"]:
                self.wrong(self.changed(line + 1, f"{other} {rest}"), line + 1)

    def test_lines_of_chains(self):
        self.wrong(self.changed(6), 6)
        self.wrong(self.changed(6, "chain 0", "chain 0"), 7)
        self.wrong(self.changed(11), 12)
        self.wrong(self.changed(11, "chain 0,1", "chain 0,1"), 13)
        self.wrong(self.changed(12, "step 0 to 0 by 0"), 12)
        self.wrong(self.changed(12, "level 3"), 12)
        self.wrong(self.changed(12, ""), 12)
        self.wrong("level 0\nitem\nchain 0", 3)
        self.wrong("level 0\nchain 0", 2)
        self.wrong("level 0\nitem\nstep - to 0 by 0\nchain 0", 4)
        self.wrong("level 0\nlevel 1\nchain 0", 3)
        self.wrong("level 0\nlevel 1\nitem -\nchain 0\nstep 0 to 0 by 0\nchain 0", 6)

    def test_renamings_of_chains(self):
        self.wrong(self.changed(6, "chain"), 6)
        for words in [" ", " x", " 0,", " ,0", " 0,,0", " 00", " 01", " -1", " -", " .", " 0 ", "  0", " 0  0", " 1234567890",
                      " 0/0", "\t0", " 0,x", " 0 0,01"]:
            self.wrong(self.changed(6, "chain" + words), 6)
            self.wrong(self.changed(12, "chain 0,1 1" + words), 12)
        for words in ["0", "7", "0 0", "5,5,5 1", "999999999"]:
            read_paper(self.changed(6, "chain " + words))

    def test_steps_at_another_place(self):
        self.wrong("level 0\nstep - to 0 by 0", 2)
        self.wrong("level 0\nitem\nlevel 1\nstep - to 0 by 0", 4)
        self.wrong("level 0\nlevel 1\nitem -\nstep 0 to 0 by 0", 4)
        self.wrong(self.changed(4, "level 1", "step - to 0 by 0"), 5)
        self.wrong(self.changed(11, "step 0 to 0 by 0", "chain 0,1"), 11)
        read_paper(SMALL + "\nstep 1 to 1 by 1")

    def test_words_of_steps(self):
        for line in [
            "step", "step 0", "step 0 to", "step 0 to 1", "step 0 to 1 by", "step 0 to 1 by ", "step 0 to 1 by 1,0 ",
            "step 0 to 1 by 1,0 0", "step 0 to 1 1,0", "step 0 1 by 1,0", "step to 1 by 1,0", "step 0 by 1 to 1,0",
            "step 0 To 1 by 1,0", "step 0 to 1 BY 1,0", "step  0 to 1 by 1,0", "step 0  to 1 by 1,0", "step 0 to  1 by 1,0",
            "step 0 to 1  by 1,0", "step 0 to 1 by  1,0", " step 0 to 1 by 1,0", "step\t0 to 1 by 1,0",
            "step 0 to 01 by 1,0", "step 0 to 00 by 1,0", "step 0 to 1234567890 by 1,0", "step 0 to -1 by 1,0",
            "step 0 to x by 1,0", "step 0 to - by 1,0", "step 0 to 1,0 by 1,0", "step 0 to  by 1,0", "step 0 to +1 by 1,0",
            "step 0 to 1 by -", "step 0 to 1 by .", "step 0 to 1 by 1,00", "step 0 to 1 by 1,", "step 0 to 1 by ,1",
            "step 0 to 1 by 1,,0", "step 0 to 1 by 1/0", "step 0 to 1 by 1234567890", "step 0 to 1 by -1,0",
        ]:
            self.wrong(self.changed(7, line), 7)
            self.wrong(self.changed(8, line), 8)
        for line in ["step 0 to 0 by 0", "step . to 999999999 by 7,7,7", "step -/1/2,2 to 10 by 3"]:
            read_paper(self.changed(7, line))

    def test_empty_lines(self):
        for line in range(1, len(SMALL.split("\n")) + 1):
            self.wrong(self.changed(line, ""), line)
            self.wrong(self.changed(line, "", SMALL.split("\n")[line - 1]), line)
            self.wrong(self.changed(line, " "), line)

    def test_a_newline_at_the_end(self):
        self.wrong(SMALL + "\n", 16)
        self.wrong(SMALL + "\n\n", 16)
        self.wrong("level 0\n", 2)
        self.wrong("level 0\nlevel 1\nitem -\n", 4)

    def test_spaces_and_tabs(self):
        for line, words in enumerate(SMALL.split("\n")):
            for other in [words + " ", " " + words, words + "\t", "\t" + words]:
                self.wrong(self.changed(line + 1, other), line + 1)
            if " " in words:
                for other in [words.replace(" ", "  "), words.replace(" ", "\t"), words.replace(" ", ", ")]:
                    self.wrong(self.changed(line + 1, other), line + 1)

    def test_texts_that_end_too_early(self):
        self.wrong("level 0\nlevel 1\nitem -", 4)
        self.wrong("level 0\nlevel 1\nlevel 2\nitem - 0", 5)
        self.wrong("level 0\nlevel 1\nlevel 2\nitem - 0\nchain 0,1", 6)
        lines = SMALL.split("\n")
        for count in range(1, len(lines)):
            text = "\n".join(lines[:count])
            if first_wrong_line(text):
                self.wrong(text, count + 1)
            else:
                read_paper(text)
        self.assertEqual([first_wrong_line("\n".join(lines[:count])) for count in [5, 10, 11, 13, 14]], [6, 11, 12, 14, 15])

    def test_the_first_wrong_line_counts(self):
        self.wrong(self.changed(3, "x", "y"), 3)
        self.wrong(self.changed(6, "chain", "step"), 6)
        self.wrong("level 0\nlevel 1\nitem -\nx\ny", 4)

    def test_other_characters(self):
        for sign in "!?#*+_~@^&'\"[]{}|\\;:<>=":
            for line in range(1, len(SMALL.split("\n")) + 1):
                self.wrong(self.changed(line, SMALL.split("\n")[line - 1] + sign), line)

    def test_changed_texts(self):
        chance = random.Random(302)
        texts = [SMALL, write_paper(write_up(GRAPHS, 3)), write_paper(write_up(sample_kinds()["mixed"], 0)),
                 write_paper(write_up(sample_kinds()["coloured graphs"], 2))]
        right = wrong = 0
        for _ in range(4000):
            text = chance.choice(texts)
            for _ in range(chance.randrange(1, 3)):
                at = chance.randrange(len(text))
                piece = chance.choice(["", " ", "\n", "0", "1", "-", ",", "/", ".", "\t", "x", "chain 0", "item", "\nstep"])
                text = text[:at] + piece + text[at + chance.randrange(3):]
            line = first_wrong_line(text)
            if line is None:
                right += 1
                self.assertEqual(write_paper(read_paper(text)), text)
            else:
                wrong += 1
                self.wrong(text, line)
        self.assertGreater(right, 80)
        self.assertGreater(wrong, 1000)


class AuditTest(unittest.TestCase):

    def test_written_papers(self):
        chance = random.Random(303)
        for kind, size in small_kinds():
            for paper in [write_up(kind, size), paper_by_hand(kind, size, chance)]:
                self.assertEqual(audit(kind, write_paper(paper)), "accepted")

    def test_changed_papers(self):
        paper = write_up(GRAPHS, 3)
        for other in [
            with_level(paper, 0, []), with_level(paper, 3, paper.levels[3] * 2), with_item(paper, 2, 0, structure=(((),),) * 2),
            with_item(paper, 3, 1, chain=[[(0, 0, 0)]] * 3), with_step(paper, 2, 0, 1, target=7),
            with_step(paper, 1, 0, 0, layer=((0, 0),)), with_item(paper, 2, 0, steps=[]),
        ]:
            self.assertEqual(audit(GRAPHS, write_paper(other)), "refused")
        self.assertEqual(audit(ready_kinds()["digraphs"], write_paper(paper)), "refused")
        self.assertEqual(audit(GRAPHS, write_paper(shorten(GRAPHS, paper))), "refused")

    def test_texts_that_are_no_papers(self):
        for text in ["", "x", SMALL + "\n", SMALL + " ", "level 1", "level 0\n", "level 0\nlevel 1\nitem -", "\t"]:
            self.assertEqual(audit(GRAPHS, text), "refused")

    def test_small_texts(self):
        self.assertEqual(audit(GRAPHS, "level 0"), "refused")
        self.assertEqual(audit(GRAPHS, "level 0\nitem"), "accepted")
        self.assertEqual(audit(GRAPHS, "level 0\nitem\nitem"), "refused")
        self.assertEqual(audit(GRAPHS, "level 0\nitem\nlevel 1"), "refused")
        self.assertEqual(audit(sample_kinds()["nothing but no points"], "level 0\nitem\nlevel 1\nlevel 2"), "accepted")

    def test_layers_with_other_numbers_of_parts(self):
        for layer in [".", "-/-", "0", "-/0", "5,5"]:
            self.assertEqual(audit(GRAPHS, SMALL.replace("item -\n", f"item {layer}\n")), "refused")
            self.assertEqual(audit(GRAPHS, SMALL.replace("step - to", f"step {layer} to")), "refused")

    def test_broken_papers(self):
        chance = random.Random(304)
        kinds = [(kind, size) for kind, size in small_kinds() if len(kind.relations) > 0]
        refused = 0
        for kind, size in kinds:
            whole = paper_by_hand(kind, min(size, 3), chance)
            for _ in range(30):
                try:
                    text = write_paper(broken(whole, chance))
                except TypeError:
                    # Integers stand in the place of layers or parts, for which there is no form.
                    continue
                if first_wrong_line(text) or not is_accepted(kind, read_paper(text)):
                    refused += 1
                    expected = "refused"
                else:
                    expected = "accepted"
                if first_wrong_line(text) or too_many_layers(kind, read_paper(text)) is None:
                    self.assertEqual(audit(kind, text), expected)
        self.assertGreater(refused, 100)

    def test_too_many_layers(self):
        kind = Kind([("turn", 3, 2, False)], [])
        text = "level 0\nlevel 1\nlevel 2\nlevel 3\nitem - - 0\nchain 0\nchain 0\nchain 0\nlevel 4"
        with self.assertRaises(TooManyLayers) as held:
            audit(kind, text)
        self.assertEqual(held.exception.count, 2 ** 18)
        self.assertEqual(audit(kind, text.replace("\nlevel 4", "")), "refused")
        self.assertEqual(audit(kind, text + "\n"), "refused")
        self.assertEqual(audit(kind, text.replace("level 3", "level 4")), "refused")
        self.assertEqual(audit(kind, "level 0\nlevel 1\nlevel 2\nlevel 3\nlevel 4\nlevel 5"), "refused")
        with self.assertRaises(TooManyLayers) as held:
            audit(Kind([("mark", 1, 5000, False)], [(1, ("false",))]), "level 0\nitem\nlevel 1")
        self.assertEqual(held.exception.count, 5000)


if __name__ == "__main__":
    unittest.main()
