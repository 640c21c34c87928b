"""The grammar of points 1.5 and 1.9 as lists of productions, for the tests to compare with.

Where a token cannot follow the tokens before it is found by keeping all beginnings of
derivations at once (Earley's way), which has nothing in common with how the program reads.
"""

import re

PRODUCTIONS = """
sentence_text -> sentence END
sentence -> all names : same
names -> NAME
names -> NAME NAME
names -> NAME NAME NAME
names -> NAME NAME NAME NAME
same -> implied
same -> same <-> implied
implied -> either
implied -> either -> implied
either -> both
either -> either or both
both -> denied
both -> both and denied
denied -> not denied
denied -> atom
atom -> true
atom -> false
atom -> ( same )
atom -> NAME ( variables ) = NUMBER
variables -> NAME
variables -> NAME , NAME
variables -> NAME , NAME , NAME
kind_text -> lines END
kind_text -> lines body END
kind_text -> lines body gap END
lines ->
lines -> gap
gap -> LINE
gap -> gap LINE
body -> relations
body -> sentences
body -> relations gap sentences
relations -> relation_line
relations -> relations gap relation_line
sentences -> sentence
sentences -> sentences gap sentence
relation_line -> relation NAME ARITY values COUNT
relation_line -> relation NAME ARITY values COUNT symmetric
"""


def grammar():
    """A dict from the left side of the productions to the list of their right sides."""
    found = {}
    for line in PRODUCTIONS.split("\n"):
        if line:
            left, _, right = line.partition(" ->")
            found.setdefault(left, []).append(tuple(right.split()))
    return found


RULES = grammar()


def tokens_until_fault(text):
    """Pairs of a set of terminals and a place; at a fault of tokens the set is empty."""
    found = []
    place = 0
    while place < len(text):
        run = re.match("[A-Za-z0-9_]+", text[place:])
        sign = re.match("<->|->|[(),:=]", text[place:])
        if text[place] == " ":
            place += 1
            continue
        if run and re.fullmatch("[0-9]{1,9}", run[0]):
            terminals = {"NUMBER"} | ({"ARITY"} if int(run[0]) in (1, 2, 3) else set())
            terminals |= {"COUNT"} if int(run[0]) >= 1 else set()
        elif run and re.fullmatch("all|true|false|not|and|or|relation|values|symmetric", run[0]):
            terminals = {run[0]}
        elif run and re.fullmatch("[a-z].*", run[0]):
            terminals = {"NAME"}
        elif sign:
            run = sign
            terminals = {sign[0]}
        elif text[place] == "\n":
            run = "\n"
            terminals = {"LINE"}
        else:
            return found + [(set(), place)]
        found.append((terminals, place))
        place += len(run[0])
    return found + [({"END"}, len(text))]


def closed(states, chart, at):
    """All states that follow from the states at a place, by what may begin and what has ended here."""
    found = set(states)
    queue = list(states)
    while queue:
        left, right, dot, start = queue.pop()
        new = []
        if dot < len(right) and right[dot] in RULES:
            new = [(right[dot], each, 0, at) for each in RULES[right[dot]]]
            # What is empty has ended as soon as it begins.
            if () in RULES[right[dot]]:
                new.append((left, right, dot + 1, start))
        elif dot == len(right):
            before = found if start == at else chart[start]
            new = [
                (l, r, d + 1, s) for l, r, d, s in before if d < len(r) and r[d] == left
            ]
        for state in new:
            if state not in found:
                found.add(state)
                queue.append(state)
    return found


def fault_place(text, start):
    """The place of the first token that cannot follow the tokens before it, or None."""
    chart = [closed([(start, right, 0, 0) for right in RULES[start]], [], 0)]
    for at, (terminals, place) in enumerate(tokens_until_fault(text)):
        passed = [
            (left, right, dot + 1, begun) for left, right, dot, begun in chart[at]
            if dot < len(right) and right[dot] in terminals
        ]
        if not passed:
            return place
        chart.append(closed(passed, chart, at + 1))
    return None


def spaced(tokens, chance):
    """The text of tokens, with any number of spaces between them where they do not need one."""
    text = ""
    for token in tokens:
        needed = text and re.match("[A-Za-z0-9_]", token) and re.match("[A-Za-z0-9_]", text[-1])
        text += " " * (chance.choice([0, 0, 0, 1, 2]) + bool(needed)) + token
    return text + " " * chance.randrange(2)


def formula_tokens(formula, names, chance, extra):
    """The tokens of a formula and the part of the grammar that it is; brackets stand where needed, or oftener."""
    head = formula[0]
    if head in ("true", "false"):
        found, level = [head], "atom"
    elif head == "is":
        found, level = [formula[1], "("], "atom"
        for variable in formula[2]:
            found += [names[variable], ","]
        found[-1:] = [")", "=", "0" * chance.randrange(3) + str(formula[3])]
    elif head == "not":
        found, level = ["not"] + operand(formula[1], ["denied", "atom"], names, chance, extra), "denied"
    else:
        sign, level, left, right = {
            "same": ("<->", "same", ["same", "implied", "either", "both", "denied", "atom"], None),
            "implies": ("->", "implied", ["either", "both", "denied", "atom"], ["implied"]),
            "or": ("or", "either", ["either", "both", "denied", "atom"], None),
            "and": ("and", "both", ["both", "denied", "atom"], None),
        }[head]
        right = left[1:] if right is None else right + left
        found = operand(formula[1], left, names, chance, extra) + [sign]
        found += operand(formula[2], right, names, chance, extra)
    if chance.random() < extra:
        found, level = ["("] + found + [")"], "atom"
    return found, level


def operand(formula, levels, names, chance, extra):
    """The tokens of a formula where one of these parts of the grammar can stand without brackets."""
    found, level = formula_tokens(formula, names, chance, extra)
    return found if level in levels else ["("] + found + [")"]
