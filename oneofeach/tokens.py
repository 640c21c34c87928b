"""Cutting texts into tokens."""

from oneofeach.errors import SyntaxFault

WORDS = ("all", "true", "false", "not", "and", "or", "relation", "values", "symmetric")
SIGNS = ("<->", "->", "(", ")", ",", ":", "=")
DIGITS = "0123456789"
SMALL_LETTERS = "abcdefghijklmnopqrstuvwxyz"
NAME_CHARACTERS = "abcdefghijklmnopqrstuvwxyzABCDEFGHIJKLMNOPQRSTUVWXYZ0123456789_"
MOST_DIGITS = 9


def tokenize(text):
    """The list of the tokens of a text, as tuples (kind, value, place)."""
    tokens = tokens_to_fault(text)
    if tokens[-1][0] == "fault":
        raise SyntaxFault(tokens[-1][2])
    return tokens


def tokens_to_fault(text):
    """The tokens up to the first fault of tokens, which is shown as a last token ("fault", "", place)."""
    tokens = []
    place = 0
    while place < len(text):
        if text[place] == " ":
            place += 1
        else:
            end = end_of_token(text, place)
            if end == place:
                return tokens + [("fault", "", place)]
            tokens.append(token_of(text[place:end], place))
            place = end
    tokens.append(("end", "", place))
    return tokens


def end_of_token(text, place):
    """The place behind the token at the place, or the place itself if no token stands there."""
    if text[place] in NAME_CHARACTERS:
        return end_of_run(text, place)
    if text[place] == "\n":
        return place + 1
    for sign in SIGNS:
        if text.startswith(sign, place):
            return place + len(sign)
    return place


def end_of_run(text, place):
    """The place behind the name, the word or the number at the place, or the place itself."""
    end = place
    while end < len(text) and text[end] in NAME_CHARACTERS:
        end += 1
    return end if text[place] in SMALL_LETTERS or is_number(text[place:end]) else place


def is_number(run):
    """Whether the run consists of digits, and not too many."""
    return len(run) <= MOST_DIGITS and all([character in DIGITS for character in run])


def token_of(run, place):
    """The token that is written by the run."""
    if run == "\n":
        return ("line", "", place)
    if run[0] in DIGITS:
        return ("number", int(run), place)
    if run[0] not in SMALL_LETTERS:
        return ("sign", run, place)
    return ("word" if run in WORDS else "name", run, place)
