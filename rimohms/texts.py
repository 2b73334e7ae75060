"""Texts of nets."""

from rimohms.drawing import check_net
from rimohms.errors import TextError
from rimohms.ratio import ratio

MOST_DIGITS = 9


def parse_net(text):
    """Returns the net of a text. Raises TextError for a wrong line, and NetError if the net is no drawing."""
    rim = 0
    turns = []
    amounts = []
    lines = text.split("\n")
    for at, line in enumerate(lines, start=1):
        words = words_of(line, at)
        if not words:
            continue
        if words[0] == "rim" and rim == 0:
            rim = above_zero(only_word(words, at), at)
        elif words[0] == "node" and rim > 0 and not amounts:
            turns.append(tuple([number_of(word, at) for word in words[1:]]))
        elif words[0] == "edge" and rim > 0:
            amounts.append(amount_of(only_word(words, at), at))
        else:
            raise TextError(at)
    if rim == 0:
        raise TextError(len(lines), "no line has a word")
    net = (rim, tuple(turns), tuple(amounts))
    check_net(net)
    return net


def words_of(line, at):
    """Returns the list of the words of line number at, without its comment. Raises TextError."""
    for letter in line:
        if letter < " " or letter > "~":
            raise TextError(at, "a character that no text of a net has")
    return line.partition("#")[0].split()


def only_word(words, at):
    """Returns the one word behind the first one. Raises TextError if there is none or more."""
    if len(words) != 2:
        raise TextError(at, "not just one word behind the first one")
    return words[1]


def number_of(word, at):
    """Returns the number that a word tells. Raises TextError."""
    if len(word) > MOST_DIGITS or not word.isdigit():
        raise TextError(at, "not a number of one to nine digits")
    return int(word)


def above_zero(word, at):
    """Returns the number above 0 that a word tells. Raises TextError."""
    number = number_of(word, at)
    if number == 0:
        raise TextError(at, "a number that is not above 0")
    return number


def amount_of(word, at):
    """Returns the ratio of T/B or T. Raises TextError."""
    top, slash, bottom = word.partition("/")
    if slash == "":
        return ratio(above_zero(top, at), 1)
    return ratio(above_zero(top, at), above_zero(bottom, at))


def show_net(net):
    """Returns the text of a net."""
    rim, turns, amounts = net
    lines = [f"rim {rim}"]
    for turn in turns:
        lines.append(" ".join(["node", *[str(dart) for dart in turn]]))
    for amount in amounts:
        lines.append(f"edge {shown_amount(amount)}")
    return "\n".join(lines)


def shown_amount(amount):
    """Returns an amount as T or T/B."""
    top, bottom = amount
    if bottom == 1:
        return all_digits(top)
    return f"{all_digits(top)}/{all_digits(bottom)}"


def all_digits(number):
    """Returns all digits of a number above 0."""
    blocks = []
    # In blocks, because str takes no number of more than 4300 digits.
    while number >= 10 ** 60:
        number, low = divmod(number, 10 ** 60)
        blocks.append(str(low).zfill(60))
    blocks.append(str(number))
    return "".join(reversed(blocks))
