"""The form of the commands of the console.

A command is told as a tuple (word, values): names and texts are strings, marks and numbers
integers.
"""

from everypairing.checks import is_text
from everypairing.errors import InvalidCommand

SMALL_LETTERS = "abcdefghijklmnopqrstuvwxyz"
DIGITS = "0123456789"
LONGEST_NAME = 8
MOST_DIGITS = 4
BETWEEN = "; "
RUN = "run "

# Commands with a name and a text, and those with a name alone.
MAKING = ("web", "pinned")
NAMING = ("use", "twin", "forget", "same")
# The least and the greatest number of marks, or numbers, behind each other word.
NUMBERS = {
    "leave": (1, 1), "tie": (2, 2), "untie": (2, 2), "stretch": (2, 2), "choose": (2, 2),
    "release": (1, 1), "pin": (2, 2), "unpin": (2, 2),
    "undo": (0, 0), "begin": (0, 0), "keep": (0, 0), "drop": (0, 0),
    "show": (0, 0), "marks": (0, 0), "pairing": (0, 0), "alone": (0, 0), "lots": (0, 0),
    "sizes": (0, 0), "row": (1, 1), "may": (1, 2), "pins": (0, 0), "where": (0, 0),
    "paper": (0, 0), "journal": (0, 0),
}
# As above, but for these any greater number of marks will do.
LISTS = {"come": 0, "double": 1}


def told_run(command):
    """The list of the commands of a run; None if any value is no run but another command."""
    if not is_text(command):
        raise InvalidCommand("no string")
    if not command.startswith(RUN):
        return None
    return [told_command(part) for part in command[len(RUN):].split(BETWEEN)]


def told_command(text):
    """The command, none of them a run, that the text tells."""
    words = text.split(" ")
    if not _is_right(words):
        raise InvalidCommand("no command")
    word = words[0]
    if word in MAKING or word in NAMING:
        return (word, tuple(words[1:]))
    return (word, tuple([int(number) for number in words[1:]]))


def command_of(deed):
    """The command of a deed."""
    words = [deed[0]]
    for value in deed[1:]:
        words.extend(value if isinstance(value, tuple) else (value,))
    return " ".join([str(part) for part in words])


def _is_right(words):
    """Whether the words are those of a command."""
    word = words[0]
    rest = words[1:]
    if word in MAKING:
        return len(rest) == 2 and _is_name(rest[0]) and rest[1] != ""
    if word in NAMING:
        return len(rest) == 1 and _is_name(rest[0])
    if not all([_is_number(number) for number in rest]):
        return False
    if word in LISTS:
        return len(rest) >= LISTS[word]
    return word in NUMBERS and NUMBERS[word][0] <= len(rest) <= NUMBERS[word][1]


def _is_name(word):
    """Whether the word is 1 to 8 small letters."""
    return 1 <= len(word) <= LONGEST_NAME and all([sign in SMALL_LETTERS for sign in word])


def _is_number(word):
    """Whether the word is 1 to 4 digits, without needless zeros ahead."""
    if not 1 <= len(word) <= MOST_DIGITS or not all([sign in DIGITS for sign in word]):
        return False
    return word[0] != "0" or word == "0"
