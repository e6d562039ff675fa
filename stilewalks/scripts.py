"""Rooms, rows and scripts, and the texts of scripts."""

from stilewalks.errors import BadRow, BadScript, BadText, TooLong
from stilewalks.rooms import beginning, is_whole, is_step, neighbour, room_plus, room_times

LONGEST_ROW = 400


def is_room(r, thing):
    """Whether any value is a room."""
    return isinstance(thing, tuple) and len(thing) == r and all([is_whole(item) for item in thing])


def is_row(r, thing):
    """Whether any value is a row."""
    return isinstance(thing, tuple) and all([is_step(r, item) for item in thing])


def is_script(r, thing):
    """Whether any value is a script."""
    # A list of what is still to be looked at, not recursion: texts can be nested some hundred deep.
    waiting = [thing]
    while waiting:
        part = waiting.pop()
        if is_step(r, part):
            continue
        if not is_bracket(part):
            return False
        waiting.extend(list(scripts_within(part)))
    return True


def is_bracket(thing):
    """Whether any value is a script, as far as can be told without looking at the scripts within it."""
    if not isinstance(thing, tuple) or len(thing) == 0:
        return False
    word = thing[0]
    if word == "again":
        return len(thing) == 3 and is_whole(thing[1]) and thing[1] >= 0
    if word == "back":
        return len(thing) == 2
    if word == "around":
        return len(thing) == 3
    return word == "row"


def scripts_within(bracket):
    """The scripts that stand directly within a bracket."""
    return bracket[2:] if bracket[0] == "again" else bracket[1:]


def check_script(r, script):
    """Raises BadScript for any value that is no script."""
    if not is_script(r, script):
        raise BadScript(script)


def check_row(r, row):
    """Raises BadRow for any value that is no row."""
    if not is_row(r, row):
        raise BadRow(row)


def end_of(r, script):
    """The end of a script, told without walking."""
    check_script(r, script)
    return script_end(r, script)


def script_end(r, script):
    """The end of what is known to be a script."""
    if is_whole(script):
        return neighbour(beginning(r), script)
    word = script[0]
    if word == "again":
        return room_times(script[1], script_end(r, script[2]))
    if word == "back":
        return room_times(-1, script_end(r, script[1]))
    if word == "around":
        # What is done ahead is undone behind, so it leads nowhere.
        return script_end(r, script[2])
    end = beginning(r)
    for part in script[1:]:
        end = room_plus(end, script_end(r, part))
    return end


def length_of(r, script):
    """The number of steps of a script, told without walking."""
    check_script(r, script)
    return script_length(script)


def script_length(script):
    """The length of what is known to be a script."""
    if is_whole(script):
        return 1
    if script[0] == "again":
        return script[1] * script_length(script[2])
    if script[0] == "around":
        return 2 * script_length(script[1]) + script_length(script[2])
    length = 0
    for part in script[1:]:
        length += script_length(part)
    return length


def row_of(r, script):
    """The row of a script that has at most 400 steps."""
    check_script(r, script)
    length = script_length(script)
    if length > LONGEST_ROW:
        raise TooLong(length)
    return script_row(script)


def script_row(script):
    """The row of what is known to be a script, and not too long."""
    if is_whole(script):
        return (script,)
    word = script[0]
    if word == "again":
        return repeated_row(script)
    if word == "back":
        return backwards(script_row(script[1]))
    if word == "around":
        ahead = script_row(script[1])
        return ahead + script_row(script[2]) + backwards(ahead)
    row = []
    for part in script[1:]:
        row.extend(list(script_row(part)))
    return tuple(row)


def repeated_row(script):
    """The row of a bracket "again"."""
    # Without steps the block may be far too long to be written out, or be done more often than Python
    # can repeat a tuple, even an empty one.
    if script_length(script) == 0:
        return ()
    return script_row(script[2]) * script[1]


def backwards(row):
    """What is known to be a row, undone."""
    return tuple([-step for step in row[::-1]])


def script_text(r, script):
    """The text of a script."""
    check_script(r, script)
    return text_within(script)


def text_within(part):
    """The text of what is known to be a script, or is the number or the word of a bracket."""
    if not isinstance(part, tuple):
        return str(part)
    return "(" + " ".join([text_within(item) for item in part]) + ")"


def read_script(r, text):
    """The script with a text."""
    if not isinstance(text, str):
        raise BadText(0)
    thing = read_brackets(text)
    if not is_script(r, thing):
        raise BadText(0)
    return thing


def read_brackets(text):
    """The integer, or the tuple of words, integers and such tuples, that a text writes; None if it writes none.

    Between two blanks of a text stands just one opening bracket with its word, or one integer, and behind
    it any number of closing brackets. Whether the words and integers make a script is left to is_script.
    """
    opened = [[]]
    for piece in text.split(" "):
        head = piece.rstrip(")")
        if head.startswith("("):
            opened.append([head[1:]])
        elif is_number_text(head):
            opened[-1].append(int(head))
        else:
            return None
        for _ in range(len(piece) - len(head)):
            if len(opened) == 1:
                return None
            bracket = tuple(opened.pop())
            opened[-1].append(bracket)
    if len(opened) > 1 or len(opened[0]) != 1:
        return None
    return opened[0][0]


def is_number_text(text):
    """Whether a string is an integer as Python writes it."""
    digits = text.removeprefix("-")
    if not digits.isascii() or not digits.isdigit():
        return False
    return text == "0" or not digits.startswith("0")


def row_end(r, row):
    """The end of a row."""
    check_row(r, row)
    end = beginning(r)
    for step in row:
        end = neighbour(end, step)
    return end


def undone_row(r, row):
    """The row that undoes a row."""
    check_row(r, row)
    return backwards(row)


def reduced_row(r, row):
    """The row without steps that stand beside their opposites."""
    check_row(r, row)
    kept = []
    for step in row:
        if kept and kept[-1] == -step:
            kept.pop()
        else:
            kept.append(step)
    return tuple(kept)
