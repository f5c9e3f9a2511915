"""Stories: deeds and their texts."""

from evenends.deeds import SIZES
from evenends.errors import InvalidText
from evenends.houses import House
from evenends.texts import lines_of


def played(net, deeds):
    """A new house of a net in which deeds were carried out."""
    house = House(net)
    house.do(*deeds)
    return house


def story_text(deeds):
    """The text of deeds."""
    return "\n".join([" ".join([str(part) for part in deed]) for deed in deeds])


def read_story(text):
    """The tuple of the deeds that a text tells."""
    return tuple([read_deed(line) for line in lines_of(text)])


def read_deed(line):
    """The deed that a line tells."""
    word = line.words[0]
    if word not in SIZES:
        raise InvalidText(line.index, 0)
    size = SIZES[word]
    if word == "close":
        parts = [line.count_at(1)]
    else:
        parts = [line.name_at(at) for at in range(1, size)]
    line.end_at(size)
    return (word, *parts)
