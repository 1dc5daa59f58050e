"""A desk: a live bench that is worked and asked by lines of text."""

from keptpartings.bench import Bench
from keptpartings.codes import best_code
from keptpartings.errors import Alone, PartError, TooGreat
from keptpartings.kept import drawn, led_table
from keptpartings.ladders import width
from keptpartings.shown import alike, parting_word
from keptpartings.sides import is_split
from keptpartings.texts import is_figure, machine_text, read_machine, spaced

BETWEEN = " / "
DONE = "done"
NO = "no"


def lead(bench, numbers):
    """A letter is led from a standing to another one."""
    standing, letter, goal = numbers
    bench.lead(standing, letter, goal)


def show(bench, numbers):
    """A standing shows a value."""
    standing, value = numbers
    bench.show(standing, value)


def put(bench, numbers):
    """A standing that shows a value is put behind the others."""
    bench.put(numbers[0])


def take(bench, _):
    """The last standing is taken."""
    bench.take()


def undo(bench, _):
    """The last deed is taken back."""
    bench.undo()


def tell_machine(bench, _):
    """The text of the machine."""
    return machine_text(bench.machine).replace("\n", BETWEEN)


def tell_standings(bench, _):
    """How many standings there are."""
    return str(len(bench.machine[0]))


def tell_kept(bench, numbers):
    """Whether a parting is kept."""
    return "yes" if bench.is_kept(numbers) else "not"


def tell_drawn(bench, numbers):
    """The text of the finest kept parting in which two standings are together."""
    one, far = numbers
    return spaced(drawn(bench.machine, one, far))


def tell_many(bench, _):
    """How many kept partings there are."""
    return str(len(bench.kept()))


def tell_front(bench, numbers):
    """The text of the led table of a kept parting."""
    return BETWEEN.join([spaced(goals) for goals in led_table(bench.machine, numbers)])


def tell_split(bench, _):
    """Whether the machine is split or bound, or has one standing alone."""
    try:
        return "split" if is_split(bench.machine) else "bound"
    except Alone:
        return "alone"


def tell_width(bench, _):
    """The width."""
    return str(width(bench.machine))


def tell_code(bench, _):
    """The texts of the bits of the best code."""
    bits = [spaced(bit) for bit in best_code(bench.machine)]
    return BETWEEN.join(bits) if bits else "none"


def tell_alike(bench, _):
    """The text of the parting of alike standings."""
    return spaced(alike(bench.machine))


def tell_word(bench, numbers):
    """The letters of a shortest word that parts two standings."""
    one, far = numbers
    word = parting_word(bench.machine, one, far)
    if word is None:
        return "none"
    return spaced(word) if word else "empty"


DEEDS = {"lead": lead, "show": show, "put": put, "take": take, "undo": undo}
QUESTIONS = {
    "machine": tell_machine, "standings": tell_standings, "kept": tell_kept, "drawn": tell_drawn, "many": tell_many,
    "front": tell_front, "split": tell_split, "width": tell_width, "code": tell_code, "alike": tell_alike,
    "word": tell_word,
}
# How many numbers stand behind a word; behind the words of deeds and questions that are not here there are none.
NUMBERS = {"lead": 3, "show": 2, "put": 1, "drawn": 2, "word": 2}
# Behind these stand the numbers of a parting, of which the machine tells how many there must be.
OF_PARTINGS = ("kept", "front")


def answer(bench, line):
    """The answer to any value, which may be a line."""
    if not isinstance(line, str):
        return NO
    word, *rest = line.split(" ")
    if not all([is_figure(one) for one in rest]):
        return NO
    if word not in OF_PARTINGS and len(rest) != NUMBERS.get(word, 0):
        return NO
    numbers = tuple([int(one) for one in rest])
    if word in QUESTIONS:
        question = QUESTIONS[word]
        return question(bench, numbers)
    if word in DEEDS:
        deed = DEEDS[word]
        deed(bench, numbers)
        return DONE
    return NO


class Desk:
    """A desk."""

    def __init__(self, text):
        self._bench = Bench(read_machine(text))

    @property
    def bench(self):
        """The very bench that answers."""
        return self._bench

    def say(self, line):
        """The answer to a line; "no" to what is none of those that are answered, or cannot be done or told."""
        try:
            return answer(self._bench, line)
        except (PartError, TooGreat, Alone):
            return NO
