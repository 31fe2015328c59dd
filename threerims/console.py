"""A console: commands on a catalogue, and their results, as lines of text."""

from threerims.catalogue import Catalogue, is_name, read_number, write_words
from threerims.errors import (
    DuplicateName,
    InvalidPartition,
    InvalidPrime,
    InvalidSize,
    LimitExceeded,
    NothingToUndo,
    SizeMismatch,
    UnknownName,
)
from threerims.products import dimension

# How many names each command has. Integers follow only in "new" and in "store".
NAMES = {
    "new": 0,
    "store": 1,
    "remove": 1,
    "rename": 2,
    "undo": 0,
    "names": 0,
    "show": 1,
    "dimension": 1,
    "product": 2,
    "contains": 3,
    "realize": 3,
}


def is_command(words):
    """Return whether the words are a command by its form."""
    if words[0] not in NAMES:
        return False
    many = NAMES[words[0]]
    names = words[1:many + 1]
    numbers = words[many + 1:]
    if len(names) < many or not all([is_name(word) for word in names]):
        return False
    if not all([read_number(word) is not None for word in numbers]):
        return False
    if words[0] == "new":
        return len(numbers) == 2
    if words[0] == "store":
        return len(numbers) >= 1
    return len(numbers) == 0


def read_command(value):
    """Return the words of a command, or None if the value is not a command by its form."""
    if not isinstance(value, str):
        return None
    words = value.split(" ")
    return words if is_command(words) else None


def run_store(catalogue, words):
    """Store a partition."""
    numbers = tuple([read_number(word) for word in words[2:]])
    try:
        catalogue.store(words[1], numbers)
    except (InvalidPartition, SizeMismatch, LimitExceeded):
        return "bad partition"
    return "ok"


def run_remove(catalogue, words):
    """Remove a partition."""
    catalogue.remove(words[1])
    return "ok"


def run_rename(catalogue, words):
    """Rename a partition."""
    catalogue.rename(words[1], words[2])
    return "ok"


def run_undo(catalogue, words):
    """Undo the latest change."""
    catalogue.undo()
    return "ok"


def run_names(catalogue, words):
    """Return the names."""
    return write_words(catalogue.names()) if len(catalogue) > 0 else "none"


def run_show(catalogue, words):
    """Return the entries of a partition."""
    return write_words(catalogue.partition(words[1]))


def run_dimension(catalogue, words):
    """Return the dimension of a partition."""
    return str(dimension(catalogue.partition(words[1])))


def run_product(catalogue, words):
    """Return the multiplicities of two partitions."""
    found = catalogue.product(words[1], words[2])
    return "; ".join([write_words(partition + ("x", many)) for partition, many in found])


def run_contains(catalogue, words):
    """Return whether a partition contains another one with the rest."""
    return "yes" if catalogue.contains(words[1], words[2], words[3]) else "no"


def run_realize(catalogue, words):
    """Return how three partitions can be realized."""
    kind, value = catalogue.realize(words[1], words[2], words[3])
    return write_words((kind, value)) if kind == "sums" else kind


ACTIONS = {
    "store": run_store,
    "remove": run_remove,
    "rename": run_rename,
    "undo": run_undo,
    "names": run_names,
    "show": run_show,
    "dimension": run_dimension,
    "product": run_product,
    "contains": run_contains,
    "realize": run_realize,
}


def run_action(catalogue, words):
    """Return the result of a command on a catalogue."""
    action = ACTIONS[words[0]]
    try:
        return action(catalogue, words)
    except UnknownName:
        return "unknown name"
    except DuplicateName:
        return "duplicate name"
    except NothingToUndo:
        return "nothing to undo"
    except LimitExceeded:
        return "limit exceeded"


class Console:
    """Holds at most one catalogue, and executes commands on it."""

    def __init__(self):
        self.catalogue = None

    def _start(self, words):
        """Hold a new catalogue."""
        try:
            self.catalogue = Catalogue(read_number(words[1]), read_number(words[2]))
        except InvalidSize:
            return "bad size"
        except InvalidPrime:
            return "bad prime"
        return "ok"

    def run(self, command):
        """Execute a command, and return its result."""
        words = read_command(command)
        if words is None:
            return "bad command"
        if words[0] == "new":
            return self._start(words)
        if self.catalogue is None:
            return "no catalogue"
        return run_action(self.catalogue, words)
