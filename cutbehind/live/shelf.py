"""Shelves: texts under names, cut by one cutter while they are edited."""

from cutbehind.base.checks import check_count, check_text
from cutbehind.base.signs import is_text
from cutbehind.bounds.excess import greatest_excess
from cutbehind.cuts.cutters import check_cutter
from cutbehind.errors import InvalidOperation, InvalidText, NothingToUndo, TooFar, TooMany, UnknownText
from cutbehind.pairs.edits import cuts_compared, edited

MAX_TEXTS = 50
MAX_NAME = 8


def _is_name(value):
    return is_text(value) and 1 <= len(value) <= MAX_NAME


def _check_texts(book, texts):
    """Refuses what is not a dict from names to texts over the book, or too large."""
    if texts is None:
        return
    if not isinstance(texts, dict):
        raise InvalidText("a dict from names to texts is needed")
    for name, text in texts.items():
        if not _is_name(name) or not book.accepts(text):
            raise InvalidText("a name or a text is not one")
    if len(texts) > MAX_TEXTS:
        raise TooMany(MAX_TEXTS)


def _check_call(call):
    """Refuses what surely cannot be called."""
    if call is None or isinstance(call, (int, str, tuple, list, dict)):
        raise InvalidOperation("a function is needed")


class Entry:
    """A text on a shelf, with the price of its cut and the amount by which the cutter is behind; it never changes."""

    def __init__(self, cutter, text):
        self.signs = text
        self.cost = cutter.price(text)
        self.amount = cutter.behind(text)


class Group:
    """A block whose changes count as one, and which leaves nothing behind if it ends by an error."""

    def __init__(self, shelf):
        self._shelf = shelf
        self._entries = None
        self._done = None
        self._undone = None

    def __enter__(self):
        self._shelf._begin_block()
        self._entries = self._shelf._entries
        self._done = self._shelf._done
        self._undone = self._shelf._undone
        return self._shelf

    def __exit__(self, kind, value, trace):
        shelf = self._shelf
        shelf._block = None
        if kind is not None:
            shelf._entries = self._entries
            shelf._done = self._done
            shelf._undone = self._undone


class Shelf:
    """Texts under names, cut by one cutter.

    A change replaces the dict of entries, so that a group can bring an earlier one back. What can be taken back and
    made again are tuples of changes; a change is a name with the entries before and behind it, of which one can be
    None. The block is None, or the tuple of the changes in the block of a group.
    """

    def __init__(self, cutter, *, texts=None):
        check_cutter(cutter)
        _check_texts(cutter.book, texts)
        self._cutter = cutter
        self._watchers = ()
        self._done = ()
        self._undone = ()
        self._block = None
        entries = {}
        for name in sorted(texts or {}):
            entries[name] = Entry(cutter, texts[name])
            self._check_amount(entries[name].amount)
        self._entries = entries

    def _most_allowed(self):
        """The greatest amount by which the cutter may be behind on a text, or None."""
        return None

    def _check_amount(self, amount):
        most = self._most_allowed()
        if most is not None and amount > most:
            raise TooFar(amount)

    def _entry_of(self, name):
        if name not in self:
            raise UnknownText(name)
        return self._entries[name]

    def _begin_block(self):
        """Begins the block of a group."""
        if self._block is not None:
            raise InvalidOperation("a block has begun")
        self._block = ()

    def _place(self, name, entry):
        """Puts an entry under the name, or removes it, and tells the watchers."""
        entries = {**self._entries, name: entry}
        self._entries = {known: entries[known] for known in sorted(entries) if entries[known] is not None}
        for call in self._watchers:
            call(name, None if entry is None else entry.amount)

    def _change(self, name, entry):
        """Makes a change that can be taken back."""
        change = (name, self._entries.get(name), entry)
        # In a block all changes so far are the last ones that can be taken back.
        earlier = self._done[:-1] if self._block else self._done
        changes = (self._block or ()) + (change,)
        if self._block is not None:
            self._block = changes
        self._done = earlier + (changes,)
        self._undone = ()
        self._place(name, entry)

    def put(self, name, text):
        """Adds or replaces a text."""
        if not _is_name(name):
            raise InvalidText("a name has one to eight letters")
        check_text(self._cutter.book, text)
        if name not in self and len(self._entries) == MAX_TEXTS:
            raise TooMany(MAX_TEXTS)
        entry = Entry(self._cutter, text)
        self._check_amount(entry.amount)
        self._change(name, entry)

    def __setitem__(self, name, text):
        self.put(name, text)

    def drop(self, name):
        """Removes a text."""
        self._entry_of(name)
        self._change(name, None)

    def edit(self, name, start, stop, signs):
        """Replaces a part of a text; what that does to its cut."""
        text = self._entry_of(name).signs
        changed = edited(self._cutter.book, text, start, stop, signs)
        entry = Entry(self._cutter, changed)
        self._check_amount(entry.amount)
        compared = cuts_compared(self._cutter.cut(text), self._cutter.cut(changed))
        self._change(name, entry)
        return compared

    def __getitem__(self, name):
        if name not in self:
            raise UnknownText(name)
        return self._entries[name].signs

    def cut(self, name):
        """The cut of a text."""
        return self._cutter.cut(self._entry_of(name).signs)

    def price(self, name):
        """The price of the cut of a text."""
        return self._entry_of(name).cost

    def behind(self, name):
        """The amount by which the cutter is behind on a text."""
        return self._entry_of(name).amount

    @property
    def cutter(self):
        """The cutter that cuts the texts."""
        return self._cutter

    @property
    def names(self):
        """The names of the texts, ascending."""
        return tuple(self._entries)

    @property
    def texts(self):
        """A dict from the names to the texts."""
        return {name: entry.signs for name, entry in self._entries.items()}

    @property
    def total(self):
        """The price of all cuts."""
        return sum([entry.cost for entry in self._entries.values()])

    @property
    def lag(self):
        """By how much the cutter is behind on all texts together."""
        return sum([entry.amount for entry in self._entries.values()])

    def __contains__(self, value):
        # A value that cannot be hashed must not reach the dict.
        return isinstance(value, str) and value in self._entries

    def __len__(self):
        return len(self._entries)

    def __iter__(self):
        return iter(self._entries)

    def __eq__(self, other):
        return (
            isinstance(other, Shelf) and type(self) is type(other) and self._cutter == other._cutter
            and self.texts == other.texts and self._most_allowed() == other._most_allowed()
        )

    def __str__(self):
        return f"shelf of {len(self._entries)} texts for {self.total}"

    def watch(self, call):
        """Adds a watcher, which is called with the name and the amount after each change."""
        _check_call(call)
        self._watchers = self._watchers + (call,)

    def unwatch(self, call):
        """Removes the first such watcher."""
        _check_call(call)
        if call not in self._watchers:
            raise InvalidOperation("there is no such watcher")
        index = self._watchers.index(call)
        self._watchers = self._watchers[:index] + self._watchers[index + 1:]

    def undo(self, *, many=1):
        """Takes back so many changes; how many can still be taken back."""
        check_count(many)
        self._check_no_block()
        if many > len(self._done):
            raise NothingToUndo(many)
        taken = self._done[len(self._done) - many:]
        for changes in taken[::-1]:
            for name, before, entry in changes[::-1]:
                self._place(name, before)
            self._done = self._done[:-1]
            self._undone = self._undone + (changes,)
        return len(self._done)

    def redo(self, *, many=1):
        """Makes so many changes again that were taken back; how many can be taken back then."""
        check_count(many)
        self._check_no_block()
        if many > len(self._undone):
            raise NothingToUndo(many)
        taken = self._undone[len(self._undone) - many:]
        for changes in taken[::-1]:
            for name, before, entry in changes:
                self._place(name, entry)
            self._done = self._done + (changes,)
            self._undone = self._undone[:-1]
        return len(self._done)

    def _check_no_block(self):
        if self._block is not None:
            raise InvalidOperation("a block has begun")

    def group(self):
        """A block whose changes count as one."""
        self._check_no_block()
        return Group(self)

    def together(self, call):
        """What call(shelf) gives in a block whose changes count as one."""
        _check_call(call)
        with self.group() as same:
            return call(same)


class Guard:
    """A greatest amount by which a cutter may be behind on a text."""

    def __init__(self, most):
        check_count(most)
        self._most = most

    @property
    def most(self):
        """The amount."""
        return self._most

    def allows(self, cutter, text):
        """Whether the cutter is behind by at most this amount on the text."""
        check_cutter(cutter)
        return cutter.behind(text) <= self._most

    @staticmethod
    def is_needless(cutter, most):
        """Whether the cutter is behind by at most this amount on all texts."""
        check_cutter(cutter)
        check_count(most)
        greatest = greatest_excess(cutter)
        return greatest is not None and greatest <= most


class GuardedShelf(Shelf, Guard):
    """A shelf that refuses texts on which its cutter is too far behind."""

    def __init__(self, cutter, *, most, texts=None):
        check_cutter(cutter)
        Guard.__init__(self, most)
        Shelf.__init__(self, cutter, texts=texts)

    def _most_allowed(self):
        return self._most
