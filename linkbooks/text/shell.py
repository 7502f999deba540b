"""A shell: it answers commands about a book, and works on it."""

from linkbooks.errors import (
    InvalidBook, InvalidKinds, InvalidNumber, InvalidOperation, InvalidPage, InvalidReader, InvalidRow, NothingToUndo,
    ParseError, Refused, TooMany, UnknownName,
)
from linkbooks.text.commands import answer_to, pledge_text
from linkbooks.text.texts import read_book
from linkbooks.use.bench import Bench


class Shell:
    """A shell over a bench with the book of a text."""

    def __init__(self, text):
        self._bench = Bench(read_book(text))
        self._answered = 0

    def __call__(self, line):
        return self.answer(line)

    def answer(self, line):
        """The answer to a command, or a word for what is wrong with it."""
        try:
            return self._counted(answer_to(self._bench, line))
        except InvalidKinds:
            return "kinds"
        except InvalidReader:
            return "reader"
        except InvalidPage:
            return "page"
        except InvalidBook:
            return "book"
        except InvalidRow:
            return "row"
        except InvalidOperation:
            return "operation"
        except UnknownName:
            return "unknown"
        except ParseError:
            return "line"
        except InvalidNumber:
            return "number"
        except TooMany as many:
            return f"many {many.limit}"
        except NothingToUndo:
            return "undo"
        except Refused as refused:
            return f"refused {pledge_text(refused.pledge)}"

    def _counted(self, told):
        """An answer, which is counted; what is no command is not."""
        if told is None:
            return "what"
        self._answered += 1
        return told

    def bench(self):
        """A twin of the bench."""
        return self._bench.twin()

    def __len__(self):
        return len(range(self._answered))
