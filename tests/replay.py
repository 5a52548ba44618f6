"""Doing the events of a history in a book."""

from countsheld.books import Book
from countsheld.errors import Refused


def replayed(desk, history):
    """Return the book behind the history."""
    book = Book(desk)
    for event in history:
        do_event(book, event)
    return book


def do_event(book, event):
    word, *told = event
    try:
        if word == "owner":
            book.add_owner(*told)
        elif word == "come":
            book.come(*told)
        elif word == "leave":
            book.leave(*told)
        elif word == "call":
            book.begin(told[0], told[1], row=told[2], other=told[3], picks=told[4])
        else:
            book.call(told[0]).go_on(other=told[1], picks=told[2])
    except Refused:
        pass
