"""Changes: what is otherwise from one day of knowing to another one, number by number."""

from loanroll.accounts import owed
from loanroll.books import Book
from loanroll.kinder import is_kinder


def rows_by_number(roll, known):
    return dict([(told[0], told[1].row()) for told in roll.standing(known)])


def changed(roll, before, behind):
    one = rows_by_number(roll, before)
    other = rows_by_number(roll, behind)
    return [number for number in sorted(set(one) | set(other)) if one.get(number) != other.get(number)]


def put_as_in(other, standing, number):
    if number in other:
        standing[number] = other[number]
    else:
        standing.pop(number)


def with_standing(book, standing):
    # In the order of their numbers, as a roll's book has them: of several rates of one day the last one counts.
    return Book(book.count(), book.grace(), [standing[number] for number in sorted(standing)])


def differences(roll, day, before, behind):
    book = roll.book(before)
    standing = dict(roll.standing(before))
    other = dict(roll.standing(behind))
    owed_ahead = owed(book, day)
    told = []
    for number in changed(roll, before, behind):
        put_as_in(other, standing, number)
        owed_then = owed(with_standing(book, standing), day)
        told.append((number, owed_then - owed_ahead))
        owed_ahead = owed_then
    return told


def put_kinder(roll, before, behind):
    return is_kinder(roll.book(behind), roll.book(before))
