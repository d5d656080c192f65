"""Books, and the letters that come in them."""

from strokeonce.checks import check_book


def letters_in(parts):
    """The letters that stand among the parts of words, each once, ascending."""
    return sorted({part for part in parts if not isinstance(part, str)})


def next_letters(words, letters):
    """The letters that stand in the words of letters, each once, ascending."""
    return letters_in([part for letter in letters for part in words[letter]])


def ages_of_letters(words, parts):
    """For each letter that comes if the parts are those of the start, the first age at which it does."""
    ages = {}
    age = 0
    fresh = letters_in(parts)
    while fresh:
        for letter in fresh:
            ages[letter] = age
        fresh = [letter for letter in next_letters(words, fresh) if letter not in ages]
        age += 1
    return ages


def coming_letters(words, parts):
    """The letters that come if the parts are those of the start, ascending."""
    return sorted(ages_of_letters(words, parts))


def first_ages(book):
    """The letters that come, each with the first age at which it does."""
    check_book(book)
    words, start = book
    return tuple(sorted(ages_of_letters(words, start).items()))
