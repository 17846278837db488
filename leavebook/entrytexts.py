"""Entries as texts."""

from leavebook.entries import FORMS
from leavebook.errors import NoText
from leavebook.words import read_words, words_text


def entry_text(entry):
    """The entry as a text."""
    return words_text(FORMS[entry[0]], entry)


def read_entry(text):
    """The entry that the text writes, or NoText."""
    return read_words(dict(FORMS), text)


def entries_text(entries):
    """The entries, a line each."""
    return "\n".join([entry_text(entry) for entry in entries])


def read_entries(text):
    """The list of entries that the text writes, or NoText."""
    if not isinstance(text, str):
        raise NoText("no text")
    return [read_entry(line) for line in text.split("\n")] if text else []
