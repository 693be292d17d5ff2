"""The calls: each takes texts as lists of bytes and gives back a list of whole numbers."""

from buildtext.comparing import are_same
from buildtext.measuring import measures_of
from buildtext.naming import told_names
from buildtext.numbering import numbers_of
from buildtext.reading import read_text
from buildtext.refusals import Refusal, RoomFault
from buildtext.renaming import check_names, exchange_name
from buildtext.scoping import told_free_names
from buildtext.statement_form import plain_form

MOST_PRINTED = 8192

# What the refusal of a second text is less than that of a first one.
LESS_FOR_SECOND = 20


def where(text):
    try:
        read_text(text)
    except Refusal as fault:
        return [fault.number, fault.position]
    return [0, 0]


def plain(text):
    return answered(text, form_with_room)


# 0 and what is told of the text's tree, or the refusal alone.
def answered(text, told_of):
    try:
        return [0] + told_of(read_text(text))
    except Refusal as fault:
        return [-fault.number]


def form_with_room(file_tree):
    form = plain_form(file_tree)
    if len(form) > MOST_PRINTED:
        raise RoomFault()
    return form


def tree(text):
    return answered(text, numbers_of)


def same(a, b):
    try:
        first = read_text(a)
    except Refusal as fault:
        return [-fault.number]
    try:
        second = read_text(b)
    except Refusal as fault:
        return [-fault.number - LESS_FOR_SECOND]
    if are_same(first, second):
        return [1]
    return [0]


def names(text):
    return answered(text, told_names)


def free(text):
    return answered(text, told_free_names)


def rename(text, old, new):
    try:
        check_names(old, new)
        file_tree = read_text(text)
        exchange_name(file_tree, old, new)
        return [0] + form_with_room(file_tree)
    except Refusal as fault:
        return [-fault.number]


def size(text):
    try:
        return measures_of(read_text(text))
    except Refusal as fault:
        return [-fault.number]
