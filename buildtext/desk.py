"""The calls: each takes texts as lists of bytes and gives back a list of whole numbers."""

from buildtext.reading import read_text
from buildtext.refusals import Refusal, RoomFault
from buildtext.statement_form import plain_form

MOST_PRINTED = 8192


def where(text):
    try:
        read_text(text)
    except Refusal as fault:
        return [fault.number, fault.position]
    return [0, 0]


def plain(text):
    try:
        return [0] + form_with_room(read_text(text))
    except Refusal as fault:
        return [-fault.number]


def form_with_room(tree):
    form = plain_form(tree)
    if len(form) > MOST_PRINTED:
        raise RoomFault()
    return form
