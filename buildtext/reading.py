"""Reading a text: its tree, or a refusal."""

from buildtext.cutting import cut
from buildtext.placing import check_placing
from buildtext.reader import Reader
from buildtext.refusals import LongFault
from buildtext.statements import read_file

MOST_BYTES = 4096


def read_text(text):
    if len(text) > MOST_BYTES:
        raise LongFault()
    tree = read_file(Reader(cut(text)))
    check_placing(tree)
    return tree
