"""Build files as texts: read with faults placed, told as trees, printed in one form, their names exchanged."""
