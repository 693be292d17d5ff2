"""Build files as texts: read with faults placed, told as trees, compared, printed in one form; their names."""
