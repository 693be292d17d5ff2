"""Build files as texts: read with faults placed, told as trees, compared, and printed in one form."""
