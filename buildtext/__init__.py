"""Build files as texts: read with faults placed, and printed in one form."""
