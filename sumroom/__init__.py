"""Sumroom: sums of letters, of which some are told to be nothing."""
