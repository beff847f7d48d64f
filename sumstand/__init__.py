"""Sumstand: a file store on shelves with sums, without a log."""
