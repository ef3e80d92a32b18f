"""Tapeproof: small machines on an endless row, and papers that show that they never stop."""
