"""Numbers that several modules agree on."""

GREATEST = 10 ** 30
