"""Loanplan: what is left of a loan, day by day."""
