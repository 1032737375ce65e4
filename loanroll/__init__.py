"""Loanroll: a loan to the cent at any pair of dates."""
