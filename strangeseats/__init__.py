"""Strangeseats: machines that remember a few of endless names, in houses that grow together."""
