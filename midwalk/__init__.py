"""Midwalk: what is left by loops over lists that change while a loop goes through them."""
