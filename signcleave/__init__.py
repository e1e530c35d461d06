"""Signcleave: houses of signs, their rings and cuts, and what is best in them."""
