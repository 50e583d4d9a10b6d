"""Fewthings: small worlds sought for a text of sayings."""
