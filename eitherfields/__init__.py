"""Eitherfields: forms whose rules are decided by pairs."""
