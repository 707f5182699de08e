"""Neverleapt: shares on a board that cannot be passed over."""
