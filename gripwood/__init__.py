"""Gripwood: blocks of wood laid into one another, and what of them straight pulls can part."""
