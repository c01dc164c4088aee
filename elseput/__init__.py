"""Elseput: which locks keep put-or-change statements right."""
