"""Ditherdepths: what ordered dither screens of any depth put on paper."""
