"""Tables kept by columns, pressed, put together late, asked as of a moment."""
