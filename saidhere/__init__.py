"""Saidhere: marks on the places of rows of letters, said in four tongues and led between them."""
