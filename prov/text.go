package prov

import (
	"strconv"
	"strings"

	"firn/api"
)

// noProducts is the text of the sum 0.
const noProducts = "0"

func formatProduct(p api.Product) string {
	if p.Times == 1 && p.Tokens != "" {
		return p.Tokens
	}
	return strconv.Itoa(p.Times) + p.Tokens
}

func format(s []api.Product) string {
	if len(s) == 0 {
		return noProducts
	}
	var texts []string
	for _, p := range s {
		texts = append(texts, formatProduct(p))
	}
	return strings.Join(texts, "+")
}

// Format returns the text of a sum.
func Format(s []api.Product) (string, api.Errno) {
	if !ValidSum(s) {
		return "", api.ErrSum
	}
	return format(s), api.OK
}

// parseProduct returns the Times of a text, 1 if there are none, and what is behind
// them as Tokens, whatever it is.
func parseProduct(text string) (api.Product, bool) {
	tokens := strings.TrimLeft(text, "0123456789")
	digits := strings.TrimSuffix(text, tokens)
	if digits == "" {
		return api.Product{Tokens: tokens, Times: 1}, true
	}
	times, err := strconv.Atoi(digits)
	return api.Product{Tokens: tokens, Times: times}, err == nil
}

// Parse returns the sum of a text.
func Parse(text string) ([]api.Product, api.Errno) {
	if text == noProducts {
		return nil, api.OK
	}
	var s []api.Product
	// One product more than a sum can have shows that there are too many.
	for _, part := range strings.SplitN(text, "+", api.MaxSum+1) {
		p, ok := parseProduct(part)
		if !ok {
			return nil, api.ErrForm
		}
		s = append(s, p)
	}
	// Of all texts that are read as one sum, only its own is right.
	if !ValidSum(s) || format(s) != text {
		return nil, api.ErrForm
	}
	return s, api.OK
}
