package model

import (
	"strconv"
	"strings"
)

// firstWord is what a net's text begins with.
const firstWord = "in"

// longest is how many digits a number in a text may have.
const longest = 4

func wordsOf(text string) []string { return strings.FieldsFunc(text, isBlank) }

func isBlank(r rune) bool { return r == 32 || r == 9 || r == 10 }

// netOf reads words; whether the numbers may be is not asked here.
func netOf(words []string) (Net, bool) {
	if len(words) == 0 || words[0] != firstWord {
		return Net{}, false
	}
	in, rest := numbersAhead(words[1:], 2)
	if len(in) == 0 {
		return Net{}, false
	}
	n := Net{In: in}
	for len(rest) > 0 {
		k, ok := kindOf(rest[0])
		if !ok {
			return Net{}, false
		}
		var numbers []int
		numbers, rest = numbersAhead(rest[1:], k.count)
		if len(numbers) != k.count {
			return Net{}, false
		}
		n.Layers = append(n.Layers, layerOf(k, numbers))
	}
	return n, true
}

// numbersAhead reads numbers, at most so many, and tells the words behind them.
func numbersAhead(words []string, most int) ([]int, []string) {
	var numbers []int
	for len(words) > 0 && len(numbers) < most {
		v, ok := numberOf(words[0])
		if !ok {
			break
		}
		numbers = append(numbers, v)
		words = words[1:]
	}
	return numbers, words
}

func numberOf(word string) (int, bool) {
	if len(word) == 0 || len(word) > longest || len(word) > 1 && word[0] == '0' {
		return 0, false
	}
	v := 0
	for i := range len(word) {
		if word[i] < '0' || word[i] > '9' {
			return 0, false
		}
		v = v*10 + int(word[i]-'0')
	}
	return v, true
}

// layerOf takes the kind's own name: a piece of the text would keep all of it.
func layerOf(k kind, numbers []int) Layer {
	var both [2]int
	copy(both[:], numbers)
	return Layer{Kind: k.name, A: both[0], B: both[1]}
}

func written(n Net) string {
	words := []string{firstWord}
	for _, side := range n.In {
		words = append(words, strconv.Itoa(side))
	}
	for _, l := range n.Layers {
		k, _ := kindOf(l.Kind)
		words = append(words, k.name)
		for i, v := range [2]int{l.A, l.B} {
			if i < k.count {
				words = append(words, strconv.Itoa(v))
			}
		}
	}
	return strings.Join(words, " ")
}
