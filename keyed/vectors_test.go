package keyed

import (
	"bailiff/api"
)

// ofKeys are the sums, by a key, of a flow's key and one byte more, 0 to 4.
// They are of another make, so that a fault of this one can't be in both:
// openssl mac -macopt size:8 -macopt hexkey:KEY -in FILE SipHash, whose eight
// bytes are the sum, the lowest first, and the flow's key was written into the
// file by hand.
var ofKeys = []struct {
	key  [16]byte
	flow api.Flow
	sums [5]uint64
}{
	{keyOf(0), nought4, [5]uint64{0xd5ba21a374311e86, 0xd0c135b35c08538c, 0xc5e8adae9b6865e6, 0xea062850dfbcc9b7, 0x5aa012f4db6d1523}},
	{keyOf(0), nought6, [5]uint64{0xa18d7271f80394ba, 0xa6ac8e2c8f04e349, 0x4bd4b43f7fdb6a23, 0x430790005a873fe9, 0xfd7b73b57d8426e7}},
	{keyOf(0), full4, [5]uint64{0x88438475e09c5150, 0x77e642d5e1654b18, 0x6ab28bee3f8cd7c0, 0x129288cdc2b3a5c4, 0x2696c8fed9196764}},
	{keyOf(0), full6, [5]uint64{0xa0ab472a10d249a9, 0xbaee82207f25a3c3, 0xf639cf40de466089, 0xc8024c498236117b, 0x51bb7d33cdee8ca6}},
	{keyOf(0), flow4, [5]uint64{0x82306307f230165f, 0xd89ca9e5edab4d41, 0xf20179db6c6202a4, 0x767284b92789f020, 0x6b7d09937d77d31d}},
	{keyOf(0), flow6, [5]uint64{0x198b5a5701f10ebc, 0xb03f2d72f83f46f1, 0xce8724665ecb5ccb, 0x2e6781c86f4871cd, 0x658ac15a94423d1f}},
	{keyOf(0xff), nought4, [5]uint64{0x72b9c5e95cd60727, 0x624c804a11c91c15, 0xd3997e168ceff7de, 0xaf19011c12e05649, 0x5238bff5d38c834b}},
	{keyOf(0xff), nought6, [5]uint64{0x5167fedf73f3c449, 0x336b89c0a084cd3a, 0x29d422c636b1ec4c, 0xdb26f59da38b4815, 0x992d82aabcc25e50}},
	{keyOf(0xff), full4, [5]uint64{0x5207afd83628c014, 0x6a9d3d5dbaf07ac8, 0xbfcbfed95155dfbd, 0xcd1dfce11e904162, 0x37d5e68045f2193c}},
	{keyOf(0xff), full6, [5]uint64{0x71eb87026556c0a5, 0x4ca6c74235db3397, 0x02eb3c33e05a6075, 0x2e5581126c89d72e, 0x5645bf0d69e12c56}},
	{keyOf(0xff), flow4, [5]uint64{0x0cd2e3cb1b0aa0ea, 0xfb441bbbc8f54ddb, 0x1119a0535c91b85b, 0x73255b38bbb2cf9b, 0xdd959b4118b72ade}},
	{keyOf(0xff), flow6, [5]uint64{0x452daf352cb8db26, 0x3a70143a67b321e4, 0x30c355126bfad9dc, 0x27f1e354952b7127, 0x844d836a122e131f}},
	{upKey, nought4, [5]uint64{0xa78a536d7e5105ea, 0x1d39b07a1fb48701, 0x8a1ad7ba9f769850, 0x3d36bf4965ed1051, 0xafb3938cbf987855}},
	{upKey, nought6, [5]uint64{0x97bc073dca23944d, 0xe24dbf91ae300a67, 0x1b8024d9e59690fe, 0x41cf68adb646accc, 0x1828e48bb7c9b0cf}},
	{upKey, full4, [5]uint64{0x1e1cd955aa58c025, 0xd2bdf26d9e550a2c, 0x3414861d98e67d45, 0xb2865585e86ea884, 0x9d8dd9dc8d436326}},
	{upKey, full6, [5]uint64{0xa65a233e3a9a0af5, 0x364faa1500b0a60f, 0x72225e8222f147e6, 0x16ee15cca2f0838f, 0x295afc549cd5fb38}},
	{upKey, flow4, [5]uint64{0x29f8a47986d99c79, 0x082cfd0db2f0e129, 0x69410e576c2ad69b, 0x2a26dfdea57dde26, 0x6d355c015f6e825a}},
	{upKey, flow6, [5]uint64{0x714c909e1eae81bd, 0xc4117bfb4104a5af, 0x1fe8289e06624650, 0xd04f74eb0183fd7b, 0x9420b0a12ee2cc5d}},
	{otherKey, nought4, [5]uint64{0x59198385496f25f4, 0x7ba3c591051c8e1f, 0xd2cab3e54b9ef21b, 0xca79b5d072f15b87, 0xba4763cf3365930a}},
	{otherKey, nought6, [5]uint64{0x3b735507d29469e3, 0xc2698327580e9ed6, 0x0716a708a368d6ba, 0xf44dcbdfbbaf9070, 0x8348a4ddf22b77a4}},
	{otherKey, full4, [5]uint64{0x840e51f896268cc2, 0x1b377ac68b14d116, 0xb1ce8d3846560a3c, 0xc3031fc3c872fe82, 0x5453acc34b850efc}},
	{otherKey, full6, [5]uint64{0xed1f62a13a431ca0, 0x8eaf9d218e2ca46d, 0xece9af2d342983db, 0xd6129fb5efe7d347, 0xdf93133194c32f2b}},
	{otherKey, flow4, [5]uint64{0x075d0cfb35f76ea3, 0xe3f98ad28dae43e8, 0x7246aaa89cab07ad, 0xbedcf6531a9d5200, 0x28ed97f2b8f83643}},
	{otherKey, flow6, [5]uint64{0x4b07e5c6041d6610, 0x62950d4043cb5dec, 0xd8a2bf066c1df2e7, 0x069b49e0b47a6485, 0xefb01c6d4f67b74c}},
}
