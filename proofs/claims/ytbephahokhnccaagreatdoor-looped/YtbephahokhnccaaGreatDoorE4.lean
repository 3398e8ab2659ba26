import Derived.Test.YtbephahokhnccaaGreatDoorXA21toE3
namespace Go.Proofs
open Go.Mark
@[simp] theorem TryQ.func132 : TryQ.prog.funcs[132]? = some Tryz.f132 := qext Tryz.func132 rfl
@[simp] theorem TryQ.func142 : TryQ.prog.funcs[142]? = some Tryz.f142 := qext Tryz.func142 rfl
@[simp] theorem TryQ.func257 : TryQ.prog.funcs[257]? = some Tryz.f257 := qext Tryz.func257 rfl
@[simp] theorem TryQ.func258 : TryQ.prog.funcs[258]? = some Tryz.f258 := qext Tryz.func258 rfl
@[simp] theorem TryQ.func259 : TryQ.prog.funcs[259]? = some Tryz.f259 := qext Tryz.func259 rfl
@[simp] theorem TryQ.func287 : TryQ.prog.funcs[287]? = some Tryz.f287 := qext Tryz.func287 rfl
@[simp] theorem TryQ.func288 : TryQ.prog.funcs[288]? = some Tryz.f288 := qext Tryz.func288 rfl
@[simp] theorem TryQ.func289 : TryQ.prog.funcs[289]? = some Tryz.f289 := qext Tryz.func289 rfl
@[simp] theorem TryQ.func362 : TryQ.prog.funcs[362]? = some Tryz.f362 := qext Tryz.func362 rfl
@[simp] theorem TryQ.func381 : TryQ.prog.funcs[381]? = some Tryz.f381 := qext Tryz.func381 rfl
@[simp] theorem TryQ.func382 : TryQ.prog.funcs[382]? = some Tryz.f382 := qext Tryz.func382 rfl
@[simp] theorem TryQ.func383 : TryQ.prog.funcs[383]? = some Tryz.f383 := qext Tryz.func383 rfl
@[simp] theorem TryQ.func384 : TryQ.prog.funcs[384]? = some Tryz.f384 := qext Tryz.func384 rfl
@[simp] theorem TryQ.func12 : TryQ.prog.funcs[12]? = some Tryz.f12 := qfunc Tryz.func12 (by kernel_rfl)
@[simp] theorem TryQ.func13 : TryQ.prog.funcs[13]? = some Tryz.f13 := qfunc Tryz.func13 (by kernel_rfl)
@[simp] theorem TryQ.func14 : TryQ.prog.funcs[14]? = some Tryz.f14 := qfunc Tryz.func14 (by kernel_rfl)
@[simp] theorem TryQ.func15 : TryQ.prog.funcs[15]? = some Tryz.f15 := qfunc Tryz.func15 (by kernel_rfl)
@[simp] theorem TryQ.func16 : TryQ.prog.funcs[16]? = some Tryz.f16 := qfunc Tryz.func16 (by kernel_rfl)
@[simp] theorem TryQ.func17 : TryQ.prog.funcs[17]? = some Tryz.f17 := qfunc Tryz.func17 (by kernel_rfl)
@[simp] theorem TryQ.func21 : TryQ.prog.funcs[21]? = some Tryz.f21 := qfunc Tryz.func21 (by kernel_rfl)
@[simp] theorem TryQ.func33 : TryQ.prog.funcs[33]? = some Tryz.f33 := qfunc Tryz.func33 (by kernel_rfl)
@[simp] theorem TryQ.func34 : TryQ.prog.funcs[34]? = some Tryz.f34 := qfunc Tryz.func34 (by kernel_rfl)
@[simp] theorem TryQ.func35 : TryQ.prog.funcs[35]? = some Tryz.f35 := qfunc Tryz.func35 (by kernel_rfl)
@[simp] theorem TryQ.func36 : TryQ.prog.funcs[36]? = some Tryz.f36 := qfunc Tryz.func36 (by kernel_rfl)
@[simp] theorem TryQ.func38 : TryQ.prog.funcs[38]? = some Tryz.f38 := qfunc Tryz.func38 (by kernel_rfl)
@[simp] theorem TryQ.func40 : TryQ.prog.funcs[40]? = some Tryz.f40 := qfunc Tryz.func40 (by kernel_rfl)
@[simp] theorem TryQ.func41 : TryQ.prog.funcs[41]? = some Tryz.f41 := qfunc Tryz.func41 (by kernel_rfl)
@[simp] theorem TryQ.func48 : TryQ.prog.funcs[48]? = some Tryz.f48 := qfunc Tryz.func48 (by kernel_rfl)
@[simp] theorem TryQ.func49 : TryQ.prog.funcs[49]? = some Tryz.f49 := qfunc Tryz.func49 (by kernel_rfl)
@[simp] theorem TryQ.func50 : TryQ.prog.funcs[50]? = some Tryz.f50 := qfunc Tryz.func50 (by kernel_rfl)
@[simp] theorem TryQ.func51 : TryQ.prog.funcs[51]? = some Tryz.f51 := qfunc Tryz.func51 (by kernel_rfl)
@[simp] theorem TryQ.func52 : TryQ.prog.funcs[52]? = some Tryz.f52 := qfunc Tryz.func52 (by kernel_rfl)
@[simp] theorem TryQ.func53 : TryQ.prog.funcs[53]? = some Tryz.f53 := qfunc Tryz.func53 (by kernel_rfl)
@[simp] theorem TryQ.func54 : TryQ.prog.funcs[54]? = some Tryz.f54 := qfunc Tryz.func54 (by kernel_rfl)
@[simp] theorem TryQ.func55 : TryQ.prog.funcs[55]? = some Tryz.f55 := qfunc Tryz.func55 (by kernel_rfl)
@[simp] theorem TryQ.func56 : TryQ.prog.funcs[56]? = some Tryz.f56 := qfunc Tryz.func56 (by kernel_rfl)
@[simp] theorem TryQ.func57 : TryQ.prog.funcs[57]? = some Tryz.f57 := qfunc Tryz.func57 (by kernel_rfl)
@[simp] theorem TryQ.func58 : TryQ.prog.funcs[58]? = some Tryz.f58 := qfunc Tryz.func58 (by kernel_rfl)
@[simp] theorem TryQ.func59 : TryQ.prog.funcs[59]? = some Tryz.f59 := qfunc Tryz.func59 (by kernel_rfl)
@[simp] theorem TryQ.func61 : TryQ.prog.funcs[61]? = some Tryz.f61 := qfunc Tryz.func61 (by kernel_rfl)
@[simp] theorem TryQ.func62 : TryQ.prog.funcs[62]? = some Tryz.f62 := qfunc Tryz.func62 (by kernel_rfl)
@[simp] theorem TryQ.func63 : TryQ.prog.funcs[63]? = some Tryz.f63 := qfunc Tryz.func63 (by kernel_rfl)
@[simp] theorem TryQ.func64 : TryQ.prog.funcs[64]? = some Tryz.f64 := qfunc Tryz.func64 (by kernel_rfl)
@[simp] theorem TryQ.func65 : TryQ.prog.funcs[65]? = some Tryz.f65 := qfunc Tryz.func65 (by kernel_rfl)
@[simp] theorem TryQ.func66 : TryQ.prog.funcs[66]? = some Tryz.f66 := qfunc Tryz.func66 (by kernel_rfl)
@[simp] theorem TryQ.func67 : TryQ.prog.funcs[67]? = some Tryz.f67 := qfunc Tryz.func67 (by kernel_rfl)
@[simp] theorem TryQ.func72 : TryQ.prog.funcs[72]? = some Tryz.f72 := qfunc Tryz.func72 (by kernel_rfl)
@[simp] theorem TryQ.func73 : TryQ.prog.funcs[73]? = some Tryz.f73 := qfunc Tryz.func73 (by kernel_rfl)
@[simp] theorem TryQ.func74 : TryQ.prog.funcs[74]? = some Tryz.f74 := qfunc Tryz.func74 (by kernel_rfl)
@[simp] theorem TryQ.func81 : TryQ.prog.funcs[81]? = some Tryz.f81 := qfunc Tryz.func81 (by kernel_rfl)
@[simp] theorem TryQ.func82 : TryQ.prog.funcs[82]? = some Tryz.f82 := qfunc Tryz.func82 (by kernel_rfl)
@[simp] theorem TryQ.func83 : TryQ.prog.funcs[83]? = some Tryz.f83 := qfunc Tryz.func83 (by kernel_rfl)
@[simp] theorem TryQ.func84 : TryQ.prog.funcs[84]? = some Tryz.f84 := qfunc Tryz.func84 (by kernel_rfl)
@[simp] theorem TryQ.func85 : TryQ.prog.funcs[85]? = some Tryz.f85 := qfunc Tryz.func85 (by kernel_rfl)
@[simp] theorem TryQ.func86 : TryQ.prog.funcs[86]? = some Tryz.f86 := qfunc Tryz.func86 (by kernel_rfl)
@[simp] theorem TryQ.func87 : TryQ.prog.funcs[87]? = some Tryz.f87 := qfunc Tryz.func87 (by kernel_rfl)
@[simp] theorem TryQ.func88 : TryQ.prog.funcs[88]? = some Tryz.f88 := qfunc Tryz.func88 (by kernel_rfl)
@[simp] theorem TryQ.func89 : TryQ.prog.funcs[89]? = some Tryz.f89 := qfunc Tryz.func89 (by kernel_rfl)
@[simp] theorem TryQ.func91 : TryQ.prog.funcs[91]? = some Tryz.f91 := qfunc Tryz.func91 (by kernel_rfl)
@[simp] theorem TryQ.func92 : TryQ.prog.funcs[92]? = some Tryz.f92 := qfunc Tryz.func92 (by kernel_rfl)
@[simp] theorem TryQ.func93 : TryQ.prog.funcs[93]? = some Tryz.f93 := qfunc Tryz.func93 (by kernel_rfl)
@[simp] theorem TryQ.func94 : TryQ.prog.funcs[94]? = some Tryz.f94 := qfunc Tryz.func94 (by kernel_rfl)
@[simp] theorem TryQ.func95 : TryQ.prog.funcs[95]? = some Tryz.f95 := qfunc Tryz.func95 (by kernel_rfl)
@[simp] theorem TryQ.func96 : TryQ.prog.funcs[96]? = some Tryz.f96 := qfunc Tryz.func96 (by kernel_rfl)
@[simp] theorem TryQ.func101 : TryQ.prog.funcs[101]? = some Tryz.f101 := qfunc Tryz.func101 (by kernel_rfl)
@[simp] theorem TryQ.func102 : TryQ.prog.funcs[102]? = some Tryz.f102 := qfunc Tryz.func102 (by kernel_rfl)
@[simp] theorem TryQ.func103 : TryQ.prog.funcs[103]? = some Tryz.f103 := qfunc Tryz.func103 (by kernel_rfl)
@[simp] theorem TryQ.func104 : TryQ.prog.funcs[104]? = some Tryz.f104 := qfunc Tryz.func104 (by kernel_rfl)
@[simp] theorem TryQ.func105 : TryQ.prog.funcs[105]? = some Tryz.f105 := qfunc Tryz.func105 (by kernel_rfl)
@[simp] theorem TryQ.func106 : TryQ.prog.funcs[106]? = some Tryz.f106 := qfunc Tryz.func106 (by kernel_rfl)
@[simp] theorem TryQ.func117 : TryQ.prog.funcs[117]? = some Tryz.f117 := qfunc Tryz.func117 (by kernel_rfl)
@[simp] theorem TryQ.func130 : TryQ.prog.funcs[130]? = some Tryz.f130 := qfunc Tryz.func130 (by kernel_rfl)
@[simp] theorem TryQ.func131 : TryQ.prog.funcs[131]? = some Tryz.f131 := qfunc Tryz.func131 (by kernel_rfl)
@[simp] theorem TryQ.func133 : TryQ.prog.funcs[133]? = some Tryz.f133 := qfunc Tryz.func133 (by kernel_rfl)
@[simp] theorem TryQ.func134 : TryQ.prog.funcs[134]? = some Tryz.f134 := qfunc Tryz.func134 (by kernel_rfl)
@[simp] theorem TryQ.func136 : TryQ.prog.funcs[136]? = some Tryz.f136 := qfunc Tryz.func136 (by kernel_rfl)
@[simp] theorem TryQ.func137 : TryQ.prog.funcs[137]? = some Tryz.f137 := qfunc Tryz.func137 (by kernel_rfl)
@[simp] theorem TryQ.func139 : TryQ.prog.funcs[139]? = some Tryz.f139 := qfunc Tryz.func139 (by kernel_rfl)
@[simp] theorem TryQ.func140 : TryQ.prog.funcs[140]? = some Tryz.f140 := qfunc Tryz.func140 (by kernel_rfl)
@[simp] theorem TryQ.func141 : TryQ.prog.funcs[141]? = some Tryz.f141 := qfunc Tryz.func141 (by kernel_rfl)
@[simp] theorem TryQ.func147 : TryQ.prog.funcs[147]? = some Tryz.f147 := qfunc Tryz.func147 (by kernel_rfl)
@[simp] theorem TryQ.func158 : TryQ.prog.funcs[158]? = some Tryz.f158 := qfunc Tryz.func158 (by kernel_rfl)
@[simp] theorem TryQ.func159 : TryQ.prog.funcs[159]? = some Tryz.f159 := qfunc Tryz.func159 (by kernel_rfl)
@[simp] theorem TryQ.func160 : TryQ.prog.funcs[160]? = some Tryz.f160 := qfunc Tryz.func160 (by kernel_rfl)
@[simp] theorem TryQ.func161 : TryQ.prog.funcs[161]? = some Tryz.f161 := qfunc Tryz.func161 (by kernel_rfl)
@[simp] theorem TryQ.func162 : TryQ.prog.funcs[162]? = some Tryz.f162 := qfunc Tryz.func162 (by kernel_rfl)
@[simp] theorem TryQ.func163 : TryQ.prog.funcs[163]? = some Tryz.f163 := qfunc Tryz.func163 (by kernel_rfl)
@[simp] theorem TryQ.func175 : TryQ.prog.funcs[175]? = some Tryz.f175 := qfunc Tryz.func175 (by kernel_rfl)
@[simp] theorem TryQ.func176 : TryQ.prog.funcs[176]? = some Tryz.f176 := qfunc Tryz.func176 (by kernel_rfl)
@[simp] theorem TryQ.func177 : TryQ.prog.funcs[177]? = some Tryz.f177 := qfunc Tryz.func177 (by kernel_rfl)
@[simp] theorem TryQ.func178 : TryQ.prog.funcs[178]? = some Tryz.f178 := qfunc Tryz.func178 (by kernel_rfl)
@[simp] theorem TryQ.func180 : TryQ.prog.funcs[180]? = some Tryz.f180 := qfunc Tryz.func180 (by kernel_rfl)
@[simp] theorem TryQ.func191 : TryQ.prog.funcs[191]? = some Tryz.f191 := qfunc Tryz.func191 (by kernel_rfl)
@[simp] theorem TryQ.func192 : TryQ.prog.funcs[192]? = some Tryz.f192 := qfunc Tryz.func192 (by kernel_rfl)
@[simp] theorem TryQ.func193 : TryQ.prog.funcs[193]? = some Tryz.f193 := qfunc Tryz.func193 (by kernel_rfl)
@[simp] theorem TryQ.func194 : TryQ.prog.funcs[194]? = some Tryz.f194 := qfunc Tryz.func194 (by kernel_rfl)
@[simp] theorem TryQ.func195 : TryQ.prog.funcs[195]? = some Tryz.f195 := qfunc Tryz.func195 (by kernel_rfl)
@[simp] theorem TryQ.func196 : TryQ.prog.funcs[196]? = some Tryz.f196 := qfunc Tryz.func196 (by kernel_rfl)
@[simp] theorem TryQ.func197 : TryQ.prog.funcs[197]? = some Tryz.f197 := qfunc Tryz.func197 (by kernel_rfl)
@[simp] theorem TryQ.func198 : TryQ.prog.funcs[198]? = some Tryz.f198 := qfunc Tryz.func198 (by kernel_rfl)
@[simp] theorem TryQ.func199 : TryQ.prog.funcs[199]? = some Tryz.f199 := qfunc Tryz.func199 (by kernel_rfl)
@[simp] theorem TryQ.func200 : TryQ.prog.funcs[200]? = some Tryz.f200 := qfunc Tryz.func200 (by kernel_rfl)
@[simp] theorem TryQ.func201 : TryQ.prog.funcs[201]? = some Tryz.f201 := qfunc Tryz.func201 (by kernel_rfl)
@[simp] theorem TryQ.func202 : TryQ.prog.funcs[202]? = some Tryz.f202 := qfunc Tryz.func202 (by kernel_rfl)
@[simp] theorem TryQ.func203 : TryQ.prog.funcs[203]? = some Tryz.f203 := qfunc Tryz.func203 (by kernel_rfl)
@[simp] theorem TryQ.func204 : TryQ.prog.funcs[204]? = some Tryz.f204 := qfunc Tryz.func204 (by kernel_rfl)
@[simp] theorem TryQ.func205 : TryQ.prog.funcs[205]? = some Tryz.f205 := qfunc Tryz.func205 (by kernel_rfl)
@[simp] theorem TryQ.func221 : TryQ.prog.funcs[221]? = some Tryz.f221 := qfunc Tryz.func221 (by kernel_rfl)
@[simp] theorem TryQ.func222 : TryQ.prog.funcs[222]? = some Tryz.f222 := qfunc Tryz.func222 (by kernel_rfl)
@[simp] theorem TryQ.func223 : TryQ.prog.funcs[223]? = some Tryz.f223 := qfunc Tryz.func223 (by kernel_rfl)
@[simp] theorem TryQ.func224 : TryQ.prog.funcs[224]? = some Tryz.f224 := qfunc Tryz.func224 (by kernel_rfl)
@[simp] theorem TryQ.func228 : TryQ.prog.funcs[228]? = some Tryz.f228 := qfunc Tryz.func228 (by kernel_rfl)
@[simp] theorem TryQ.func229 : TryQ.prog.funcs[229]? = some Tryz.f229 := qfunc Tryz.func229 (by kernel_rfl)
@[simp] theorem TryQ.func230 : TryQ.prog.funcs[230]? = some Tryz.f230 := qfunc Tryz.func230 (by kernel_rfl)
@[simp] theorem TryQ.func231 : TryQ.prog.funcs[231]? = some Tryz.f231 := qfunc Tryz.func231 (by kernel_rfl)
@[simp] theorem TryQ.func232 : TryQ.prog.funcs[232]? = some Tryz.f232 := qfunc Tryz.func232 (by kernel_rfl)
@[simp] theorem TryQ.func233 : TryQ.prog.funcs[233]? = some Tryz.f233 := qfunc Tryz.func233 (by kernel_rfl)
@[simp] theorem TryQ.func234 : TryQ.prog.funcs[234]? = some Tryz.f234 := qfunc Tryz.func234 (by kernel_rfl)
@[simp] theorem TryQ.func235 : TryQ.prog.funcs[235]? = some Tryz.f235 := qfunc Tryz.func235 (by kernel_rfl)
@[simp] theorem TryQ.func236 : TryQ.prog.funcs[236]? = some Tryz.f236 := qfunc Tryz.func236 (by kernel_rfl)
@[simp] theorem TryQ.func260 : TryQ.prog.funcs[260]? = some Tryz.f260 := qfunc Tryz.func260 (by kernel_rfl)
@[simp] theorem TryQ.func261 : TryQ.prog.funcs[261]? = some Tryz.f261 := qfunc Tryz.func261 (by kernel_rfl)
@[simp] theorem TryQ.func262 : TryQ.prog.funcs[262]? = some Tryz.f262 := qfunc Tryz.func262 (by kernel_rfl)
@[simp] theorem TryQ.func263 : TryQ.prog.funcs[263]? = some Tryz.f263 := qfunc Tryz.func263 (by kernel_rfl)
@[simp] theorem TryQ.func264 : TryQ.prog.funcs[264]? = some Tryz.f264 := qfunc Tryz.func264 (by kernel_rfl)
@[simp] theorem TryQ.func265 : TryQ.prog.funcs[265]? = some Tryz.f265 := qfunc Tryz.func265 (by kernel_rfl)
@[simp] theorem TryQ.func266 : TryQ.prog.funcs[266]? = some Tryz.f266 := qfunc Tryz.func266 (by kernel_rfl)
@[simp] theorem TryQ.func267 : TryQ.prog.funcs[267]? = some Tryz.f267 := qfunc Tryz.func267 (by kernel_rfl)
@[simp] theorem TryQ.func268 : TryQ.prog.funcs[268]? = some Tryz.f268 := qfunc Tryz.func268 (by kernel_rfl)
@[simp] theorem TryQ.func269 : TryQ.prog.funcs[269]? = some Tryz.f269 := qfunc Tryz.func269 (by kernel_rfl)
@[simp] theorem TryQ.func270 : TryQ.prog.funcs[270]? = some Tryz.f270 := qfunc Tryz.func270 (by kernel_rfl)
@[simp] theorem TryQ.func271 : TryQ.prog.funcs[271]? = some Tryz.f271 := qfunc Tryz.func271 (by kernel_rfl)
@[simp] theorem TryQ.func272 : TryQ.prog.funcs[272]? = some Tryz.f272 := qfunc Tryz.func272 (by kernel_rfl)
@[simp] theorem TryQ.func290 : TryQ.prog.funcs[290]? = some Tryz.f290 := qfunc Tryz.func290 (by kernel_rfl)
@[simp] theorem TryQ.func291 : TryQ.prog.funcs[291]? = some Tryz.f291 := qfunc Tryz.func291 (by kernel_rfl)
@[simp] theorem TryQ.func292 : TryQ.prog.funcs[292]? = some Tryz.f292 := qfunc Tryz.func292 (by kernel_rfl)
@[simp] theorem TryQ.func293 : TryQ.prog.funcs[293]? = some Tryz.f293 := qfunc Tryz.func293 (by kernel_rfl)
@[simp] theorem TryQ.func294 : TryQ.prog.funcs[294]? = some Tryz.f294 := qfunc Tryz.func294 (by kernel_rfl)
@[simp] theorem TryQ.func295 : TryQ.prog.funcs[295]? = some Tryz.f295 := qfunc Tryz.func295 (by kernel_rfl)
@[simp] theorem TryQ.func296 : TryQ.prog.funcs[296]? = some Tryz.f296 := qfunc Tryz.func296 (by kernel_rfl)
@[simp] theorem TryQ.func298 : TryQ.prog.funcs[298]? = some Tryz.f298 := qfunc Tryz.func298 (by kernel_rfl)
@[simp] theorem TryQ.func300 : TryQ.prog.funcs[300]? = some Tryz.f300 := qfunc Tryz.func300 (by kernel_rfl)
@[simp] theorem TryQ.func307 : TryQ.prog.funcs[307]? = some Tryz.f307 := qfunc Tryz.func307 (by kernel_rfl)
@[simp] theorem TryQ.func308 : TryQ.prog.funcs[308]? = some Tryz.f308 := qfunc Tryz.func308 (by kernel_rfl)
@[simp] theorem TryQ.func309 : TryQ.prog.funcs[309]? = some Tryz.f309 := qfunc Tryz.func309 (by kernel_rfl)
@[simp] theorem TryQ.func310 : TryQ.prog.funcs[310]? = some Tryz.f310 := qfunc Tryz.func310 (by kernel_rfl)
@[simp] theorem TryQ.func316 : TryQ.prog.funcs[316]? = some Tryz.f316 := qfunc Tryz.func316 (by kernel_rfl)
@[simp] theorem TryQ.func317 : TryQ.prog.funcs[317]? = some Tryz.f317 := qfunc Tryz.func317 (by kernel_rfl)
@[simp] theorem TryQ.func319 : TryQ.prog.funcs[319]? = some Tryz.f319 := qfunc Tryz.func319 (by kernel_rfl)
@[simp] theorem TryQ.func325 : TryQ.prog.funcs[325]? = some Tryz.f325 := qfunc Tryz.func325 (by kernel_rfl)
@[simp] theorem TryQ.func326 : TryQ.prog.funcs[326]? = some Tryz.f326 := qfunc Tryz.func326 (by kernel_rfl)
@[simp] theorem TryQ.func327 : TryQ.prog.funcs[327]? = some Tryz.f327 := qfunc Tryz.func327 (by kernel_rfl)
@[simp] theorem TryQ.func335 : TryQ.prog.funcs[335]? = some Tryz.f335 := qfunc Tryz.func335 (by kernel_rfl)
@[simp] theorem TryQ.func337 : TryQ.prog.funcs[337]? = some Tryz.f337 := qfunc Tryz.func337 (by kernel_rfl)
@[simp] theorem TryQ.func338 : TryQ.prog.funcs[338]? = some Tryz.f338 := qfunc Tryz.func338 (by kernel_rfl)
@[simp] theorem TryQ.func339 : TryQ.prog.funcs[339]? = some Tryz.f339 := qfunc Tryz.func339 (by kernel_rfl)
@[simp] theorem TryQ.func346 : TryQ.prog.funcs[346]? = some Tryz.f346 := qfunc Tryz.func346 (by kernel_rfl)
@[simp] theorem TryQ.func366 : TryQ.prog.funcs[366]? = some Tryz.f366 := qfunc Tryz.func366 (by kernel_rfl)
@[simp] theorem TryQ.func369 : TryQ.prog.funcs[369]? = some Tryz.f369 := qfunc Tryz.func369 (by kernel_rfl)
@[simp] theorem TryQ.func370 : TryQ.prog.funcs[370]? = some Tryz.f370 := qfunc Tryz.func370 (by kernel_rfl)
@[simp] theorem TryQ.func371 : TryQ.prog.funcs[371]? = some Tryz.f371 := qfunc Tryz.func371 (by kernel_rfl)
@[simp] theorem TryQ.func372 : TryQ.prog.funcs[372]? = some Tryz.f372 := qfunc Tryz.func372 (by kernel_rfl)
@[simp] theorem TryQ.func375 : TryQ.prog.funcs[375]? = some Tryz.f375 := qfunc Tryz.func375 (by kernel_rfl)
@[simp] theorem TryQ.call13 (args : Array Value) (w : World) : (callFunc 13 args).run TryQ.prog w = .ok (.enter 13 args) w := (call_body TryQ.func13 rfl rfl w).1
@[simp] theorem TryQ.call15 (args : Array Value) (w : World) : (callFunc 15 args).run TryQ.prog w = .ok (.enter 15 args) w := (call_body TryQ.func15 rfl rfl w).1
@[simp] theorem TryQ.call17 (args : Array Value) (w : World) : (callFunc 17 args).run TryQ.prog w = .ok (.enter 17 args) w := (call_body TryQ.func17 rfl rfl w).1
@[simp] theorem TryQ.call21 (args : Array Value) (w : World) : (callFunc 21 args).run TryQ.prog w = .ok (.enter 21 args) w := (call_body TryQ.func21 rfl rfl w).1
@[simp] theorem TryQ.call33 (args : Array Value) (w : World) : (callFunc 33 args).run TryQ.prog w = .ok (.enter 33 args) w := (call_body TryQ.func33 rfl rfl w).1
@[simp] theorem TryQ.call34 (args : Array Value) (w : World) : (callFunc 34 args).run TryQ.prog w = .ok (.enter 34 args) w := (call_body TryQ.func34 rfl rfl w).1
@[simp] theorem TryQ.call36 (args : Array Value) (w : World) : (callFunc 36 args).run TryQ.prog w = .ok (.enter 36 args) w := (call_body TryQ.func36 rfl rfl w).1
@[simp] theorem TryQ.call48 (args : Array Value) (w : World) : (callFunc 48 args).run TryQ.prog w = .ok (.enter 48 args) w := (call_body TryQ.func48 rfl rfl w).1
@[simp] theorem TryQ.call49 (args : Array Value) (w : World) : (callFunc 49 args).run TryQ.prog w = .ok (.enter 49 args) w := (call_body TryQ.func49 rfl rfl w).1
@[simp] theorem TryQ.call50 (args : Array Value) (w : World) : (callFunc 50 args).run TryQ.prog w = .ok (.enter 50 args) w := (call_body TryQ.func50 rfl rfl w).1
@[simp] theorem TryQ.call51 (args : Array Value) (w : World) : (callFunc 51 args).run TryQ.prog w = .ok (.enter 51 args) w := (call_body TryQ.func51 rfl rfl w).1
@[simp] theorem TryQ.call52 (args : Array Value) (w : World) : (callFunc 52 args).run TryQ.prog w = .ok (.enter 52 args) w := (call_body TryQ.func52 rfl rfl w).1
@[simp] theorem TryQ.call53 (args : Array Value) (w : World) : (callFunc 53 args).run TryQ.prog w = .ok (.enter 53 args) w := (call_body TryQ.func53 rfl rfl w).1
@[simp] theorem TryQ.call54 (args : Array Value) (w : World) : (callFunc 54 args).run TryQ.prog w = .ok (.enter 54 args) w := (call_body TryQ.func54 rfl rfl w).1
@[simp] theorem TryQ.call55 (args : Array Value) (w : World) : (callFunc 55 args).run TryQ.prog w = .ok (.enter 55 args) w := (call_body TryQ.func55 rfl rfl w).1
@[simp] theorem TryQ.call56 (args : Array Value) (w : World) : (callFunc 56 args).run TryQ.prog w = .ok (.enter 56 args) w := (call_body TryQ.func56 rfl rfl w).1
@[simp] theorem TryQ.call57 (args : Array Value) (w : World) : (callFunc 57 args).run TryQ.prog w = .ok (.enter 57 args) w := (call_body TryQ.func57 rfl rfl w).1
@[simp] theorem TryQ.call58 (args : Array Value) (w : World) : (callFunc 58 args).run TryQ.prog w = .ok (.enter 58 args) w := (call_body TryQ.func58 rfl rfl w).1
@[simp] theorem TryQ.call59 (args : Array Value) (w : World) : (callFunc 59 args).run TryQ.prog w = .ok (.enter 59 args) w := (call_body TryQ.func59 rfl rfl w).1
@[simp] theorem TryQ.call61 (args : Array Value) (w : World) : (callFunc 61 args).run TryQ.prog w = .ok (.enter 61 args) w := (call_body TryQ.func61 rfl rfl w).1
@[simp] theorem TryQ.call62 (args : Array Value) (w : World) : (callFunc 62 args).run TryQ.prog w = .ok (.enter 62 args) w := (call_body TryQ.func62 rfl rfl w).1
@[simp] theorem TryQ.call63 (args : Array Value) (w : World) : (callFunc 63 args).run TryQ.prog w = .ok (.enter 63 args) w := (call_body TryQ.func63 rfl rfl w).1
@[simp] theorem TryQ.call64 (args : Array Value) (w : World) : (callFunc 64 args).run TryQ.prog w = .ok (.enter 64 args) w := (call_body TryQ.func64 rfl rfl w).1
@[simp] theorem TryQ.call65 (args : Array Value) (w : World) : (callFunc 65 args).run TryQ.prog w = .ok (.enter 65 args) w := (call_body TryQ.func65 rfl rfl w).1
@[simp] theorem TryQ.call66 (args : Array Value) (w : World) : (callFunc 66 args).run TryQ.prog w = .ok (.enter 66 args) w := (call_body TryQ.func66 rfl rfl w).1
@[simp] theorem TryQ.call81 (args : Array Value) (w : World) : (callFunc 81 args).run TryQ.prog w = .ok (.enter 81 args) w := (call_body TryQ.func81 rfl rfl w).1
@[simp] theorem TryQ.call82 (args : Array Value) (w : World) : (callFunc 82 args).run TryQ.prog w = .ok (.enter 82 args) w := (call_body TryQ.func82 rfl rfl w).1
@[simp] theorem TryQ.call83 (args : Array Value) (w : World) : (callFunc 83 args).run TryQ.prog w = .ok (.enter 83 args) w := (call_body TryQ.func83 rfl rfl w).1
@[simp] theorem TryQ.call84 (args : Array Value) (w : World) : (callFunc 84 args).run TryQ.prog w = .ok (.enter 84 args) w := (call_body TryQ.func84 rfl rfl w).1
@[simp] theorem TryQ.call85 (args : Array Value) (w : World) : (callFunc 85 args).run TryQ.prog w = .ok (.enter 85 args) w := (call_body TryQ.func85 rfl rfl w).1
@[simp] theorem TryQ.call86 (args : Array Value) (w : World) : (callFunc 86 args).run TryQ.prog w = .ok (.enter 86 args) w := (call_body TryQ.func86 rfl rfl w).1
@[simp] theorem TryQ.call87 (args : Array Value) (w : World) : (callFunc 87 args).run TryQ.prog w = .ok (.enter 87 args) w := (call_body TryQ.func87 rfl rfl w).1
@[simp] theorem TryQ.call88 (args : Array Value) (w : World) : (callFunc 88 args).run TryQ.prog w = .ok (.enter 88 args) w := (call_body TryQ.func88 rfl rfl w).1
@[simp] theorem TryQ.call89 (args : Array Value) (w : World) : (callFunc 89 args).run TryQ.prog w = .ok (.enter 89 args) w := (call_body TryQ.func89 rfl rfl w).1
@[simp] theorem TryQ.call91 (args : Array Value) (w : World) : (callFunc 91 args).run TryQ.prog w = .ok (.enter 91 args) w := (call_body TryQ.func91 rfl rfl w).1
@[simp] theorem TryQ.call92 (args : Array Value) (w : World) : (callFunc 92 args).run TryQ.prog w = .ok (.enter 92 args) w := (call_body TryQ.func92 rfl rfl w).1
@[simp] theorem TryQ.call93 (args : Array Value) (w : World) : (callFunc 93 args).run TryQ.prog w = .ok (.enter 93 args) w := (call_body TryQ.func93 rfl rfl w).1
@[simp] theorem TryQ.call94 (args : Array Value) (w : World) : (callFunc 94 args).run TryQ.prog w = .ok (.enter 94 args) w := (call_body TryQ.func94 rfl rfl w).1
@[simp] theorem TryQ.call95 (args : Array Value) (w : World) : (callFunc 95 args).run TryQ.prog w = .ok (.enter 95 args) w := (call_body TryQ.func95 rfl rfl w).1
@[simp] theorem TryQ.call96 (args : Array Value) (w : World) : (callFunc 96 args).run TryQ.prog w = .ok (.enter 96 args) w := (call_body TryQ.func96 rfl rfl w).1
@[simp] theorem TryQ.call101 (args : Array Value) (w : World) : (callFunc 101 args).run TryQ.prog w = .ok (.enter 101 args) w := (call_body TryQ.func101 rfl rfl w).1
@[simp] theorem TryQ.call105 (args : Array Value) (w : World) : (callFunc 105 args).run TryQ.prog w = .ok (.enter 105 args) w := (call_body TryQ.func105 rfl rfl w).1
@[simp] theorem TryQ.call106 (args : Array Value) (w : World) : (callFunc 106 args).run TryQ.prog w = .ok (.enter 106 args) w := (call_body TryQ.func106 rfl rfl w).1
@[simp] theorem TryQ.call117 (args : Array Value) (w : World) : (callFunc 117 args).run TryQ.prog w = .ok (.enter 117 args) w := (call_body TryQ.func117 rfl rfl w).1
@[simp] theorem TryQ.call130 (args : Array Value) (w : World) : (callFunc 130 args).run TryQ.prog w = .ok (.enter 130 args) w := (call_body TryQ.func130 rfl rfl w).1
@[simp] theorem TryQ.call131 (args : Array Value) (w : World) : (callFunc 131 args).run TryQ.prog w = .ok (.enter 131 args) w := (call_body TryQ.func131 rfl rfl w).1
@[simp] theorem TryQ.call133 (args : Array Value) (w : World) : (callFunc 133 args).run TryQ.prog w = .ok (.enter 133 args) w := (call_body TryQ.func133 rfl rfl w).1
@[simp] theorem TryQ.call134 (args : Array Value) (w : World) : (callFunc 134 args).run TryQ.prog w = .ok (.enter 134 args) w := (call_body TryQ.func134 rfl rfl w).1
@[simp] theorem TryQ.call136 (args : Array Value) (w : World) : (callFunc 136 args).run TryQ.prog w = .ok (.enter 136 args) w := (call_body TryQ.func136 rfl rfl w).1
@[simp] theorem TryQ.call137 (args : Array Value) (w : World) : (callFunc 137 args).run TryQ.prog w = .ok (.enter 137 args) w := (call_body TryQ.func137 rfl rfl w).1
@[simp] theorem TryQ.call139 (args : Array Value) (w : World) : (callFunc 139 args).run TryQ.prog w = .ok (.enter 139 args) w := (call_body TryQ.func139 rfl rfl w).1
@[simp] theorem TryQ.call140 (args : Array Value) (w : World) : (callFunc 140 args).run TryQ.prog w = .ok (.enter 140 args) w := (call_body TryQ.func140 rfl rfl w).1
@[simp] theorem TryQ.call141 (args : Array Value) (w : World) : (callFunc 141 args).run TryQ.prog w = .ok (.enter 141 args) w := (call_body TryQ.func141 rfl rfl w).1
@[simp] theorem TryQ.call147 (args : Array Value) (w : World) : (callFunc 147 args).run TryQ.prog w = .ok (.enter 147 args) w := (call_body TryQ.func147 rfl rfl w).1
@[simp] theorem TryQ.call161 (args : Array Value) (w : World) : (callFunc 161 args).run TryQ.prog w = .ok (.enter 161 args) w := (call_body TryQ.func161 rfl rfl w).1
@[simp] theorem TryQ.call162 (args : Array Value) (w : World) : (callFunc 162 args).run TryQ.prog w = .ok (.enter 162 args) w := (call_body TryQ.func162 rfl rfl w).1
@[simp] theorem TryQ.call163 (args : Array Value) (w : World) : (callFunc 163 args).run TryQ.prog w = .ok (.enter 163 args) w := (call_body TryQ.func163 rfl rfl w).1
@[simp] theorem TryQ.call175 (args : Array Value) (w : World) : (callFunc 175 args).run TryQ.prog w = .ok (.enter 175 args) w := (call_body TryQ.func175 rfl rfl w).1
@[simp] theorem TryQ.call176 (args : Array Value) (w : World) : (callFunc 176 args).run TryQ.prog w = .ok (.enter 176 args) w := (call_body TryQ.func176 rfl rfl w).1
@[simp] theorem TryQ.call177 (args : Array Value) (w : World) : (callFunc 177 args).run TryQ.prog w = .ok (.enter 177 args) w := (call_body TryQ.func177 rfl rfl w).1
@[simp] theorem TryQ.call178 (args : Array Value) (w : World) : (callFunc 178 args).run TryQ.prog w = .ok (.enter 178 args) w := (call_body TryQ.func178 rfl rfl w).1
@[simp] theorem TryQ.call180 (args : Array Value) (w : World) : (callFunc 180 args).run TryQ.prog w = .ok (.enter 180 args) w := (call_body TryQ.func180 rfl rfl w).1
@[simp] theorem TryQ.call202 (args : Array Value) (w : World) : (callFunc 202 args).run TryQ.prog w = .ok (.enter 202 args) w := (call_body TryQ.func202 rfl rfl w).1
@[simp] theorem TryQ.call203 (args : Array Value) (w : World) : (callFunc 203 args).run TryQ.prog w = .ok (.enter 203 args) w := (call_body TryQ.func203 rfl rfl w).1
@[simp] theorem TryQ.call205 (args : Array Value) (w : World) : (callFunc 205 args).run TryQ.prog w = .ok (.enter 205 args) w := (call_body TryQ.func205 rfl rfl w).1
@[simp] theorem TryQ.call221 (args : Array Value) (w : World) : (callFunc 221 args).run TryQ.prog w = .ok (.enter 221 args) w := (call_body TryQ.func221 rfl rfl w).1
@[simp] theorem TryQ.call222 (args : Array Value) (w : World) : (callFunc 222 args).run TryQ.prog w = .ok (.enter 222 args) w := (call_body TryQ.func222 rfl rfl w).1
@[simp] theorem TryQ.call223 (args : Array Value) (w : World) : (callFunc 223 args).run TryQ.prog w = .ok (.enter 223 args) w := (call_body TryQ.func223 rfl rfl w).1
@[simp] theorem TryQ.call224 (args : Array Value) (w : World) : (callFunc 224 args).run TryQ.prog w = .ok (.enter 224 args) w := (call_body TryQ.func224 rfl rfl w).1
@[simp] theorem TryQ.call234 (args : Array Value) (w : World) : (callFunc 234 args).run TryQ.prog w = .ok (.enter 234 args) w := (call_body TryQ.func234 rfl rfl w).1
@[simp] theorem TryQ.call236 (args : Array Value) (w : World) : (callFunc 236 args).run TryQ.prog w = .ok (.enter 236 args) w := (call_body TryQ.func236 rfl rfl w).1
@[simp] theorem TryQ.call260 (args : Array Value) (w : World) : (callFunc 260 args).run TryQ.prog w = .ok (.enter 260 args) w := (call_body TryQ.func260 rfl rfl w).1
@[simp] theorem TryQ.call261 (args : Array Value) (w : World) : (callFunc 261 args).run TryQ.prog w = .ok (.enter 261 args) w := (call_body TryQ.func261 rfl rfl w).1
@[simp] theorem TryQ.call262 (args : Array Value) (w : World) : (callFunc 262 args).run TryQ.prog w = .ok (.enter 262 args) w := (call_body TryQ.func262 rfl rfl w).1
@[simp] theorem TryQ.call263 (args : Array Value) (w : World) : (callFunc 263 args).run TryQ.prog w = .ok (.enter 263 args) w := (call_body TryQ.func263 rfl rfl w).1
@[simp] theorem TryQ.call290 (args : Array Value) (w : World) : (callFunc 290 args).run TryQ.prog w = .ok (.enter 290 args) w := (call_body TryQ.func290 rfl rfl w).1
@[simp] theorem TryQ.call291 (args : Array Value) (w : World) : (callFunc 291 args).run TryQ.prog w = .ok (.enter 291 args) w := (call_body TryQ.func291 rfl rfl w).1
@[simp] theorem TryQ.call292 (args : Array Value) (w : World) : (callFunc 292 args).run TryQ.prog w = .ok (.enter 292 args) w := (call_body TryQ.func292 rfl rfl w).1
@[simp] theorem TryQ.call293 (args : Array Value) (w : World) : (callFunc 293 args).run TryQ.prog w = .ok (.enter 293 args) w := (call_body TryQ.func293 rfl rfl w).1
@[simp] theorem TryQ.call294 (args : Array Value) (w : World) : (callFunc 294 args).run TryQ.prog w = .ok (.enter 294 args) w := (call_body TryQ.func294 rfl rfl w).1
@[simp] theorem TryQ.call295 (args : Array Value) (w : World) : (callFunc 295 args).run TryQ.prog w = .ok (.enter 295 args) w := (call_body TryQ.func295 rfl rfl w).1
@[simp] theorem TryQ.call296 (args : Array Value) (w : World) : (callFunc 296 args).run TryQ.prog w = .ok (.enter 296 args) w := (call_body TryQ.func296 rfl rfl w).1
@[simp] theorem TryQ.call298 (args : Array Value) (w : World) : (callFunc 298 args).run TryQ.prog w = .ok (.enter 298 args) w := (call_body TryQ.func298 rfl rfl w).1
@[simp] theorem TryQ.call300 (args : Array Value) (w : World) : (callFunc 300 args).run TryQ.prog w = .ok (.enter 300 args) w := (call_body TryQ.func300 rfl rfl w).1
@[simp] theorem TryQ.call307 (args : Array Value) (w : World) : (callFunc 307 args).run TryQ.prog w = .ok (.enter 307 args) w := (call_body TryQ.func307 rfl rfl w).1
@[simp] theorem TryQ.call316 (args : Array Value) (w : World) : (callFunc 316 args).run TryQ.prog w = .ok (.enter 316 args) w := (call_body TryQ.func316 rfl rfl w).1
@[simp] theorem TryQ.call317 (args : Array Value) (w : World) : (callFunc 317 args).run TryQ.prog w = .ok (.enter 317 args) w := (call_body TryQ.func317 rfl rfl w).1
@[simp] theorem TryQ.call319 (args : Array Value) (w : World) : (callFunc 319 args).run TryQ.prog w = .ok (.enter 319 args) w := (call_body TryQ.func319 rfl rfl w).1
@[simp] theorem TryQ.call325 (args : Array Value) (w : World) : (callFunc 325 args).run TryQ.prog w = .ok (.enter 325 args) w := (call_body TryQ.func325 rfl rfl w).1
@[simp] theorem TryQ.call326 (args : Array Value) (w : World) : (callFunc 326 args).run TryQ.prog w = .ok (.enter 326 args) w := (call_body TryQ.func326 rfl rfl w).1
@[simp] theorem TryQ.call327 (args : Array Value) (w : World) : (callFunc 327 args).run TryQ.prog w = .ok (.enter 327 args) w := (call_body TryQ.func327 rfl rfl w).1
@[simp] theorem TryQ.call335 (args : Array Value) (w : World) : (callFunc 335 args).run TryQ.prog w = .ok (.enter 335 args) w := (call_body TryQ.func335 rfl rfl w).1
@[simp] theorem TryQ.call337 (args : Array Value) (w : World) : (callFunc 337 args).run TryQ.prog w = .ok (.enter 337 args) w := (call_body TryQ.func337 rfl rfl w).1
@[simp] theorem TryQ.call338 (args : Array Value) (w : World) : (callFunc 338 args).run TryQ.prog w = .ok (.enter 338 args) w := (call_body TryQ.func338 rfl rfl w).1
@[simp] theorem TryQ.call346 (args : Array Value) (w : World) : (callFunc 346 args).run TryQ.prog w = .ok (.enter 346 args) w := (call_body TryQ.func346 rfl rfl w).1
@[simp] theorem TryQ.call366 (args : Array Value) (w : World) : (callFunc 366 args).run TryQ.prog w = .ok (.enter 366 args) w := (call_body TryQ.func366 rfl rfl w).1
@[simp] theorem TryQ.call369 (args : Array Value) (w : World) : (callFunc 369 args).run TryQ.prog w = .ok (.enter 369 args) w := (call_body TryQ.func369 rfl rfl w).1
@[simp] theorem TryQ.call370 (args : Array Value) (w : World) : (callFunc 370 args).run TryQ.prog w = .ok (.enter 370 args) w := (call_body TryQ.func370 rfl rfl w).1
@[simp] theorem TryQ.call371 (args : Array Value) (w : World) : (callFunc 371 args).run TryQ.prog w = .ok (.enter 371 args) w := (call_body TryQ.func371 rfl rfl w).1
@[simp] theorem TryQ.call372 (args : Array Value) (w : World) : (callFunc 372 args).run TryQ.prog w = .ok (.enter 372 args) w := (call_body TryQ.func372 rfl rfl w).1
@[simp] theorem TryQ.call375 (args : Array Value) (w : World) : (callFunc 375 args).run TryQ.prog w = .ok (.enter 375 args) w := (call_body TryQ.func375 rfl rfl w).1
theorem TryQ.ntmps141 : type_of% Tryz.ntmps141 := Tryz.ntmps141
theorem TryQ.ntmps236 : type_of% Tryz.ntmps236 := Tryz.ntmps236
theorem TryQ.ntmps260 : type_of% Tryz.ntmps260 := Tryz.ntmps260
theorem TryQ.ntmps316 : type_of% Tryz.ntmps316 := Tryz.ntmps316
theorem TryQ.ntmps317 : type_of% Tryz.ntmps317 := Tryz.ntmps317
theorem TryQ.ntmps372 : type_of% Tryz.ntmps372 := Tryz.ntmps372
theorem TryQ.ntmps375 : type_of% Tryz.ntmps375 := Tryz.ntmps375
end Go.Proofs
