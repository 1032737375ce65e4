import PyProof.Rows.All
import Wide.All
import OpenK.AllK
import Wide.FinOn
import Lean
import PyProof.EqAt
import PyProof.EqKinds
import PyProof.TupleCall
import KE.KDictOf
import KE.KItemsList
import PyProof.DictDisplay
import PySem.Challenge.RW_loanroll_k93_entries_in_words
set_option Elab.async false
set_option linter.all false
set_option maxRecDepth 100000
set_option maxHeartbeats 20000000
namespace PySem.W.Fast
local macro_rules | `(command| #check [$x,*])=>do
 return Lean.mkNullNode (<-x.getElems.mapM λ x=>`(command| def $(Lean.mkIdent (.mkSimple s!"tw{x.raw.isNatLit?.get!}")):ident:=0))
#check [12086961394287940100,17228897843216878306,861502493610598483,8586721762622732767,951490108651459375,11284616107681220019,7774113678449685934,6562911693202875499,416199725167544944,6479498380439682318,1180504863943622396,5723476159079860079,14538010974564807823,11788636936952823106,2369294140325686055,13374226786849659508,17357851268252398515,16912878257213621703,15916013147842562308,14594121865129679737,11212356425047092601,5805683372144433580,4607425872040536859,17941610651245897021,8331849164307833061,10284273198859499032,12809436989009611891,9947508896943372755,14537775516033599862,11024694936033576346,3256386593595896250,10159399881129095643,12768989823518198380,10161179621583223854,14022695629967993375,15254633091992210921,12681666616541194006,11525993766095887173,13055953723892786844,2078950565319712143,12269216009862288129,14689541978594310382,12468840222048715292,87601786513091389,9003107776662980439,8949853181751564097,14329579894275425762,11076892268299887525,14341141199694864594,4512776594637900181,11429584451438056573,12020253756985099128,8760152093665844161,11513857634932158529,16766683885213920930,16309811473084048462,6782663255696616371,13813618637161013713,5289818103960998278,17658959251048325594,1725486776273817318,2869065659524454656,13114645530532618160,16493865465440409018,12773500944031208451,256976265262469064,9433028549170029634,6046103115902281144,8995945545434573385,14592624751514493413,16412085850373738351,6702445572142316249,9381626543082597023,6851275008772768644,17155049476370652306,9197174079833555027,17691633702590694504,4946147512530127568,16607193741793207195,15541240446876304647,16626521671886133394,14441679199631801671,17137270108147033825,18183970276198133131,3897268976836264337,514280064592716601,14074196154385387334,1383625962624193546,8498532028676091811,9399754086935153974,11317637306720784765,17260811203177919210,6427576097997697322,9116068151291705539,7592715696027808041,2629151800749243262,7007286002206832825,6216382948874008006,1998347030407657756,16766484511958638138,8899516883271353254,14226173905949225808,11485923223005469204,15385626851002476777,2187251505897268136,8924819469995637033,13567515925198824819,5217270863462422736,7050804516273991350,11153475782318119604,2941924889016668590,8212203176049278890,8752102160057688731,10295913840692754127,14904681115217272601,5431711821321733379,15214748959534726111,1495895850433845275,10888863842102328177,6822071536725586909,12330612334027959195,1205274952441263945,15831126876759372255,18073898193381586223,15895094517606616290,16260866306193365299,12740759652641322565,8219003486749837733,4684226298888400098,10294118229990073760,11824586356888161845,3308634892276815127,1972164579936704799,14746253646979254834,446995266069924076,1000662321505670351,6542358382571353910,5344687154915797982,15539815450414544023,5000232492035539693,15235614512728720,6522051377940421278,1937721966566455358,10042083083395451092,7480016910919988345,14564479935002850509,14736888041290939073,16902440903046159558,12382822922155266910,1956260828630720203,6327569006664949090,12887044766017154078,13831308528885131752,211337195705725219,8157277791214410489,14993981098963755598,18095796173783872564,5362036446546632119,16279288168775177219,15402603294489630176,4321966507151631593,740290905518256060,2768188642542392010,16955839230299176341,772564365185477556,9404705873571188630,8535803893964050539,547895379624588593,13913613514976480042,5459702643516471331,13956191218907399338,7424060955962978353,3721919958574915784,17214186515701724070,3419001889969749887,1915925776726481438,3671519592330383864,9461873434466728008,2483420100392427323,11853640710764476214,17590705303994421779,6170744672141170255,11662115353561507501,9977182230042388008,14842496431369740429,9113380124883318265,12528533614272120300,12717557048674177747,1719895430356276633,17334828202450815106,7867829370405329436,11907897558876765624,16654469307462801742,10842938092177581297,13547939009206843870,14334995849660946996,15433366417846715934,14760874974797668852,2261719852989239553,10958628066121416707]
#check [13134858744069518954,14564555370662651082,5604844568242257923,473948556099728814,15540960557679751451,5278154662435632464,5404398260228975080,2132705950376112619,2646887283097553488,2789304352393801511,12727641955093265886,12461081396071149458,10519837036962490867,11898673842065290130,11401859456886640639,14424681132571578402,3239113980409921550,11564986514327137767,3543459598558145280,16864618592142003386,10611411778653204182,3382625519597670723,9950792792127014553,15240619367488684849,855453113358079251,9757595895972200118,28018229315631829,13444670453868202053,17852080271459398996,11266997524610791606,14819390147424179368,4015202173357781934,14664691819916384248,8159993647027272844,4548300405975405348,9592521066531166775,896878414759379649,9879335643197240621,8997383693586321770,12903330217458380548,11962351593759143498,991626836265849350,14611616552423853409,14404928986312190071,9689729476882780088,1342123614928995077,4493901809537577575,4906484309439969231,4171853373547519906,18328257000508772394,4189273013823423559,8171798328758944481,3726453103677007866,463774138113389760,15499940227032437249,3328118118096588273,5960047855520388891,12747814925858328940,17397653436517662659,1401067106901849026,4561898282857576226,3110587219445414310,11033627544408312984,14782954611325821827,5274481202262711730,12549542988036985293,9510108024173832781,17980500129456985241,7001957589650049515,384561282630992784,10258873121960336067,13394580363473044415,11408881796089955267,13669536469129627823,11421057715548341654,14849461344987154502,599730875272715187,9201617497623189827,5010956058597451964,11205608169257636508,1979317910248211280,3075201292733833056,8318101203651539667,13557862171009465336,8319933024895762948,3713540243193553862,12772213712371865176,12669407529647801677,12314708539913122752,10510056951384868246,628631919661052299,10470340158578859262,8733291241859026926,5725222548895626118,5072417060200589145,5634867526602368427,6631347999910079877,3238445694619138142,17916429707943930468,14935467056822913822,17986951261819808105,8115137120850386438,18003772858949239459,17318462890700432884,3300454383303005205,17678831435119133177,7086961617601330827,9784134513789038367,13437419889732721216,16101134707931498060,1922157984580058403,4683681711962371626,140001813534094272,2827255003249426055,12459912946257978736,16053306600634468012,1950803216711332702,2692750590507578028,13769103115541136327,12960429369202013873,13810262117814702294,866652123128751154,18367749455379333440,16728255500844073214,2259672571474061568,9536688357841153863,10016166984437732892,10551173667578312727,10698057553749749337,2244103112122482387,2399617604181995578,13421457143807847188,2595585439558603231,12408111787983249662,16873086082458093902,2228412568605170491,5622701340561072331,12488014758255163090,1532491051758110099,4323258101793500111,16108870410212019532,13034982811429478159,5890639436620234070,16919654943277366748,10576836333797772347,15173544498738437827,5285915839522022235,17339309145561079191,3099597729799864441,1207101557538958131,5872530126848033075,15042883488752021643,866717566613908145,2107523057676978006,938635154573522699,17744993626210230056,7091221385724896812,14284835775768690865,9582823730064241283,17382457898008728272,5694767641087392711,11066385474520676512,9304451534382375720,17351735930882485243,17170472223608059050,539538531456391632,7046044490832178742,13855379610559885079,12917704675397863716,2466311954974566718,3919386906821981792,3300257896294614128,13674586047789940208,13053770412826190925,16226643914720891334,9860861378791804195,7933485763601977624,17062427158221528723,5832305185047221409,14154597600763967237,16409965706819354750,10876078143196172821,4635989785427082552,5438652380644606353,17267597263503486738,3985964047577975286,6248682570935725439,13307065042914920193,13757698761724263525,3303267245142563540,13215348057498601715,643336161829623379,8428246938381088814,10374632558016547081,6945566481307383155,8297923619242306668,13946496683202179788,6060609690816243450,1293241653719404408,4075453323654395381]
#check [5101696844757716304,11823594873375168262,3365755272349913518,16615150188913437886,9615563845995560447,17338325484393633139,896239598344801917,14903569129155370506,15621415185263527259,14958820412457663293,14391293386007564604,10879749546641988924,14727194681476072466,15401437161963490237,1142673529048489019,8186657734068701312,18293242582946804979,6148498323302512570,354308444213283272,2576523973992343609,6607644564249050058,12188032599808994241,5537553045615171315,14782755387869428366,11692469974320434101,3042748168174471775,3215387988796971590,3641951560692057861,14172470266813156586,15685335758407661847,16756451883985382160,2358075552688931204,10341888390210383824,5002640475654186023,15438627641174518403,5449601097390414333,10826640976665885199,14170518179582410385,8080008513338510535,6056707288978253535,2400638427578300857,3374319085511977134,6105849179199505303,5323657890516693427,7476452910721959123,16298917771340976007,1717767836212652739,14961746396406840608,8431482922422412695,3953844824629472508,17187875760726034783,4699756791338806529,16120054744476736488,4077048163395320219,13462424878891718212,2353497105660221152,1708089923452030704,16822532161544500889,16682895059504647277,12147665669636231765,12954591660760965231,12099505692703838030,3681537716864247207,5702276774652866934,6128145076113358165,3778530596728393105,18101783494082082527,10624116801336726872,10792498714594961201,2314633323536394700,1599053048872161195,12431713363859531893,5498123283257192965,15554417296805563061,4734895289157585001,8374155422468719031,6030501089693204938,12670982853097334264,6356304189028158447,11766667032028208565,3475869608268796686,16203965252921439515]
end PySem.W.Fast
set_option maxHeartbeats 0 in
open_top hd for PySem.Challenge.rw_loanroll_k93_entries_in_words
/-! THE HAND LAYER, for ints, bools, texts, own classes, LISTS and tuples (index, slices, in, append, pop ..), calls, loops. Paste it whole ahead of your own text; what your proof does not reach may be deleted. -/
namespace L2
open PySem PySem.Spec PyProof.Rows

/-- a key: an int or a str -/
abbrev Key := Sum Int Str
def keyIs : Key → Value → Bool
  | .inl k, v => Value.isInt k v
  | .inr x, v => Value.isStrOf x v
def keyH (w : World) : Key → Int
  | .inl k => hashInt k
  | .inr x => hashStr w x
theorem keyIs_shape : ∀ {k : Key} {v : Value}, keyIs k v = true → (∃ i t, k = Sum.inl i ∧ v = Value.int i t) ∨ (∃ x t, k = Sum.inr x ∧ v = Value.str x t)
  | .inl i, v, h => by
    obtain ⟨t, e⟩ := Value.isInt_shape (k := i) (v := v) h
    exact .inl ⟨i, t, rfl, e⟩
  | .inr x, v, h => by
    obtain ⟨t, e⟩ := Value.isStrOf_shape (x := x) (v := v) h
    exact .inr ⟨x, t, rfl, e⟩
theorem key_ll (a b : Int) : decide ((Sum.inl a : Key) = Sum.inl b) = (a == b) := by
  by_cases e : a = b
  · subst e; simp
  · have h : ¬ (Sum.inl a : Key) = Sum.inl b := fun q => e (Sum.inl.inj q)
    rw [decide_eq_false h]
    exact (beq_eq_false_iff_ne.mpr e).symm
theorem key_rr (a b : Str) : decide ((Sum.inr a : Key) = Sum.inr b) = decide (a = b) := by
  by_cases e : a = b
  · subst e; simp
  · have h : ¬ (Sum.inr a : Key) = Sum.inr b := fun q => e (Sum.inr.inj q)
    rw [decide_eq_false h, decide_eq_false e]
theorem key_lr (a : Int) (b : Str) : decide ((Sum.inl a : Key) = Sum.inr b) = false := decide_eq_false (fun q => nomatch q)
theorem key_rl (a : Str) (b : Int) : decide ((Sum.inr a : Key) = Sum.inl b) = false := decide_eq_false (fun q => nomatch q)

def mixKind (prog : Program) (w : World) : PySem.KeyKind prog w Key where
  is := keyIs
  hash := keyH w
  inj := fun v a b ha hb => by
    rcases keyIs_shape ha with ⟨i, t, rfl, rfl⟩ | ⟨x, t, rfl, rfl⟩
    · rcases keyIs_shape hb with ⟨j, u, rfl, e⟩ | ⟨y, u, rfl, e⟩
      · injection e with e1 _; rw [e1]
      · exact nomatch e
    · rcases keyIs_shape hb with ⟨j, u, rfl, e⟩ | ⟨y, u, rfl, e⟩
      · exact nomatch e
      · injection e with e1 _; rw [e1]
  byValue := fun k v h => by
    rcases keyIs_shape h with ⟨i, t, rfl, rfl⟩ | ⟨x, t, rfl, rfl⟩ <;> rfl
  pyHash := fun hv h => by
    rcases keyIs_shape hv with ⟨i, t, rfl, rfl⟩ | ⟨x, t, rfl, rfl⟩
    · exact wpAny_pyHash_int h
    · exact wpAny_pyHash_str h
  eqBool := fun hu hv h => by
    rcases keyIs_shape hu with ⟨i, t, rfl, rfl⟩ | ⟨x, t, rfl, rfl⟩
    · rcases keyIs_shape hv with ⟨j, u, rfl, rfl⟩ | ⟨y, u, rfl, rfl⟩
      · rw [key_ll] at h; exact wpAny_eqBool_int h
      · rw [key_lr] at h; exact SeqAt.EqAt.int_str i t y u _ _ _ _ h
    · rcases keyIs_shape hv with ⟨j, u, rfl, rfl⟩ | ⟨y, u, rfl, rfl⟩
      · rw [key_rl] at h; exact SeqAt.EqAt.str_int x t j u _ _ _ _ h
      · rw [key_rr] at h; exact wpAny_eqBool_str h
  «strs» := fun k x t v h => by
    rcases keyIs_shape h with ⟨i, u, rfl, e⟩ | ⟨y, u, rfl, e⟩
    · exact nomatch e
    · injection e with e1 _
      subst e1
      cases v <;> rfl

end L2

namespace L2
open PySem PySem.Spec PyProof.Rows

/-- a value, without the heap -/
inductive V where
  | non | bl (b : Bool) | int (i : Int) | str (x : Str) | byt (b : Array UInt8) | flt (b : UInt64) | ref (a : Addr) | ty (n : String)
  deriving DecidableEq

def RelV : V → Value → Prop
  | .non, u => u = Value.none
  | .bl b, u => u = Value.bool b
  | .int i, u => ∃ t, u = Value.int i t
  | .str x, u => ∃ t, u = Value.str x t
  | .byt b, u => ∃ t, u = Value.bytes b t
  | .flt b, u => ∃ t, u = Value.float b t
  | .ref a, u => u = Value.ref a
  | .ty n, u => u = Value.type n

abbrev Vals : List V → List Value → Prop := Paired RelV
theorem Vals.length {xs : List V} {us : List Value} (r : Vals xs us) : xs.length = us.length := Paired.length r
theorem Vals.get : ∀ {xs : List V} {us : List Value} {i : Nat} {x : V}, Vals xs us → xs[i]? = some x → ∃ u, us[i]? = some u ∧ RelV x u
  | _, _, _, _, .nil, e => by simp at e
  | _, _, 0, _, .cons r _, e => by simp at e; subst e; exact ⟨_, rfl, r⟩
  | _, _, i + 1, x, .cons _ t, e => by
    obtain ⟨u, h1, h2⟩ := Vals.get (i := i) (x := x) t (by simpa using e)
    exact ⟨u, by simpa using h1, h2⟩
theorem Vals.append : ∀ {xs ys : List V} {us ws : List Value}, Vals xs us → Vals ys ws → Vals (xs ++ ys) (us ++ ws)
  | _, _, _, _, .nil, s => s
  | _, _, _, _, .cons r t, s => .cons r (Vals.append t s)
theorem Vals.take : ∀ {xs : List V} {us : List Value} (n : Nat), Vals xs us → Vals (xs.take n) (us.take n)
  | _, _, 0, _ => .nil
  | _, _, _ + 1, .nil => .nil
  | _, _, n + 1, .cons r t => .cons r (Vals.take n t)
theorem Vals.drop : ∀ {xs : List V} {us : List Value} (n : Nat), Vals xs us → Vals (xs.drop n) (us.drop n)
  | _, _, 0, r => r
  | _, _, _ + 1, .nil => .nil
  | _, _, n + 1, .cons _ t => Vals.drop n t
def RelO : Option V → Option Value → Prop
  | some v, some u => RelV v u
  | none, none => True
  | _, _ => False
def KV {κ : Type} : List (κ × V) → List (κ × Value) → Prop := Paired fun (p : κ × V) (q : κ × Value) => p.1 = q.1 ∧ RelV p.2 q.2

/-- what stands at a tracked address -/
inductive HO where
  /-- a list -/
  | lst (xs : List V)
  /-- a tuple (never changes) -/
  | tup (xs : List V)
  /-- a dict whose keys are ints and texts; one whose keys are tuples of ints and texts (the empty one is both) -/
  | dK (kvs : List (Key × V))
  /-- a set of ints: its members, its size -/
  | set (S : Int → Bool) (n : Nat)
  /-- an instance of the class at C, its dict at dx, its attributes -/
  | ins (C dx : Addr) (fs : List (Str × V))
  /-- the dict of the instance at x -/
  | own (x : Addr)
  /-- the dict of an exception -/
  | xd (fs : List (Str × V))
  /-- a bound method, f of x -/
  | met (f x : Addr)
  /-- a range object lo, lo + 1, .. below hi -/
  | rng (lo hi : Int)
  /-- a thing that is known to the object (the script; a dict while a loop walks it): read, never written while it is so -/
  | frz (o : Obj) (u : HO)
  /-- a code object's table -/
  | tbl (ps : Array Value)
  /-- any other thing, by what is true of its one object (a def of one's own: SetO a S n := HO.ext fun h => ..) -/
  | ext (φ : Heap → Prop)

abbrev Hp := Addr → Option HO
def upd (H : Hp) (a : Addr) (o : HO) : Hp := fun b => if b = a then some o else H b
theorem upd_same {H : Hp} {a : Addr} {o : HO} : upd H a o a = some o := by unfold upd; rw [if_pos rfl]
theorem upd_ne {H : Hp} {a b : Addr} {o : HO} (h : b ≠ a) : upd H a o b = H b := by unfold upd; rw [if_neg h]
theorem upd_upd {H : Hp} {a : Addr} {o u : HO} : upd (upd H a o) a u = upd H a u := by
  funext b; unfold upd; split <;> rfl
/-- two objects of different content stand apart -/
theorem ne_of {H : Hp} {a b : Addr} {o u : HO} (h : H a = some o) (h' : H b = some u) (d : o ≠ u) : a ≠ b := by
  intro e; subst e; rw [h] at h'; exact d (Option.some.inj h')
theorem ne_of_none {H : Hp} {a b : Addr} {o : HO} (h : H a = some o) (h' : H b = none) : a ≠ b := by
  intro e; subst e; rw [h] at h'; cases h'

section
variable (P : Program) (w : World)
def ObjOk (H : Hp) (h : Heap) (a : Addr) : HO → Prop
  | .lst xs => xs.length ≤ sizeLine ∧ ∃ (its : List Value) (n : Nat), Vals xs its ∧ h.get? a = some { cls := .type "list", data := .seq its.toArray n }
  | .tup xs => xs.length ≤ sizeLine ∧ ∃ its : List Value, Vals xs its ∧ IsTup h a its.toArray
  | .dK kvs => kvs.length ≤ sizeLine ∧ (a == sysModules) = false ∧ ∃ vs, KV kvs vs ∧ h.DictOf (mixKind P w) a vs
  | .set S n => h.SetOf (intKind P w) a S n
  | .ins C dx fs => H dx = some (.own a) ∧ fs.length ≤ 1000 ∧ dx ≠ a ∧ h.get? a = some (PySem.W.instObj C dx) ∧
      ∃ mA, h.Ns1 dx mA ∧ (∀ f, RelO (fs.lookup f) (mA f)) ∧ PySem.Within mA (fs.map (·.1))
  | .own _ => ∃ o, h.get? a = some o
  | .xd fs => ∃ mA, h.Ns1 a mA ∧ ∀ f, RelO (fs.lookup f) (mA f)
  | .rng lo hi => ∃ t u v, h.get? a = some { cls := .type "range", data := .fields #[.int lo t, .int hi u, .int 1 v] }
  | .frz o u => h.get? a = some o ∧ ObjOk H h a u
  | .tbl ps => h.get? a = some { cls := .none, data := .fields ps }
  | .met f x => h.get? a = some (PySem.W.methodObj (.ref f) (.ref x))
  | .ext φ => φ h ∧ (∃ o, h.get? a = some o) ∧ ∀ h1 h2 : Heap, φ h1 → (∀ o, h1.get? a = some o → h2.get? a = some o) → φ h2
/-- the abstract heap is held -/
def HOk (H : Hp) (h : Heap) : Prop := ∀ a o, H a = some o → ObjOk P w H h a o
end

section
variable {P : Program} {w : World} {H H' : Hp} {h h' : Heap} {a : Addr} {o : HO}
theorem ObjOk.lt (x : ObjOk P w H h a o) : a < h.objs.size := by
  cases o with
  | lst xs => obtain ⟨_, _, _, _, e⟩ := x; exact Heap.lt_size e
  | tup xs => obtain ⟨_, _, _, p⟩ := x; exact p.lt
  | dK kvs => obtain ⟨_, _, _, _, o, _, _, e, _⟩ := x; exact Heap.lt_size e
  | set S n => obtain ⟨o, _, _, _, e, _⟩ := x; exact Heap.lt_size e
  | ins C dx fs => obtain ⟨_, _, _, e, _⟩ := x; exact Heap.lt_size e
  | own y => obtain ⟨_, e⟩ := x; exact Heap.lt_size e
  | xd fs => obtain ⟨_, ⟨_, _, _, e, _⟩, _⟩ := x; exact Heap.lt_size e
  | rng lo hi => obtain ⟨_, _, _, e⟩ := x; exact Heap.lt_size e
  | frz ob u => obtain ⟨e, _⟩ := x; exact Heap.lt_size e
  | tbl ps => exact Heap.lt_size (show h.get? a = some _ from x)
  | met f y => exact Heap.lt_size (show h.get? a = some _ from x)
  | ext φ => obtain ⟨_, ⟨_, e⟩, _⟩ := x; exact Heap.lt_size e
/-- what an object's description leans on: its own object, its own dict, the tuples -/
theorem ObjOk.stay (x : ObjOk P w H h a o) (k : ∀ b u, (b = a ∨ H b = some (.own a)) → h.get? b = some u → h'.get? b = some u)
    (ho : ∀ b, H b = some (.own a) → H' b = some (.own a)) (ht : ∀ b xs, H b = some (.tup xs) → H' b = some (.tup xs)) : ObjOk P w H' h' a o := by
  induction o with
  | lst xs => obtain ⟨z, its, n, r, e⟩ := x; exact ⟨z, its, n, r, k _ _ (.inl rfl) e⟩
  | tup xs => obtain ⟨z, its, r, ob, e, c⟩ := x; exact ⟨z, its, r, ob, k _ _ (.inl rfl) e, c⟩
  | dK kvs => obtain ⟨z, y, vs, r, ob, es, ep, e, c⟩ := x; exact ⟨z, y, vs, r, ob, es, ep, k _ _ (.inl rfl) e, c⟩
  | set S n => obtain ⟨ob, es, ep, t, e, c⟩ := x; exact ⟨ob, es, ep, t, k _ _ (.inl rfl) e, c⟩
  | ins C dx fs =>
    obtain ⟨d, z, ne, e, mA, ⟨od, es, ep, e2, c⟩, r⟩ := x
    exact ⟨ho _ d, z, ne, k _ _ (.inl rfl) e, mA, ⟨od, es, ep, k _ _ (.inr d) e2, c⟩, r⟩
  | own y => obtain ⟨ob, e⟩ := x; exact ⟨ob, k _ _ (.inl rfl) e⟩
  | xd fs => obtain ⟨mA, ⟨od, es, ep, e, c⟩, r⟩ := x; exact ⟨mA, ⟨od, es, ep, k _ _ (.inl rfl) e, c⟩, r⟩
  | rng lo hi => obtain ⟨t, u, v, e⟩ := x; exact ⟨t, u, v, k _ _ (.inl rfl) e⟩
  | frz ob u ih => obtain ⟨e, q⟩ := x; exact ⟨k _ _ (.inl rfl) e, ih q⟩
  | tbl ps =>
    have e : h.get? a = some { cls := .none, data := .fields ps } := x
    show h'.get? a = some { cls := .none, data := .fields ps }
    exact k a _ (.inl rfl) e
  | met f y =>
    have e : h.get? a = some (PySem.W.methodObj (.ref f) (.ref y)) := x
    show h'.get? a = some (PySem.W.methodObj (.ref f) (.ref y))
    exact k a _ (.inl rfl) e
  | ext φ => obtain ⟨p, ⟨o, e⟩, st⟩ := x; exact ⟨st _ _ p fun o q => k _ _ (.inl rfl) q, ⟨o, k _ _ (.inl rfl) e⟩, st⟩
theorem HOk.lt (x : HOk P w H h) (e : H a = some o) : a < h.objs.size := (x a o e).lt
theorem HOk.fresh (x : HOk P w H h) (e : h.objs.size ≤ a) : H a = none := by
  cases q : H a with
  | none => rfl
  | some u => exact absurd (Nat.lt_of_lt_of_le (x.lt q) e) (Nat.lt_irrefl _)
/-- every object of the heap is kept -/
theorem HOk.kept (x : HOk P w H h) (k : ∀ b u, h.get? b = some u → h'.get? b = some u) : HOk P w H h' := fun a o e =>
  (x a o e).stay (fun b u _ q => k b u q) (fun _ q => q) fun _ _ q => q
/-- a new object is laid and tracked -/
theorem HOk.laid (x : HOk P w H h) (k : ∀ b u, h.get? b = some u → h'.get? b = some u) (hp : h.objs.size ≤ a) (new : ObjOk P w (upd H a o) h' a o) : HOk P w (upd H a o) h' := fun b u e => by
  have hn := x.fresh hp
  by_cases hb : b = a
  · subst hb; rw [upd_same] at e; cases e; exact new
  · rw [upd_ne hb] at e
    exact (x b u e).stay (fun c v _ q => k c v q) (fun c q => by rw [upd_ne (ne_of_none q hn)]; exact q) fun c xs q => by rw [upd_ne (ne_of_none q hn)]; exact q
end

/-- what may be read as u: it is u, or a known u -/
def Rd (H : Hp) (a : Addr) (u : HO) : Prop := H a = some u ∨ ∃ o, H a = some (.frz o u)
theorem Rd.ok {P : Program} {w : World} {H : Hp} {h : Heap} {a : Addr} {u : HO} (r : Rd H a u) (x : HOk P w H h) : ObjOk P w H h a u := by
  rcases r with r | ⟨o, r⟩
  · exact x a u r
  · obtain ⟨_, q⟩ := x a _ r
    exact q
/-- what may be written -/
def Mut : Option HO → Prop
  | some (.lst _) => True
  | some (.dK _) => True
  | some (.set _ _) => True
  | some (.ins _ _ _) => True
  | some (.ext _) => True
  | _ => False
section
variable {P : Program} {w : World} {H : Hp} {h h' : Heap} {x e : Addr} {o' : HO}
/-- the object at e is changed: x itself, or the dict of the instance x -/
theorem HOk.write (ok : HOk P w H h) (mu : Mut (H x)) (he : e = x ∨ H e = some (.own x)) (k : ∀ b u, b ≠ e → h.get? b = some u → h'.get? b = some u) (heo : ∃ u, h'.get? e = some u)
    (new : ObjOk P w (upd H x o') h' x o') : HOk P w (upd H x o') h' := fun b u q => by
  have nown : ∀ c y, H c = some (.own y) → c ≠ x := fun c y r z => by subst z; rw [r] at mu; exact mu
  have ntup : ∀ c xs, H c = some (.tup xs) → c ≠ x := fun c xs r z => by subst z; rw [r] at mu; exact mu
  by_cases hb : b = x
  · subst hb; rw [upd_same] at q; cases q; exact new
  · rw [upd_ne hb] at q
    by_cases hbe : b = e
    · have q' : H b = some (.own x) := by
        rcases he with z | z
        · exact absurd (hbe.trans z) hb
        · rw [hbe]; exact z
      rw [q] at q'; cases q'
      obtain ⟨v, hv⟩ := heo
      exact ⟨v, by rw [hbe]; exact hv⟩
    · refine (ok b u q).stay (fun c v hc r => k c v ?_ r) (fun c r => by rw [upd_ne (nown c b r)]; exact r) fun c xs r => by rw [upd_ne (ntup c xs r)]; exact r
      rcases hc with rfl | hc
      · exact hbe
      · rintro rfl
        rcases he with z | z
        · exact nown c b hc z
        · rw [hc] at z; cases z; exact hb rfl
end

/-! ### kept unless tracked; of the frames at fs (the callers') the slots may change (an exception that passes writes there); of the records at ex (iterators) nothing is said -/
structure Un (fs ex : List Addr) (H H' : Hp) (h h' : Heap) : Prop where
  keep : ∀ b o, h.get? b = some o → H b = none → b ∉ fs → b ∉ ex → h'.get? b = some o
  slot : ∀ b o, h.get? b = some o → H b = none → b ∈ fs → b ∉ ex → ∃ sl, h'.get? b = some { o with slots := sl }
  free : ∀ b o, h.get? b = some o → H b = none → b ∉ ex → H' b = none
  there : ∀ b o, h.get? b = some o → b ∉ ex → ∃ o', h'.get? b = some o'
  tups : ∀ b xs, H b = some (.tup xs) → H' b = some (.tup xs)
  frzs : ∀ b o u, H b = some (.frz o u) → H' b = some (.frz o u)
  tbls : ∀ b ps, H b = some (.tbl ps) → ∃ more, H' b = some (.tbl (ps ++ more))
section
variable {fs fs' ex ex' : List Addr} {H H1 H2 : Hp} {h h1 h2 h' : Heap} {a x e : Addr} {o : HO}
theorem Un.any (u : Un fs ex H H1 h h1) {b : Addr} {ob : Obj} (q : h.get? b = some ob) (n : H b = none) (hx : b ∉ ex) : ∃ sl, h1.get? b = some { ob with slots := sl } := by
  by_cases hb : b ∈ fs
  · exact u.slot b ob q n hb hx
  · exact ⟨ob.slots, u.keep b ob q n hb hx⟩
theorem Un.kept (k : ∀ b u, h.get? b = some u → h'.get? b = some u) : Un fs ex H H h h' :=
  ⟨fun b ob q _ _ _ => k b ob q, fun b ob q _ _ _ => ⟨ob.slots, k b ob q⟩, fun _ _ _ n _ => n, fun b ob q _ => ⟨ob, k b ob q⟩, fun _ _ q => q, fun _ _ _ q => q, fun _ ps q => ⟨#[], by rw [q]; simp⟩⟩
theorem Un.refl : Un fs ex H H h h := Un.kept fun _ _ q => q
theorem Un.laid (k : ∀ b u, h.get? b = some u → h'.get? b = some u) (hp : h.objs.size ≤ a) (hn : H a = none) : Un fs ex H (upd H a o) h h' where
  keep := fun b u q _ _ _ => k b u q
  slot := fun b u q _ _ _ => ⟨u.slots, k b u q⟩
  free := fun b u q n _ => by rw [upd_ne (Nat.ne_of_lt (Nat.lt_of_lt_of_le (Heap.lt_size q) hp))]; exact n
  there := fun b u q _ => ⟨u, k b u q⟩
  tups := fun b xs q => by rw [upd_ne (ne_of_none q hn)]; exact q
  frzs := fun b u xs q => by rw [upd_ne (ne_of_none q hn)]; exact q
  tbls := fun b ps q => ⟨#[], by rw [upd_ne (ne_of_none q hn), q]; simp⟩
theorem Un.write (mu : Mut (H x)) (he : e = x ∨ H e = some (.own x)) (k : ∀ b u, b ≠ e → h.get? b = some u → h'.get? b = some u) (heo : ∃ u, h'.get? e = some u) : Un fs ex H (upd H x o) h h' := by
  have hx : ∀ b, H b = none → b ≠ x := fun b n z => by subst z; rw [n] at mu; exact mu
  have hb : ∀ b, H b = none → b ≠ e := fun b n z => by
    subst z
    rcases he with r | r
    · exact hx b n r
    · rw [n] at r; cases r
  have hm : ∀ b u, H b = some u → ¬ Mut (some u) → b ≠ x := fun b u q nm z => by subst z; rw [q] at mu; exact nm mu
  refine ⟨fun b u q n _ _ => k b u (hb b n) q, fun b u q n _ _ => ⟨u.slots, k b u (hb b n) q⟩, fun b u q n _ => by rw [upd_ne (hx b n)]; exact n, fun b u q _ => ?_,
    fun b xs q => by rw [upd_ne (hm b _ q fun z => z)]; exact q, fun b u xs q => by rw [upd_ne (hm b _ q fun z => z)]; exact q, fun b ps q => ⟨#[], by rw [upd_ne (hm b _ q fun z => z), q]; simp⟩⟩
  by_cases hbe : b = e
  · subst hbe; exact heo
  · exact ⟨u, k b u hbe q⟩
end

/-! ### the heap without what is tracked -/
def trk (h : Heap) (H : Hp) : List Addr := (List.range h.objs.size).filter fun a => (H a).isSome
def hidT (h : Heap) (H : Hp) : Heap := PySem.W.hideAll h (trk h H)
theorem hidT_size (h : Heap) (H : Hp) : (hidT h H).objs.size = h.objs.size := PySem.W.hideAll_size _ _
theorem hidT_get {h : Heap} {H : Hp} {b : Addr} {o : Obj} (e : h.get? b = some o) (n : H b = none) : (hidT h H).get? b = some o :=
  PySem.W.hideAll_get _ e fun hm => by
    have q : (H b).isSome = true := (List.mem_filter.mp hm).2
    rw [n] at q; simp at q
theorem of_hidT {h : Heap} {H : Hp} {b : Addr} {o : Obj} (e : (hidT h H).get? b = some o) : h.get? b = some o ∧ H b = none := by
  have e' : h.get? b = some o := PySem.W.of_hideAll (trk h H) e
  refine ⟨e', ?_⟩
  cases q : H b with
  | none => rfl
  | some x =>
    have hm : b ∈ trk h H := List.mem_filter.mpr ⟨List.mem_range.mpr (Heap.lt_size e'), by simp [q]⟩
    have z : (hidT h H).get? b = none := PySem.W.hideAll_none (trk h H) hm
    rw [z] at e; cases e

/-! ### OpenK's ledger, filled with every new object but one -/
def allNews (g h : Heap) (L : Addr) : List (Addr × Obj) := (List.range h.objs.size).filterMap fun a => if a = L ∨ (g.get? a).isSome = true then none else (h.get? a).map fun o => (a, o)
def rest (g h : Heap) (L d : Addr) : List (Addr × Obj) := (allNews g h L).filter fun p => decide (p.1 ≠ d)
end L2

namespace L2
open PySem PySem.Spec PyProof.Rows

/-- the module's facts, over the base: the heap at the law's entry without what is tracked there -/
structure Mod (K : PySem.W.Frag) (mg : Str → Option Value) (base : Heap) : Prop where
  kin : K.In base
  glob : base.Ns mainGlobals mg
  blt : ∃ mb, base.Ns builtinsNs mb ∧ ∀ x : Str, x ≠ "__name__" → mb x = bootBuiltins x
  nolimit : base.NoLimit

/-- the context: a def's body (or a comprehension's block) running. base: fixed through the whole law; s₀, H₀: the entry; outer: the frames whose slots others may change (a def's callers); stack: all frames that run;
   ex: iterators that were made ahead of the entry and are walked here (a comprehension's); fn: the names whose cells were made at the entry (a def: all; a comprehension's block: its own); calm: not within an except suite; pn: pins that every state bears; xe: what is wanted of an exception that leaves the code -/
structure Cx where
  prog : Program
  w : World
  K : PySem.W.Frag
  mg : Str → Option Value
  base : Heap
  A : Around
  N : List Str
  s₀ : Shared
  H₀ : Hp
  env : Env
  outer : List Env
  stack : List Env
  ex : List Addr
  fn : Str → Bool
  calm : Bool
  pn : List (Addr × Obj)
  xe : Value → Shared → Prop
/-- the callers' frames -/
def frs (l : List Env) : List Addr := l.filterMap (·.frame)
abbrev Cx.fs (X : Cx) : List Addr := frs X.outer

def Vis (sc : Scope) (x : Str) : Prop := sc.names.lookup x = some .local ∨ sc.names.lookup x = some .cell ∨ sc.names.lookup x = some .free
def Loc (sc : Scope) (x : Str) : Prop := sc.names.lookup x = some .local ∨ sc.names.lookup x = some .cell
def Look (env : Env) (h : Heap) (m : Str → Option Value) (x : Str) (u : Value) : Prop :=
  (env.kindOf x = some .local ∧ m x = some u) ∨ ((env.kindOf x = some .cell ∨ env.kindOf x = some .free) ∧ ∃ c, env.cells.lookup x = some c ∧ h.IsCell c (some u))

structure Cx.Ok (X : Cx) : Prop where
  mod : Mod X.K X.mg X.base
  kind : X.env.scope.kind = .function
  glob : X.env.globals = mainGlobals
  blt : X.env.builtins = builtinsNs
  above : X.s₀.heap.objs.size ≤ X.env.locals
  inj : ∀ x y c, X.env.cells.lookup x = some c → X.env.cells.lookup y = some c → x = y
  has : ∀ x, (X.env.kindOf x = some .cell ∨ X.env.kindOf x = some .free) → ∃ c, X.env.cells.lookup x = some c
  cab : ∀ x c, X.fn x = true → X.env.cells.lookup x = some c → X.s₀.heap.objs.size ≤ c
  hd : X.calm = true → X.A.handled = none
  frames : X.A.frames = some X.stack
  stk : X.stack = X.outer ∨ (X.stack = X.env :: X.outer ∧ X.env.frame = some X.env.locals)
  exf : ∀ b ∈ X.ex, b ≠ X.env.locals ∧ ∀ x c, X.env.cells.lookup x = some c → c ≠ b
  bs : ∀ b o, X.base.get? b = some o → X.s₀.heap.get? b = some o ∧ X.H₀ b = none
  bsz : X.base.objs.size ≤ X.s₀.heap.objs.size
  noex : ∀ b o, X.base.get? b = some o → b ∉ X.ex
  exfs : ∀ b ∈ X.ex, b ∉ X.fs
  funs : X.s₀.heap.FunFrames X.base X.outer
  frf : ∀ b ∈ X.fs, X.H₀ b = none

structure Inv (X : Cx) (pins : List (Addr × Obj)) (σ : List (Option V)) (H : Hp) (s : Shared) : Prop where
  ok : X.Ok
  os : s.os = X.s₀.os
  bare : AllBare s.gens
  base : Un X.fs X.ex X.H₀ H X.s₀.heap s.heap
  loc : ∃ m, s.heap.Ns X.env.locals m ∧ ∀ (i : Nat) (x : Str) (v : V), X.N[i]? = some x → σ[i]? = some (some v) → Vis X.env.scope x → ∃ u, RelV v u ∧ Look X.env s.heap m x u
  cell : ∀ x c, X.env.cells.lookup x = some c → ∃ v, s.heap.IsCell c v
  free : H X.env.locals = none
  freeC : ∀ x c, X.env.cells.lookup x = some c → H c = none
  pin : ∀ p ∈ X.pn ++ pins, s.heap.get? p.1 = some p.2 ∧ H p.1 = none ∧ p.1 ≠ X.env.locals ∧ p.1 ∉ X.fs ∧ ∀ v, p.2.data ≠ .cell v
  hok : HOk X.prog X.w H s.heap
  len : σ.length = X.N.length

section
variable {X : Cx} {pins : List (Addr × Obj)} {σ : List (Option V)} {H H' : Hp} {s : Shared} {h' : Heap}

theorem Cx.Ok.nofr (ok : X.Ok) {b : Addr} {o : Obj} (e : X.base.get? b = some o) : b ∉ X.fs := fun hb => by
  have := (ok.funs.mem hb).1
  rw [e] at this; cases this
theorem Inv.bs (I : Inv X pins σ H s) : ∀ b o, X.base.get? b = some o → s.heap.get? b = some o ∧ H b = none := fun b o e =>
  ⟨I.base.keep b o (I.ok.bs b o e).1 (I.ok.bs b o e).2 (I.ok.nofr e) (I.ok.noex b o e), I.base.free b o (I.ok.bs b o e).1 (I.ok.bs b o e).2 (I.ok.noex b o e)⟩
theorem Inv.bk (I : Inv X pins σ H s) : ∀ b o, X.base.get? b = some o → s.heap.get? b = some o := fun b o e => (I.bs b o e).1
theorem Inv.mod (I : Inv X pins σ H s) : Mod X.K X.mg X.base := I.ok.mod
theorem Inv.kIn (I : Inv X pins σ H s) : X.K.In s.heap := I.ok.mod.kin.keeps I.bk
theorem Inv.lt (I : Inv X pins σ H s) : X.env.locals < s.heap.objs.size := let ⟨_, hn, _⟩ := I.loc; hn.lt
theorem Inv.sz (I : Inv X pins σ H s) : X.s₀.heap.objs.size ≤ s.heap.objs.size := Nat.le_trans I.ok.above (Nat.le_of_lt I.lt)
theorem Inv.nofs (I : Inv X pins σ H s) {a : Addr} (h : s.heap.objs.size ≤ a) : a ∉ X.fs := fun hb => by
  obtain ⟨_, o, ho, _⟩ := I.ok.funs.mem hb
  exact absurd (Nat.lt_of_lt_of_le (Heap.lt_size ho) (Nat.le_trans I.sz h)) (Nat.lt_irrefl _)
theorem Inv.cne (I : Inv X pins σ H s) : ∀ x c, X.env.cells.lookup x = some c → c ≠ X.env.locals := fun x c e z => by
  obtain ⟨v, o, ho, hd⟩ := I.cell x c e
  obtain ⟨m, ⟨o', es, ep, ho', hd', _⟩, _⟩ := I.loc
  rw [z, ho'] at ho; cases ho; rw [hd'] at hd; cases hd
theorem Inv.funs (I : Inv X pins σ H s) : s.heap.FunFrames X.base X.outer := by
  have all : ∀ (l : List Env), (∀ b ∈ frs l, b ∈ X.fs) → X.s₀.heap.FunFrames X.base l → s.heap.FunFrames X.base l := by
    intro l
    induction l with
    | nil => intro _ _; trivial
    | cons env r ih =>
      intro hs hl
      obtain ⟨hk, ⟨L, o, hf, hn, ho, hd⟩, hr⟩ := hl
      have hL : L ∈ X.fs := hs L (by unfold frs; rw [List.filterMap_cons, hf]; exact List.mem_cons_self)
      obtain ⟨sl, e⟩ := I.base.slot L o ho (I.ok.frf L hL) hL fun z => I.ok.exfs L z hL
      exact ⟨hk, ⟨L, _, hf, hn, e, hd⟩, ih (fun b hb => hs b (by unfold frs; rw [List.filterMap_cons, hf]; exact List.mem_cons_of_mem _ hb)) hr⟩
  exact all X.outer (fun _ hb => hb) I.ok.funs

/-- the frames that run, for a call -/
theorem Inv.stack (I : Inv X pins σ H s) : s.heap.FunFrames X.base X.stack := by
  rcases I.ok.stk with e | ⟨e, hf⟩
  · rw [e]; exact I.funs
  · rw [e]
    obtain ⟨m, hn, _⟩ := I.loc
    refine .cons (by rw [I.ok.kind]; decide) hf hn ?_ I.funs
    exact Heap.get?_none_of_le (Nat.le_trans I.ok.bsz I.ok.above)
theorem Inv.stkSub (I : Inv X pins σ H s) : ∀ b ∈ frs X.stack, b ∈ X.env.locals :: X.fs := fun b hb => by
  rcases I.ok.stk with e | ⟨e, hf⟩
  · rw [e] at hb; exact List.mem_cons_of_mem _ hb
  · rw [e] at hb
    unfold frs at hb
    rw [List.filterMap_cons, hf] at hb
    exact hb
theorem Inv.stkFree (I : Inv X pins σ H s) : ∀ b ∈ frs X.stack, H b = none := fun b hb => by
  rcases List.mem_cons.mp (I.stkSub b hb) with e | hb
  · rw [e]; exact I.free
  · obtain ⟨_, o, ho, _⟩ := I.ok.funs.mem hb
    exact I.base.free b o ho (I.ok.frf b hb) fun z => I.ok.exfs b z hb

/-- THE STEP: the untracked objects but the frame and the records at ch are kept (the callers' frames up to slots), the frame's map is kept, the new abstract heap is held -/
theorem Inv.step {g' : Array GenState} {t' : Nat} {d' : Drawn} {ch : List Addr} (I : Inv X pins σ H s)
    (hch : ∀ b ∈ ch, (b ∈ X.ex ∨ X.s₀.heap.objs.size ≤ b) ∧ b ≠ X.env.locals ∧ (∀ x c, X.env.cells.lookup x = some c → c ≠ b) ∧ ∀ p ∈ X.pn ++ pins, p.1 ≠ b)
    (keep : ∀ b o, b ≠ X.env.locals → b ∉ X.fs → b ∉ ch → s.heap.get? b = some o → H b = none → h'.get? b = some o)
    (slot : ∀ b o, b ≠ X.env.locals → b ∈ X.fs → b ∉ ch → s.heap.get? b = some o → H b = none → ∃ sl, h'.get? b = some { o with slots := sl }) (free : ∀ b o, b ∉ ch → s.heap.get? b = some o → H b = none → H' b = none)
    (there : ∀ b o, b ∉ ch → s.heap.get? b = some o → ∃ o', h'.get? b = some o')
    (tups : ∀ b xs, H b = some (.tup xs) → H' b = some (.tup xs)) (frzs : ∀ b o u, H b = some (.frz o u) → H' b = some (.frz o u)) (tbls : ∀ b ps, H b = some (.tbl ps) → ∃ more, H' b = some (.tbl (ps ++ more)))
    (ns : ∀ m, s.heap.Ns X.env.locals m → h'.Ns X.env.locals m) (hok : HOk X.prog X.w H' h') (hg : AllBare g') :
    Inv X pins σ H' { s with heap := h', gens := g', drawn := d', toks := t' } := by
  have neL : ∀ b o, X.s₀.heap.get? b = some o → b ≠ X.env.locals := fun b o e => Nat.ne_of_lt (Nat.lt_of_lt_of_le (Heap.lt_size e) I.ok.above)
  have neC : ∀ b o, X.s₀.heap.get? b = some o → b ∉ X.ex → b ∉ ch := fun b o e hx hb => by
    rcases (hch b hb).1 with z | z
    · exact hx z
    · exact absurd (Nat.lt_of_lt_of_le (Heap.lt_size e) z) (Nat.lt_irrefl _)
  have cellK : ∀ x c, X.env.cells.lookup x = some c → ∀ v, s.heap.IsCell c v → h'.IsCell c v := fun x c e v ⟨o, ho, hd⟩ => by
    have nch : c ∉ ch := fun z => (hch c z).2.2.1 x c e rfl
    by_cases hc : c ∈ X.fs
    · obtain ⟨sl, q⟩ := slot c o (I.cne x c e) hc nch ho (I.freeC x c e)
      exact ⟨_, q, hd⟩
    · exact ⟨o, keep c o (I.cne x c e) hc nch ho (I.freeC x c e), hd⟩
  refine ⟨I.ok, I.os, hg, ⟨fun b o e n hb hx => ?_, fun b o e n hb hx => ?_, fun b o e n hx => ?_, fun b o e hx => ?_, fun b xs e => tups b xs (I.base.tups b xs e), fun b o xs e => frzs b o xs (I.base.frzs b o xs e), fun b ps e => ?_⟩, ?_, fun x c e => ?_, ?_, fun x c e => ?_, fun p hp => ?_, hok, I.len⟩
  · exact keep b o (neL b o e) hb (neC b o e hx) (I.base.keep b o e n hb hx) (I.base.free b o e n hx)
  · obtain ⟨sl, e1⟩ := I.base.slot b o e n hb hx
    obtain ⟨sl', e2⟩ := slot b _ (neL b o e) hb (neC b o e hx) e1 (I.base.free b o e n hx)
    exact ⟨sl', e2⟩
  · obtain ⟨o', e1⟩ := I.base.there b o e hx
    exact free b o' (neC b o e hx) e1 (I.base.free b o e n hx)
  · obtain ⟨o', e1⟩ := I.base.there b o e hx
    exact there b o' (neC b o e hx) e1
  · obtain ⟨m1, e1⟩ := I.base.tbls b ps e
    obtain ⟨m2, e2⟩ := tbls b _ e1
    exact ⟨m1 ++ m2, by rw [e2, Array.append_assoc]⟩
  · obtain ⟨m, hn, hl⟩ := I.loc
    refine ⟨m, ns m hn, fun i x v e1 e2 e3 => ?_⟩
    obtain ⟨u, r, l⟩ := hl i x v e1 e2 e3
    refine ⟨u, r, ?_⟩
    rcases l with l | ⟨k, c, e, z⟩
    · exact .inl l
    · exact .inr ⟨k, c, e, cellK x c e _ z⟩
  · obtain ⟨v, z⟩ := I.cell x c e
    exact ⟨v, cellK x c e v z⟩
  · obtain ⟨m, ⟨o, _, _, ho, _⟩, _⟩ := I.loc
    exact free _ o (fun z => (hch _ z).2.1 rfl) ho I.free
  · obtain ⟨v, o, ho, hd⟩ := I.cell x c e
    exact free c o (fun z => (hch c z).2.2.1 x c e rfl) ho (I.freeC x c e)
  · obtain ⟨e, n, ne, nf, d⟩ := I.pin p hp
    have nch : p.1 ∉ ch := fun z => (hch p.1 z).2.2.2 p hp rfl
    exact ⟨keep p.1 p.2 ne nf nch e n, free p.1 p.2 nch e n, ne, nf, d⟩
/-- .. where the frame's own object is kept too -/
theorem Inv.un {t' : Nat} (I : Inv X pins σ H s) (u : Un X.fs [] H H' s.heap h') (hok : HOk X.prog X.w H' h') : Inv X pins σ H' { s with heap := h', toks := t' } := by
  obtain ⟨m, ⟨o, es, ep, ho, r⟩, _⟩ := id I.loc
  obtain ⟨sl, hL⟩ := u.any ho I.free (by simp)
  exact I.step (g' := s.gens) (d' := s.drawn) (ch := []) (fun _ z => nomatch z) (fun b o _ hb _ e n => u.keep b o e n hb (by simp)) (fun b o _ hb _ e n => u.slot b o e n hb (by simp)) (fun b o _ e n => u.free b o e n (by simp)) (fun b o _ e => u.there b o e (by simp)) u.tups u.frzs u.tbls (fun m' hm => by
    obtain ⟨o', es', ep', ho', r'⟩ := hm
    rw [ho] at ho'; cases ho'
    exact ⟨_, es', ep', hL, r'⟩) hok I.bare
/-- behind a call (or a comprehension's block): the slots of this frame may have changed too, the records at ch may have turned -/
theorem Inv.call {g' : Array GenState} {t' : Nat} {d' : Drawn} {ch : List Addr} (I : Inv X pins σ H s) (u : Un (frs X.stack) ch H H' s.heap h') (hok : HOk X.prog X.w H' h') (hg : AllBare g')
    (hch : ∀ b ∈ ch, (b ∈ X.ex ∨ X.s₀.heap.objs.size ≤ b) ∧ b ≠ X.env.locals ∧ (∀ x c, X.env.cells.lookup x = some c → c ≠ b) ∧ ∀ p ∈ X.pn ++ pins, p.1 ≠ b) :
    Inv X pins σ H' { s with heap := h', gens := g', drawn := d', toks := t' } := by
  obtain ⟨m, ⟨o, es, ep, ho, r⟩, _⟩ := id I.loc
  obtain ⟨sl, hL⟩ := u.any ho I.free fun z => (hch _ z).2.1 rfl
  exact I.step (ch := ch) hch (fun b o hL hb hc e n => u.keep b o e n (fun z => (List.mem_cons.mp (I.stkSub b z)).elim hL hb) hc) (fun b o _ _ hc e n => u.any e n hc) (fun b o hc e n => u.free b o e n hc) (fun b o hc e => u.there b o e hc) u.tups u.frzs u.tbls (fun m' hm => by
    obtain ⟨o', es', ep', ho', r'⟩ := hm
    rw [ho] at ho'; cases ho'
    exact ⟨_, es', ep', hL, r'⟩) hok hg
/-- an untracked record of ours (an iterator) has turned -/
theorem Inv.turned {t' : Nat} {it : Addr} (I : Inv X pins σ H s) (k : ∀ b o, b ≠ it → s.heap.get? b = some o → h'.get? b = some o) (hn : H it = none) (hL : it ≠ X.env.locals)
    (h1 : it ∈ X.ex ∨ X.s₀.heap.objs.size ≤ it) (h2 : ∀ x c, X.env.cells.lookup x = some c → c ≠ it) (h3 : ∀ p ∈ X.pn ++ pins, p.1 ≠ it) : Inv X pins σ H { s with heap := h', toks := t' } := by
  have nit : ∀ b u, H b = some u → b ≠ it := fun b u e z => by rw [z, hn] at e; cases e
  refine I.step (g' := s.gens) (d' := s.drawn) (ch := [it]) (fun b hb => ?_) (fun b o _ _ hc e _ => k b o (fun z => hc (by simp [z])) e) (fun b o _ _ hc e _ => ⟨o.slots, k b o (fun z => hc (by simp [z])) e⟩) (fun _ _ _ _ n => n)
    (fun b o hc e => ⟨o, k b o (fun z => hc (by simp [z])) e⟩) (fun _ _ e => e) (fun _ _ _ e => e) (fun b ps e => ⟨#[], by rw [e]; simp⟩) (fun m hm => ?_) (fun b u e => ?_) I.bare
  · have e : b = it := by simpa using hb
    subst e
    exact ⟨h1, hL, h2, h3⟩
  · obtain ⟨o, es, ep, ho, r⟩ := hm
    exact ⟨o, es, ep, k _ o (Ne.symm hL) ho, r⟩
  · refine (I.hok b u e).stay (fun c v hc q => k c v ?_ q) (fun _ q => q) fun _ _ q => q
    rcases hc with z | z
    · rw [z]; exact nit b u e
    · exact nit c _ z
theorem Inv.tok (I : Inv X pins σ H s) (t : Nat) : Inv X pins σ H { s with toks := t } := I.un (h' := s.heap) (t' := t) Un.refl I.hok
/-- all objects kept -/
theorem Inv.kept {t' : Nat} (I : Inv X pins σ H s) (k : ∀ b u, s.heap.get? b = some u → h'.get? b = some u) : Inv X pins σ H { s with heap := h', toks := t' } := I.un (Un.kept k) (I.hok.kept k)
/-- a new object laid and tracked -/
theorem Inv.laid {a : Addr} {o : HO} {t' : Nat} (I : Inv X pins σ H s) (k : ∀ b u, s.heap.get? b = some u → h'.get? b = some u) (hp : s.heap.objs.size ≤ a) (new : ObjOk X.prog X.w (upd H a o) h' a o) :
    Inv X pins σ (upd H a o) { s with heap := h', toks := t' } := I.un (Un.laid k hp (I.hok.fresh hp)) (I.hok.laid k hp new)
/-- an object written -/
theorem Inv.write {x e : Addr} {o : HO} {t' : Nat} (I : Inv X pins σ H s) (mu : Mut (H x)) (he : e = x ∨ H e = some (.own x)) (k : ∀ b u, b ≠ e → s.heap.get? b = some u → h'.get? b = some u) (heo : ∃ u, h'.get? e = some u)
    (new : ObjOk X.prog X.w (upd H x o) h' x o) : Inv X pins σ (upd H x o) { s with heap := h', toks := t' } := I.un (Un.write mu he k heo) (I.hok.write mu he k heo new)
theorem Inv.pins_of {pins' : List (Addr × Obj)} (I : Inv X pins σ H s) (h : ∀ p ∈ pins', s.heap.get? p.1 = some p.2 ∧ H p.1 = none ∧ p.1 ≠ X.env.locals ∧ p.1 ∉ X.fs ∧ ∀ v, p.2.data ≠ .cell v) : Inv X pins' σ H s :=
  ⟨I.ok, I.os, I.bare, I.base, I.loc, I.cell, I.free, I.freeC, fun p hp => (List.mem_append.mp hp).elim (fun z => I.pin p (List.mem_append_left _ z)) (h p), I.hok, I.len⟩

theorem nodup_ix {N : List Str} (hN : N.Nodup) {i j : Nat} {x : Str} (a : N[i]? = some x) (b : N[j]? = some x) : i = j := by
  obtain ⟨h1, e1⟩ := List.getElem?_eq_some_iff.mp a
  obtain ⟨h2, e2⟩ := List.getElem?_eq_some_iff.mp b
  exact (List.getElem_inj hN).mp (e1.trans e2.symm)

/-- a name is stored; what changed -/
theorem store_ok2 {M : Model} {A : Around} {E : Value → Shared → Prop} {i : Nat} {x : Str} {v : V} {u : Value} {Q : Unit → Shared → Prop} (I : Inv X pins σ H s) (hN : X.N.Nodup) (hi : X.N[i]? = some x) (hx : Loc X.env.scope x) (r : RelV v u)
    (h : ∀ s', Inv X pins (σ.set i (some v)) H s' → (∃ a, Heap.SameBut a s.heap s'.heap ∧ (a = X.env.locals ∨ X.env.cells.lookup x = some a)) → Q () s') (hf : X.fn x = true ∨ X.env.scope.names.lookup x = some .local := by first | exact .inl rfl | exact .inr rfl | assumption) : wpAny M A (storeName X.env x u) Q E s := by
  obtain ⟨m, hn, hl⟩ := id I.loc
  have hcls : (X.env.scope.kind == .class || (X.env.scope.kind == .module && X.env.locals != X.env.globals)) = false := by rw [I.ok.kind]; rfl
  have hiσ : i < σ.length := by rw [I.len]; exact (List.getElem?_eq_some_iff.mp hi).1
  have cne := I.cne
  have tracked : ∀ {a : Addr} {h' : Heap}, (∃ o, s.heap.get? a = some o ∧ H a = none) → Heap.SameBut a s.heap h' → HOk X.prog X.w H h' := fun {a h'} ha hs b ob e => by
    obtain ⟨_, _, hfree⟩ := ha
    refine (I.hok b ob e).stay (fun c w' hc q => (hs.2 c ?_).trans q) (fun _ q => q) fun _ _ q => q
    rintro rfl
    rcases hc with rfl | hc
    · rw [hfree] at e; cases e
    · rw [hfree] at hc; cases hc
  rcases hx with hk | hk
  · refine wpAny_storeName_local hk hn (fun h' hn' hs => ?_) hcls
    obtain ⟨oL, _, _, hoL, _⟩ := id hn
    refine h _ ⟨I.ok, I.os, I.bare, ⟨fun b o e n hb hx => ?_, fun b o e n hb hx => ?_, I.base.free, fun b o e hx => ?_, I.base.tups, I.base.frzs, I.base.tbls⟩, ⟨_, hn', fun j y v' e1 e2 e3 => ?_⟩, fun y c e => ?_, I.free, I.freeC, fun p hp => ?_, tracked ⟨oL, hoL, I.free⟩ hs, by simpa using I.len⟩ ⟨_, hs, .inl rfl⟩
    · exact (hs.2 b (Nat.ne_of_lt (Nat.lt_of_lt_of_le (Heap.lt_size e) I.ok.above))).trans (I.base.keep b o e n hb hx)
    · obtain ⟨sl, e1⟩ := I.base.slot b o e n hb hx
      exact ⟨sl, (hs.2 b (Nat.ne_of_lt (Nat.lt_of_lt_of_le (Heap.lt_size e) I.ok.above))).trans e1⟩
    · obtain ⟨o', e1⟩ := I.base.there b o e hx
      exact ⟨o', (hs.2 b (Nat.ne_of_lt (Nat.lt_of_lt_of_le (Heap.lt_size e) I.ok.above))).trans e1⟩
    · by_cases hj : j = i
      · subst hj
        rw [hi] at e1; cases e1
        rw [List.getElem?_set_self hiσ] at e2
        cases e2
        exact ⟨u, r, .inl ⟨hk, by simp⟩⟩
      · rw [List.getElem?_set_ne (Ne.symm hj)] at e2
        obtain ⟨u', r', q⟩ := hl j y v' e1 e2 e3
        refine ⟨u', r', ?_⟩
        rcases q with ⟨k, e⟩ | ⟨k, c, e, z⟩
        · refine .inl ⟨k, ?_⟩
          have : y ≠ x := fun e => hj (nodup_ix hN e1 (e ▸ hi))
          simp [this, e]
        · exact .inr ⟨k, c, e, z.sameBut hs (cne y c e)⟩
    · obtain ⟨w', z⟩ := I.cell y c e
      exact ⟨w', z.sameBut hs (cne y c e)⟩
    · obtain ⟨e, n, ne, nf, d⟩ := I.pin p hp
      exact ⟨(hs.2 p.1 ne).trans e, n, ne, nf, d⟩
  · have hfn : X.fn x = true := by
      rcases hf with z | z
      · exact z
      · rw [z] at hk; cases hk
    obtain ⟨c, hc⟩ := I.ok.has x (.inl hk)
    obtain ⟨w', z⟩ := I.cell x c hc
    refine wpAny_storeName_cell I.ok.kind hk hc z (fun h' hc' hs => ?_)
    obtain ⟨oc, hoc, hocd⟩ := id z
    refine h { s with heap := h' } ⟨I.ok, I.os, I.bare, ⟨fun b o e n hb hx => ?_, fun b o e n hb hx => ?_, I.base.free, fun b o e hx => ?_, I.base.tups, I.base.frzs, I.base.tbls⟩, ⟨m, hn.sameBut hs (Ne.symm (cne x c hc)), fun j y v' e1 e2 e3 => ?_⟩, fun y c' e => ?_, I.free, I.freeC, fun p hp => ?_, tracked ⟨oc, hoc, I.freeC x c hc⟩ hs, by simpa using I.len⟩ ⟨c, hs, .inr hc⟩
    · exact (hs.2 b (Nat.ne_of_lt (Nat.lt_of_lt_of_le (Heap.lt_size e) (I.ok.cab x c hfn hc)))).trans (I.base.keep b o e n hb hx)
    · obtain ⟨sl, e1⟩ := I.base.slot b o e n hb hx
      exact ⟨sl, (hs.2 b (Nat.ne_of_lt (Nat.lt_of_lt_of_le (Heap.lt_size e) (I.ok.cab x c hfn hc)))).trans e1⟩
    · obtain ⟨o', e1⟩ := I.base.there b o e hx
      exact ⟨o', (hs.2 b (Nat.ne_of_lt (Nat.lt_of_lt_of_le (Heap.lt_size e) (I.ok.cab x c hfn hc)))).trans e1⟩
    · by_cases hj : j = i
      · subst hj
        rw [hi] at e1; cases e1
        rw [List.getElem?_set_self hiσ] at e2
        cases e2
        exact ⟨u, r, .inr ⟨.inl hk, c, hc, hc'⟩⟩
      · rw [List.getElem?_set_ne (Ne.symm hj)] at e2
        obtain ⟨u', r', q⟩ := hl j y v' e1 e2 e3
        refine ⟨u', r', ?_⟩
        rcases q with q | ⟨k, c', e, z'⟩
        · exact .inl q
        · refine .inr ⟨k, c', e, z'.sameBut hs ?_⟩
          rintro rfl
          exact hj (nodup_ix hN e1 (I.ok.inj _ _ _ e hc ▸ hi))
    · by_cases hcc : c' = c
      · subst hcc; exact ⟨_, hc'⟩
      · obtain ⟨w2, z2⟩ := I.cell y c' e
        exact ⟨w2, z2.sameBut hs hcc⟩
    · obtain ⟨e, n, ne, nf, d⟩ := I.pin p hp
      refine ⟨(hs.2 p.1 ?_).trans e, n, ne, nf, d⟩
      intro q
      rw [q, hoc] at e
      have q' : oc = p.2 := Option.some.inj e
      exact d w' (by rw [← q']; exact hocd)
theorem store_ok {M : Model} {A : Around} {E : Value → Shared → Prop} {i : Nat} {x : Str} {v : V} {u : Value} {Q : Unit → Shared → Prop} (I : Inv X pins σ H s) (hN : X.N.Nodup) (hi : X.N[i]? = some x) (hx : Loc X.env.scope x) (r : RelV v u)
    (h : ∀ s', Inv X pins (σ.set i (some v)) H s' → Q () s') (hf : X.fn x = true ∨ X.env.scope.names.lookup x = some .local := by first | exact .inl rfl | exact .inr rfl | assumption) : wpAny M A (storeName X.env x u) Q E s :=
  store_ok2 I hN hi hx r (fun s' I' _ => h s' I') hf
/-- behind a call or a block, the state as it is -/
theorem Inv.call' {s' : Shared} {ch : List Addr} (I : Inv X pins σ H s) (ho : s'.os = s.os) (u : Un (frs X.stack) ch H H' s.heap s'.heap) (hok : HOk X.prog X.w H' s'.heap) (hg : AllBare s'.gens)
    (hch : ∀ b ∈ ch, (b ∈ X.ex ∨ X.s₀.heap.objs.size ≤ b) ∧ b ≠ X.env.locals ∧ (∀ x c, X.env.cells.lookup x = some c → c ≠ b) ∧ ∀ p ∈ X.pn ++ pins, p.1 ≠ b) : Inv X pins σ H' s' := by
  obtain ⟨h', g', d', t', o'⟩ := s'
  have e : o' = s.os := ho
  subst e
  exact I.call (g' := g') (t' := t') (d' := d') u hok hg hch
end

/-! ### the judgements -/
/-- an exception: its class, its own dict's address (where it has one), the abstract heap behind it -/
abbrev XK := Value → Option Addr → Hp → Prop
abbrev St := List (Option V)
abbrev VK := V → Hp → Prop
/-- an expression's reading; a test's; an argument list's -/
abbrev TE := St → Hp → VK → Prop
abbrev TT := St → Hp → (Bool → Hp → Prop) → Prop
abbrev TA := St → Hp → (List V → Hp → Prop) → Prop
/-- what is wanted behind a statement -/
structure Ends where
  nx : St → Hp → Prop
  rt : VK
  bk : St → Hp → Prop := fun _ _ => False
  ct : St → Hp → Prop := fun _ _ => False
abbrev TS := Ends → St → Hp → Prop

def EP (X : Cx) (pins : List (Addr × Obj)) (σ : St) (Q : VK) (u : Value) (s' : Shared) : Prop := ∃ v H', Inv X pins σ H' s' ∧ RelV v u ∧ Q v H'
def TP (X : Cx) (pins : List (Addr × Obj)) (σ : St) (Q : Bool → Hp → Prop) (b : Bool) (s' : Shared) : Prop := ∃ H', Inv X pins σ H' s' ∧ Q b H'
def AP (X : Cx) (pins : List (Addr × Obj)) (σ : St) (Q : List V → Hp → Prop) (us : List Value) (s' : Shared) : Prop := ∃ vs H', Inv X pins σ H' s' ∧ Vals vs us ∧ Q vs H'
def SP (X : Cx) (pins : List (Addr × Obj)) (D : Ends) (f : Flow) (s' : Shared) : Prop :=
  match f with
  | .next => ∃ σ' H', Inv X pins σ' H' s' ∧ D.nx σ' H'
  | .brk => ∃ σ' H', Inv X pins σ' H' s' ∧ D.bk σ' H'
  | .cont => ∃ σ' H', Inv X pins σ' H' s' ∧ D.ct σ' H'
  | .ret u => ∃ v σ' H', Inv X pins σ' H' s' ∧ RelV v u ∧ D.rt v H'

def PE (X : Cx) (e : Expr) (t : TE) : Prop :=
  ∀ (pins : List (Addr × Obj)) (s : Shared) (σ : St) (H : Hp) (Q : VK), Inv X pins σ H s → t σ H Q → wpAny (model X.prog X.w) X.A (eval e X.env) (EP X pins σ Q) X.xe s
def PT (X : Cx) (e : Expr) (t : TT) : Prop :=
  ∀ (pins : List (Addr × Obj)) (s : Shared) (σ : St) (H : Hp) (Q : Bool → Hp → Prop), Inv X pins σ H s → t σ H Q → wpAny (model X.prog X.w) X.A (isTrue e X.env (eval e X.env)) (TP X pins σ Q) X.xe s
/-- a test whatever its 'whole' is (and, or) -/
def PW (X : Cx) (e : Expr) (t : TT) : Prop :=
  ∀ (whole : Sem Value) (pins : List (Addr × Obj)) (s : Shared) (σ : St) (H : Hp) (Q : Bool → Hp → Prop), Inv X pins σ H s → t σ H Q → wpAny (model X.prog X.w) X.A (isTrue e X.env whole) (TP X pins σ Q) X.xe s
theorem PW.pt {X : Cx} {e : Expr} {t : TT} (h : PW X e t) : PT X e t := h _
/-- an argument list (no star), from the left -/
def PA (X : Cx) (es : List Expr) (t : TA) : Prop :=
  ∀ (pos : Pos) (pins : List (Addr × Obj)) (s : Shared) (σ : St) (H : Hp) (Q : List V → Hp → Prop), Inv X pins σ H s → t σ H Q → wpAny (model X.prog X.w) X.A (spliced (backTo pos (starEach es X.env))) (AP X pins σ Q) X.xe s
def PS (X : Cx) (st : Stmt) (t : TS) : Prop :=
  ∀ (pins : List (Addr × Obj)) (s : Shared) (σ : St) (H : Hp) (D : Ends), Inv X pins σ H s → t D σ H → wpAny (model X.prog X.w) X.A (exec st X.env) (SP X pins D) X.xe s
def PSs (X : Cx) (st : List Stmt) (t : TS) : Prop :=
  ∀ (pins : List (Addr × Obj)) (s : Shared) (σ : St) (H : Hp) (D : Ends), Inv X pins σ H s → t D σ H → wpAny (model X.prog X.w) X.A (execs st X.env) (SP X pins D) X.xe s
/-- weaken the end -/
theorem thn {α : Type} {t : Sem α} {Q Q' : α → Shared → Prop} {M : Model} {A : Around} {E : Value → Shared → Prop} {s : Shared} (h : wpAny M A t Q E s) (hQ : ∀ a s, Q a s → Q' a s) : wpAny M A t Q' E s := wpAny_mono h hQ fun _ _ x => x
end L2

namespace L2
open PySem PySem.Spec PyProof.Rows
section
variable {X : Cx}

/-! ### names and constants -/
def tVar (i : Nat) : TE := fun σ H Q => ∃ v, σ[i]? = some (some v) ∧ Q v H
def tC (v : V) : TE := fun _ H Q => Q v H
theorem pe_var {i : Nat} {x : Str} {pos : Pos} (hN : X.N[i]? = some x) (hv : Vis X.env.scope x) (hd : (x == ("__debug__" : Str)) = false := by decide) (hcd : (x == ("__classdict__" : Str)) = false := by decide) : PE X (.Name x pos) (tVar i) := by
  intro pins s σ H Q I h
  obtain ⟨v, e, h⟩ := h
  obtain ⟨m, hn, hl⟩ := I.loc
  obtain ⟨u, r, l⟩ := hl i x v hN e hv
  have fin : EP X pins σ Q u s := ⟨v, H, I, r, h⟩
  rcases l with ⟨hk, hm⟩ | ⟨hk, c, hc, hcell⟩
  · exact wpAny_Name (wpAny_loadName_local I.ok.kind hk hn hm fin) hd
  · rcases hk with hk | hk
    · exact wpAny_Name (wpAny_loadName_cell I.ok.kind hk hc hcell fin) hd
    · exact wpAny_Name (wpAny_loadName_free I.ok.kind hk hc hcell fin hcd) hd
theorem pe_int {i j pos} : PE X (.Constant (.int i) j pos) (tC (.int i)) := fun _ _ _ H _ I h => wpAny_Constant_int ⟨.int i, H, I.tok _, ⟨_, rfl⟩, h⟩
theorem pe_bl {b j pos} : PE X (.Constant (.bool b) j pos) (tC (.bl b)) := fun _ _ _ H _ I h => Constant_bool ⟨.bl b, H, I, rfl, h⟩
theorem pe_non {j pos} : PE X (.Constant .none j pos) (tC .non) := fun _ _ _ H _ I h => Constant_none ⟨.non, H, I, rfl, h⟩
theorem pe_str {x j pos} : PE X (.Constant (.str x) j pos) (tC (.str x)) := fun _ _ _ H _ I h => Calls.Constant_str ⟨.str x, H, I.tok _, ⟨_, rfl⟩, h⟩

/-- a global name of the def -/
def Gl (X : Cx) (x : Str) : Prop := X.env.kindOf x = some .globalImplicit
theorem ld_glob {E : Value → Shared → Prop} {pins : List (Addr × Obj)} {s : Shared} {σ : St} {H : Hp} {x : Str} {u : Value} {pos : Pos} {Q : Value → Shared → Prop} (I : Inv X pins σ H s) (hg : Gl X x) (hm : X.mg x = some u) (h : Q u s)
    (hd : (x == ("__debug__" : Str)) = false := by decide) : wpAny (model X.prog X.w) X.A (eval (.Name x pos) X.env) Q E s :=
  Calls.Name_function_global I.ok.kind hg (Calls.loadGlobal_global (by rw [I.ok.glob]; exact I.mod.glob.keeps I.bk) hm h) hd
theorem ld_blt {E : Value → Shared → Prop} {pins : List (Addr × Obj)} {s : Shared} {σ : St} {H : Hp} {x : Str} {u : Value} {pos : Pos} {Q : Value → Shared → Prop} (I : Inv X pins σ H s) (hg : Gl X x) (hm : X.mg x = none) (hv : bootBuiltins x = some u) (h : Q u s)
    (hn : x ≠ "__name__" := by decide) (hd : (x == ("__debug__" : Str)) = false := by decide) : wpAny (model X.prog X.w) X.A (eval (.Name x pos) X.env) Q E s := by
  obtain ⟨mb, h1, h2⟩ := I.mod.blt
  exact Calls.Name_function_global I.ok.kind hg (Calls.loadGlobal_builtin (by rw [I.ok.glob]; exact I.mod.glob.keeps I.bk) hm (by rw [I.ok.blt]; exact h1.keeps I.bk) ((h2 x hn).trans hv) h) hd
/-- a module's constant, a class, a function, as a value -/
theorem pe_glob {x : Str} {v : V} {u : Value} {pos : Pos} (hg : Gl X x) (hm : X.mg x = some u) (r : RelV v u) (hd : (x == ("__debug__" : Str)) = false := by decide) : PE X (.Name x pos) (tC v) :=
  fun _ _ _ H _ I h => ld_glob I hg hm ⟨v, H, I, r, h⟩ hd
theorem pe_bltn {x : Str} {v : V} {u : Value} {pos : Pos} (hg : Gl X x) (hm : X.mg x = none) (hv : bootBuiltins x = some u) (r : RelV v u) (hn : x ≠ "__name__" := by decide) (hd : (x == ("__debug__" : Str)) = false := by decide) : PE X (.Name x pos) (tC v) :=
  fun _ _ _ H _ I h => ld_blt I hg hm hv ⟨v, H, I, r, h⟩ hn hd

variable {a b : Expr} {ta tb : TE} {pos : Pos}
/-! ### comparisons -/
def PC (X : Cx) (op : CmpOp) (a b : Expr) (t : TE) : Prop :=
  ∀ (pins : List (Addr × Obj)) (s : Shared) (σ : St) (H : Hp) (Q : VK), Inv X pins σ H s → t σ H Q →
    wpAny (model X.prog X.w) X.A (eval a X.env) (fun v s₁ => wpAny (model X.prog X.w) X.A (eval b X.env) (fun u s₂ => wpAny (model X.prog X.w) X.A (compareOp op v u) (EP X pins σ Q) X.xe s₂) X.xe s₁) X.xe s
/-- a comparison as a value, as a test -/
def tB (t : TE) : TT := fun σ H Q => t σ H fun x H1 => ∃ c, x = .bl c ∧ Q c H1
/-- an expression whose value is a bool, as a test -/
theorem pt_val {e : Expr} {t : TE} (h : PE X e t) (he : ∀ whole, isTrue e X.env whole = (do let v ← whole; standAt e.pos; holding [v] (truthy v)) := by intro _; rfl) : PT X e (tB t) := by
  intro pins s σ H Q I hw
  refine isTrue_plain (thn (h pins s σ H _ I hw) fun v s1 ⟨x, H1, I1, r1, q1⟩ => ?_) (he _)
  obtain ⟨d, rfl, q⟩ := q1
  cases r1
  exact wpAny_truthy_bool ⟨H1, I1, q⟩

/-! ### and, or, not -/
variable {tA tB' : TT} {rest : List Expr}
def tAnd (t u : TT) : TT := fun σ H Q => t σ H fun c H1 => if c = true then u σ H1 Q else Q false H1
def tOr (t u : TT) : TT := fun σ H Q => t σ H fun c H1 => if c = true then Q true H1 else u σ H1 Q
def tNot (t : TT) : TT := fun σ H Q => t σ H fun c H1 => Q (!c) H1
theorem pw_and1 (ha : PT X a tA) : PW X (.BoolOp .And [a] pos) tA := by
  intro wh pins s σ H Q I h
  refine isTrue_and (thn (ha pins s σ H Q I h) fun c s1 e => ?_)
  cases c with
  | true => exact isTrue_and_nil e
  | false => exact e
theorem pw_or1 (ha : PT X a tA) : PW X (.BoolOp .Or [a] pos) tA := by
  intro wh pins s σ H Q I h
  refine isTrue_or (thn (ha pins s σ H Q I h) fun c s1 e => ?_)
  cases c with
  | false => exact isTrue_or_nil e
  | true => exact e
theorem pw_and (ha : PT X a tA) (hb : PW X (.BoolOp .And (b :: rest) pos) tB') : PW X (.BoolOp .And (a :: b :: rest) pos) (tAnd tA tB') := by
  intro wh pins s σ H Q I h
  refine isTrue_and (thn (ha pins s σ H _ I h) fun c s1 ⟨H1, I1, q1⟩ => ?_)
  cases c with
  | true => exact hb wh pins s1 σ H1 Q I1 q1
  | false => exact ⟨H1, I1, q1⟩
theorem pw_or (ha : PT X a tA) (hb : PW X (.BoolOp .Or (b :: rest) pos) tB') : PW X (.BoolOp .Or (a :: b :: rest) pos) (tOr tA tB') := by
  intro wh pins s σ H Q I h
  refine isTrue_or (thn (ha pins s σ H _ I h) fun c s1 ⟨H1, I1, q1⟩ => ?_)
  cases c with
  | true => exact ⟨H1, I1, q1⟩
  | false => exact hb wh pins s1 σ H1 Q I1 q1
theorem pt_not (ha : PT X a tA) : PT X (.UnaryOp .Not a pos) (tNot tA) := by
  intro pins s σ H Q I h
  exact isTrue_not (ha pins s σ H (fun c H1 => Q (!c) H1) I h)
/-- .. as values (bools) -/
def tAndV (ta tb : TE) : TE := fun σ H Q => ta σ H fun x H1 => ∃ c, x = .bl c ∧ if c = true then tb σ H1 Q else Q (.bl false) H1
def tOrV (ta tb : TE) : TE := fun σ H Q => ta σ H fun x H1 => ∃ c, x = .bl c ∧ if c = true then Q (.bl true) H1 else tb σ H1 Q
def tNotV (ta : TE) : TE := fun σ H Q => ta σ H fun x H1 => ∃ c, x = .bl c ∧ Q (.bl (!c)) H1
theorem pe_one {op} {t : TE} (h : PE X a t) : PE X (.BoolOp op [a] pos) t := fun pins s σ H Q I hw => BoolOp_one (h pins s σ H Q I hw)
theorem pe_and (ha : PE X a ta) (hb : PE X (.BoolOp .And (b :: rest) pos) tb) : PE X (.BoolOp .And (a :: b :: rest) pos) (tAndV ta tb) := by
  intro pins s σ H Q I h
  refine BoolOp_and (thn (ha pins s σ H _ I h) fun v s1 ⟨x, H1, I1, r1, q1⟩ => ?_)
  obtain ⟨c, rfl, q1⟩ := q1
  cases r1
  refine wpAny_truthy_bool ?_
  cases c with
  | true => exact hb pins s1 σ H1 Q I1 q1
  | false => exact ⟨.bl false, H1, I1, rfl, q1⟩
theorem pe_or (ha : PE X a ta) (hb : PE X (.BoolOp .Or (b :: rest) pos) tb) : PE X (.BoolOp .Or (a :: b :: rest) pos) (tOrV ta tb) := by
  intro pins s σ H Q I h
  refine BoolOp_or (thn (ha pins s σ H _ I h) fun v s1 ⟨x, H1, I1, r1, q1⟩ => ?_)
  obtain ⟨c, rfl, q1⟩ := q1
  cases r1
  refine wpAny_truthy_bool ?_
  cases c with
  | false => exact hb pins s1 σ H1 Q I1 q1
  | true => exact ⟨.bl true, H1, I1, rfl, q1⟩
theorem pe_not (ha : PE X a ta) : PE X (.UnaryOp .Not a pos) (tNotV ta) := by
  intro pins s σ H Q I h
  refine UnaryOp_ (thn (ha pins s σ H _ I h) fun v s1 ⟨x, H1, I1, r1, q1⟩ => ?_)
  obtain ⟨c, rfl, q1⟩ := q1
  cases r1
  exact not_of (wpAny_truthy_bool ⟨.bl (!c), H1, I1, rfl, q1⟩)
/-- a if t else b -/
def tIf (t : TT) (ta tb : TE) : TE := fun σ H Q => t σ H fun c H1 => if c = true then ta σ H1 Q else tb σ H1 Q
theorem pe_ifExp {c : Expr} (hc : PT X c tA) (ha : PE X a ta) (hb : PE X b tb) : PE X (.IfExp c a b pos) (tIf tA ta tb) := by
  intro pins s σ H Q I h
  refine wpAny_IfExp (thn (hc pins s σ H _ I h) fun d s1 ⟨H1, I1, q1⟩ => ?_)
  cases d with
  | true => exact ha pins s1 σ H1 Q I1 q1
  | false => exact hb pins s1 σ H1 Q I1 q1
end
end L2

namespace L2
open PySem PySem.Spec PyProof.Rows

/-! ### a list, a tuple that is read: tracked, frozen, or an object of the module -/
def SqL (K : PySem.W.Frag) (H : Hp) (a : Addr) (xs : List V) : Prop :=
  Rd H a (.lst xs) ∨
    ∃ (o : Obj) (its : Array Value) (n : Nat), K.lookup a = some o ∧ o.cls = .type "list" ∧ o.dict = none ∧ o.data = .seq its n ∧ its.size ≤ sizeLine ∧ Vals xs its.toList
def SqT (K : PySem.W.Frag) (H : Hp) (a : Addr) (xs : List V) : Prop :=
  Rd H a (.tup xs) ∨
    ∃ (o : Obj) (its : Array Value) (n : Nat), K.lookup a = some o ∧ o.cls = .type "tuple" ∧ o.data = .seq its n ∧ its.size ≤ sizeLine ∧ Vals xs its.toList
def absV : Value → Option V
  | .none => some .non
  | .bool b => some (.bl b)
  | .int i _ => some (.int i)
  | .str x _ => some (.str x)
  | .bytes b _ => some (.byt b)
  | .float b _ => some (.flt b)
  | .ref a => some (.ref a)
  | .type n => some (.ty n)
  | _ => none
theorem RelV.abs {x : V} {u : Value} (r : RelV x u) : absV u = some x := by
  cases x with
  | non => cases r; rfl
  | bl _ => cases r; rfl
  | int _ => obtain ⟨t, rfl⟩ := r; rfl
  | str _ => obtain ⟨t, rfl⟩ := r; rfl
  | byt _ => obtain ⟨t, rfl⟩ := r; rfl
  | flt _ => obtain ⟨t, rfl⟩ := r; rfl
  | ref _ => cases r; rfl
  | ty _ => cases r; rfl
theorem RelV.inj {x y : V} {u : Value} (r : RelV x u) (q : RelV y u) : x = y := Option.some.inj (r.abs.symm.trans q.abs)
theorem Vals.inj : ∀ {xs ys : List V} {us : List Value}, Vals xs us → Vals ys us → xs = ys
  | _, _, _, .nil, .nil => rfl
  | _, _, _, .cons r t, .cons r' t' => by rw [r.inj r', Vals.inj t t']
section
variable {X : Cx} {pins : List (Addr × Obj)} {σ : St} {H : Hp} {s : Shared} {a : Addr} {xs ys : List V}
theorem SqL.of {K : PySem.W.Frag} (h : H a = some (.lst xs)) : SqL K H a xs := .inl (.inl h)
theorem SqT.of {K : PySem.W.Frag} (h : H a = some (.tup xs)) : SqT K H a xs := .inl (.inl h)
theorem Inv.list (I : Inv X pins σ H s) (h : SqL X.K H a xs) : ∃ its : List Value, Vals xs its ∧ PlainL s.heap a its.toArray ∧ xs.length ≤ sizeLine := by
  rcases h with h | ⟨o, its, n, hk, hc, hd, hs, hz, r⟩
  · obtain ⟨z, its, n, r, e⟩ := h.ok I.hok
    exact ⟨its, r, ⟨_, n, e, rfl, rfl, rfl⟩, z⟩
  · refine ⟨its.toList, r, ⟨o, n, I.kIn a o hk, hc, hd, by simpa using hs⟩, ?_⟩
    have e := r.length
    simp only [Array.length_toList] at e
    omega
theorem Inv.tuple (I : Inv X pins σ H s) (h : SqT X.K H a xs) : ∃ its : List Value, Vals xs its ∧ IsTup s.heap a its.toArray ∧ xs.length ≤ sizeLine := by
  rcases h with h | ⟨o, its, n, hk, hc, hs, hz, r⟩
  · obtain ⟨z, its, r, p⟩ := h.ok I.hok
    exact ⟨its, r, p, z⟩
  · refine ⟨its.toList, r, ⟨o, I.kIn a o hk, hc, n, by simpa using hs⟩, ?_⟩
    have e := r.length
    simp only [Array.length_toList] at e
    omega
theorem Inv.list_inj (I : Inv X pins σ H s) (h : SqL X.K H a xs) (h' : SqL X.K H a ys) : xs = ys := by
  obtain ⟨its, r, ⟨o, n, e, _, _, d⟩, _⟩ := I.list h
  obtain ⟨its', r', ⟨o', n', e', _, _, d'⟩, _⟩ := I.list h'
  rw [e] at e'; cases e'
  rw [d] at d'
  injection d' with d1 _
  have : its = its' := by simpa using congrArg Array.toList d1
  subst this
  exact r.inj r'
theorem Inv.tuple_inj (I : Inv X pins σ H s) (h : SqT X.K H a xs) (h' : SqT X.K H a ys) : xs = ys := by
  obtain ⟨its, r, ⟨o, e, _, n, d⟩, _⟩ := I.tuple h
  obtain ⟨its', r', ⟨o', e', _, n', d'⟩, _⟩ := I.tuple h'
  rw [e] at e'; cases e'
  rw [d] at d'
  injection d' with d1 _
  have : its = its' := by simpa using congrArg Array.toList d1
  subst this
  exact r.inj r'
end

/-! ### another wish about exceptions -/
abbrev Cx.wish (X : Cx) (E : Value → Shared → Prop) : Cx := { X with xe := E }
/-- no exception leaves -/
abbrev Cx.nox (X : Cx) : Cx := X.wish fun _ _ => False
theorem Cx.Ok.wish {X : Cx} (ok : X.Ok) (E : Value → Shared → Prop) : (X.wish E).Ok :=
  ⟨ok.mod, ok.kind, ok.glob, ok.blt, ok.above, ok.inj, ok.has, ok.cab, ok.hd, ok.frames, ok.stk, ok.exf, ok.bs, ok.bsz, ok.noex, ok.exfs, ok.funs, ok.frf⟩
theorem Cx.Ok.unwish {X : Cx} {E : Value → Shared → Prop} (ok : (X.wish E).Ok) : X.Ok :=
  ⟨ok.mod, ok.kind, ok.glob, ok.blt, ok.above, ok.inj, ok.has, ok.cab, ok.hd, ok.frames, ok.stk, ok.exf, ok.bs, ok.bsz, ok.noex, ok.exfs, ok.funs, ok.frf⟩
section
variable {X : Cx} {pins : List (Addr × Obj)} {σ : St} {H : Hp} {s : Shared} {E : Value → Shared → Prop}
theorem Inv.wish (I : Inv X pins σ H s) (E : Value → Shared → Prop) : Inv (X.wish E) pins σ H s := ⟨I.ok.wish E, I.os, I.bare, I.base, I.loc, I.cell, I.free, I.freeC, I.pin, I.hok, I.len⟩
theorem Inv.unwish (I : Inv (X.wish E) pins σ H s) : Inv X pins σ H s := ⟨I.ok.unwish, I.os, I.bare, I.base, I.loc, I.cell, I.free, I.freeC, I.pin, I.hok, I.len⟩
theorem SP.unwish {D : Ends} {f : Flow} {s' : Shared} (h : SP (X.wish E) pins D f s') : SP X pins D f s' := by
  cases f with
  | next => obtain ⟨σ', H', I, q⟩ := h; exact ⟨σ', H', I.unwish, q⟩
  | brk => obtain ⟨σ', H', I, q⟩ := h; exact ⟨σ', H', I.unwish, q⟩
  | cont => obtain ⟨σ', H', I, q⟩ := h; exact ⟨σ', H', I.unwish, q⟩
  | ret u => obtain ⟨v, σ', H', I, r, q⟩ := h; exact ⟨v, σ', H', I.unwish, r, q⟩
theorem PSs.nox {st : List Stmt} {t : TS} (h : PSs X.nox st t) : PSs X st t := fun pins s σ H D I hw =>
  wpAny_mono (h pins s σ H D (I.wish _) hw) (fun _ _ q => q.unwish) fun _ _ z => False.elim z
end

/-! ### blocks and small statements -/
section
variable {X : Cx} {st : Stmt} {rest : List Stmt} {t u : TS} {e : Expr} {te : TE} {pos : Pos}
def tNext : TS := fun D σ H => D.nx σ H
def tSeq (t u : TS) : TS := fun D σ H => t { D with nx := u D } σ H
theorem pss_nil : PSs X [] tNext := fun _ _ σ H _ I h => wpAny_execs_nil ⟨σ, H, I, h⟩
theorem pss_cons (h1 : PS X st t) (h2 : PSs X rest u) : PSs X (st :: rest) (tSeq t u) := by
  intro pins s σ H D I h
  refine wpAny_execs_cons (thn (h1 pins s σ H { D with nx := u D } I h) fun f s1 q => ?_)
  cases f with
  | next =>
    obtain ⟨σ', H', I', q⟩ := q
    exact h2 pins s1 σ' H' D I' q
  | ret v => exact q
  | brk => exact q
  | cont => exact q
theorem pss_one (h1 : PS X st t) : PSs X [st] t := by
  intro pins s σ H D I h
  refine wpAny_execs_cons (thn (h1 pins s σ H D I h) fun f s1 q => ?_)
  cases f with
  | next => exact wpAny_execs_nil q
  | ret v => exact q
  | brk => exact q
  | cont => exact q
/-- in a def's body nothing is shown -/
theorem Inv.quiet {pins : List (Addr × Obj)} {σ : St} {H : Hp} {s : Shared} (I : Inv X pins σ H s) : interactive X.env = false := by simp [interactive, I.ok.kind]
/-- an expression whose value is dropped -/
def tDrop (te : TE) : TS := fun D σ H => te σ H fun _ H1 => D.nx σ H1
theorem ps_expr (he : PE X e te) (hs : swapsWith e none pos.line X.env = pure false := by rfl) : PS X (.Expr e pos) (tDrop te) := by
  intro pins s σ H D I h
  exact wpAny_Expr_any (thn (he pins s σ H _ I h) fun v s1 ⟨x, H1, I1, r1, q1⟩ => ⟨σ, H1, I1, q1⟩) I.quiet hs
def tRet (te : TE) : TS := fun D σ H => te σ H D.rt
theorem ps_ret (he : PE X e te) : PS X (.Return (some e) pos) (tRet te) := by
  intro pins s σ H D I h
  exact wpAny_Return_some (thn (he pins s σ H _ I h) fun v s1 ⟨x, H1, I1, r1, q1⟩ => ⟨x, σ, H1, I1, r1, q1⟩)
def tIfS (c : TT) (t u : TS) : TS := fun D σ H => c σ H fun b H1 => if b = true then t D σ H1 else u D σ H1
theorem ps_if {c : Expr} {a b : List Stmt} {tc : TT} (hc : PT X c tc) (ha : PSs X a t) (hb : PSs X b u) : PS X (.If c a b pos) (tIfS tc t u) := by
  intro pins s σ H D I h
  refine wpAny_If (thn (hc pins s σ H _ I h) fun d s1 ⟨H1, I1, q1⟩ => ?_)
  cases d with
  | true => exact ha pins s1 σ H1 D I1 q1
  | false => exact hb pins s1 σ H1 D I1 q1
end

/-! ### targets -/
abbrev TG := V → St → Hp → (St → Hp → Prop) → Prop
abbrev TGs := List V → St → Hp → (St → Hp → Prop) → Prop
def PG (X : Cx) (target : Expr) (t : TG) : Prop :=
  ∀ (pins : List (Addr × Obj)) (s : Shared) (σ : St) (H : Hp) (v : V) (u : Value) (Q : St → Hp → Prop), Inv X pins σ H s → RelV v u → t v σ H Q →
    wpAny (model X.prog X.w) X.A (assign target X.env u) (fun _ s' => ∃ σ' H', Inv X pins σ' H' s' ∧ Q σ' H') X.xe s
/-- several targets, one after another -/
def PGs (X : Cx) (ts : List Expr) (t : TGs) : Prop :=
  ∀ (pins : List (Addr × Obj)) (s : Shared) (σ : St) (H : Hp) (vs : List V) (us : List Value) (Q : St → Hp → Prop), Inv X pins σ H s → Vals vs us → t vs σ H Q →
    wpAny (model X.prog X.w) X.A (assignInOrder ((assignEach ts X.env).map (·.2)) us) (fun _ s' => ∃ σ' H', Inv X pins σ' H' s' ∧ Q σ' H') X.xe s
section
variable {X : Cx} {pos : Pos}
def gName (i : Nat) : TG := fun v σ H Q => Q (σ.set i (some v)) H
theorem pg_name {i : Nat} {x : Str} (hN : X.N.Nodup) (hi : X.N[i]? = some x) (hx : Loc X.env.scope x) (hf : X.fn x = true ∨ X.env.scope.names.lookup x = some .local := by first | exact .inl rfl | exact .inr rfl | assumption) : PG X (.Name x pos) (gName i) := by
  intro pins s σ H v u Q I r h
  exact wpAny_assign_Name (store_ok I hN hi hx r (fun s' I' => ⟨_, H, I', h⟩) hf)
def gNil : TGs := fun vs σ H Q => vs = [] ∧ Q σ H
def gCons (t : TG) (u : TGs) : TGs := fun vs σ H Q => ∃ v r, vs = v :: r ∧ t v σ H fun σ' H' => u r σ' H' Q
theorem pgs_nil : PGs X [] gNil := by
  intro pins s σ H vs us Q I r h
  obtain ⟨e, h⟩ := h
  subst e
  cases r
  exact assignInOrder_nil ⟨σ, H, I, h⟩
theorem pgs_cons {e : Expr} {es : List Expr} {t : TG} {u : TGs} (h1 : PG X e t) (h2 : PGs X es u)
    (hs : (assignEach (e :: es) X.env).map (·.2) = assign e X.env :: (assignEach es X.env).map (·.2) := by rfl) : PGs X (e :: es) (gCons t u) := by
  intro pins s σ H vs us Q I r h
  obtain ⟨v, vr, e1, h⟩ := h
  subst e1
  cases r with
  | cons r rr =>
    rw [hs]
    refine assignInOrder_cons (thn (h1 pins s σ H _ _ _ I r h) fun _ s1 ⟨σ1, H1, I1, q1⟩ => ?_)
    exact h2 pins s1 σ1 H1 _ _ Q I1 rr q1
/-- (a, b, ..) = a tuple of that length -/
def gTup (K : PySem.W.Frag) (n : Nat) (t : TGs) : TG := fun v σ H Q => ∃ a xs, v = .ref a ∧ SqT K H a xs ∧ xs.length = n ∧ t xs σ H Q
theorem pg_tup {es : List Expr} {k : Nat} {t : TGs} {n : Nat} (hc : X.calm = true) (h : PGs X es t)
    (hn : (assignEach es X.env).length = n := by rfl) (hst : (assignEach es X.env).findIdx? (·.1) = none := by rfl) : PG X (.Tuple es k pos) (gTup X.K n t) := by
  intro pins s σ H v u Q I r hw
  obtain ⟨a, xs, e1, hq, hl, hw⟩ := hw
  subst e1
  cases r
  obtain ⟨its, rv, ht, hz⟩ := I.tuple hq
  refine assign_Tuple_tuple (I.ok.hd hc) ht (by simp [hn, ← hl, rv.length]) hst fun h' hx => ?_
  have I1 : Inv X pins σ H { s with heap := h' } := I.kept (t' := s.toks) fun b o e => hx b o (Nat.ne_of_lt (Heap.lt_size e)) e
  exact h pins _ σ H xs _ Q I1 (by simpa using rv) hw
/-- target = value -/
def tAsg (te : TE) (g : TG) : TS := fun D σ H => te σ H fun x H1 => g x σ H1 D.nx
theorem ps_asg {tg e : Expr} {te : TE} {g : TG} (he : PE X e te) (hg : PG X tg g) (hs : swapsWithSole [tg] e pos.line X.env = pure false := by rfl) (hw : swappedStores [tg] e X.env = pure none := by rfl)
    (h1 : (assignEach [tg] X.env).map (·.2) = [assign tg X.env] := by rfl) : PS X (.Assign [tg] e pos) (tAsg te g) := by
  intro pins s σ H D I h
  refine wpAny_Assign_stores (thn (he pins s σ H _ I h) fun v s1 ⟨x, H1, I1, r1, q1⟩ => ?_) hs hw
  rw [h1]
  exact thn (hg pins s1 σ H1 x v _ I1 r1 q1) fun _ s2 q => q
/-- name = value -/
theorem ps_set {i : Nat} {x : Str} {e : Expr} {te : TE} {pos' : Pos} (hN : X.N.Nodup) (hi : X.N[i]? = some x) (hx : Loc X.env.scope x) (he : PE X e te) (hs : swapsWith e (some (.Name x pos')) pos.line X.env = pure false := by rfl) (hf : X.fn x = true ∨ X.env.scope.names.lookup x = some .local := by first | exact .inl rfl | exact .inr rfl | assumption) :
    PS X (.Assign [.Name x pos'] e pos) (tAsg te (gName i)) := by
  intro pins s σ H D I h
  refine wpAny_Assign_Name (thn (he pins s σ H _ I h) fun v s1 ⟨y, H1, I1, r1, q1⟩ => ?_) hs
  exact store_ok I1 hN hi hx r1 (fun s2 I2 => ⟨_, H1, I2, q1⟩) hf
end

/-! ### while -/
section
variable {X : Cx} {pos : Pos}
/-- the invariant W with its measure -/
def tWhile (c : TT) (tb : TS) : TS := fun D σ H => ∃ W : Nat → St → Hp → Prop, (∃ m, W m σ H) ∧ ∀ m σ H, W m σ H →
  c σ H fun b H1 => if b = true then ∃ N : St → Hp → Prop, (∀ σ' H', N σ' H' → ∃ m', m' < m ∧ W m' σ' H') ∧ tb { D with nx := N, ct := N, bk := D.nx } σ H1 else D.nx σ H1
theorem ps_while {c : Expr} {body : List Stmt} {tc : TT} {tb : TS} (hp : PassesOwn (model X.prog X.w) X.A X.env X.xe) (hc : PT X c tc) (hb : PSs X body tb) : PS X (.While c body [] pos) (tWhile tc tb) := by
  intro pins s σ H D I h
  obtain ⟨W, ⟨m0, w0⟩, turn⟩ := h
  refine wpAny_While (codeAny_whileLoop (fun n s' => ∃ σ' H', Inv X pins σ' H' s' ∧ W n σ' H') ?_ m0 ⟨σ, H, I, w0⟩)
  rintro n s1 ⟨σ1, H1, I1, w1⟩
  refine wpAny_passesOwn hp (thn (hc pins s1 σ1 H1 _ I1 (turn n σ1 H1 w1)) fun b s2 ⟨H2, I2, q2⟩ => ?_)
  cases b with
  | true =>
    obtain ⟨N, hN, q2⟩ := q2
    rw [if_pos rfl]
    refine wpAny_passesOwn hp (thn (hb pins s2 σ1 H2 _ I2 q2) fun f s3 q3 => ?_)
    cases f with
    | next =>
      obtain ⟨σ3, H3, I3, n3⟩ := q3
      obtain ⟨m', hm, w3⟩ := hN σ3 H3 n3
      exact ⟨m', hm, σ3, H3, I3, w3⟩
    | cont =>
      obtain ⟨σ3, H3, I3, n3⟩ := q3
      obtain ⟨m', hm, w3⟩ := hN σ3 H3 n3
      exact ⟨m', hm, σ3, H3, I3, w3⟩
    | brk => exact q3
    | ret v => exact q3
  | false =>
    rw [if_neg Bool.false_ne_true]
    exact wpAny_execs_nil ⟨σ1, H2, I2, q2⟩
end

/-! ### what a loop or a comprehension walks -/
/-- at turn i: it yields x (the heap may grow), or it stops -/
structure It where
  go : Nat → Hp → Prop
  yld : Nat → Hp → V → Hp → Prop
  stop : Nat → Hp → Prop
/-- the iterator's own objects may turn: they are not the frame's, not pinned, younger than the entry (or a comprehension's own) -/
def FpOk (X : Cx) (pins : List (Addr × Obj)) (H : Hp) (b : Addr) : Prop :=
  H b = none ∧ b ≠ X.env.locals ∧ b ∉ X.fs ∧ (b ∈ X.ex ∨ X.s₀.heap.objs.size ≤ b) ∧ (∀ x c, X.env.cells.lookup x = some c → c ≠ b) ∧ ∀ p ∈ X.pn ++ pins, p.1 ≠ b
theorem Inv.fpOk {X : Cx} {pins : List (Addr × Obj)} {σ : St} {H H' : Hp} {s : Shared} {b : Addr} (I : Inv X pins σ H s) (hb : s.heap.objs.size ≤ b) (hn : H' b = none) : FpOk X pins H' b := by
  refine ⟨hn, Nat.ne_of_gt (Nat.lt_of_lt_of_le I.lt hb), I.nofs hb, .inr (Nat.le_trans I.sz hb), fun x c e z => ?_, fun p hp z => ?_⟩
  · obtain ⟨v, q⟩ := I.cell x c e
    exact absurd (Nat.lt_of_lt_of_le q.lt (by rw [z]; exact hb)) (Nat.lt_irrefl _)
  · exact absurd (Nat.lt_of_lt_of_le (Heap.lt_size (I.pin p hp).1) (by rw [z]; exact hb)) (Nat.lt_irrefl _)
structure Turn (P : Program) (w : World) (K : PySem.W.Frag) (tg : Expr) (J : It) (fp : List Addr) (it : Addr) (tn : Nat → Heap → Prop) : Prop where
  mem : it ∈ fp
  obj : ∀ i h, tn i h → ∀ b ∈ fp, ∃ o, h.get? b = some o ∧ ∀ v, o.data ≠ .cell v
  keep : ∀ i h h', tn i h → (∀ b ∈ fp, ∀ o, h.get? b = some o → h'.get? b = some o) → tn i h'
  item : ∀ (X : Cx), X.prog = P → X.w = w → X.K = K → X.calm = true → ∀ (i : Nat) (pins : List (Addr × Obj)) (s : Shared) (σ : St) (H : Hp) (E : Value → Shared → Prop), Inv X pins σ H s → (∀ b ∈ fp, FpOk X pins H b) → tn i s.heap → J.go i H →
    wpAny (model P w) X.A (pyNext (.ref it)) (fun r s1 => ∃ u, r = some u ∧
      wpAny (model P w) X.A (letOwnedTupleGo tg (.ref it) u) (fun _ s2 => ∃ x H', Inv X pins σ H' s2 ∧ RelV x u ∧ J.yld i H x H' ∧ tn (i + 1) s2.heap ∧ ∀ b ∈ fp, H' b = none) E s1) E s
  done : ∀ (X : Cx), X.prog = P → X.w = w → X.K = K → X.calm = true → ∀ (i : Nat) (pins : List (Addr × Obj)) (s : Shared) (σ : St) (H : Hp) (E : Value → Shared → Prop), Inv X pins σ H s → (∀ b ∈ fp, FpOk X pins H b) → tn i s.heap → J.stop i H →
    wpAny (model P w) X.A (pyNext (.ref it)) (fun r s1 => r = none ∧ Inv X pins σ H s1) E s
  self : ∀ (A : Around) (i : Nat) (s : Shared) (Q : Value → Shared → Prop) (E : Value → Shared → Prop), tn i s.heap → Q (.ref it) s → wpAny (model P w) A (pyIter (.ref it)) Q E s
abbrev TI := St → Hp → (It → Hp → Prop) → Prop
/-- an iterator has come -/
def PIE (X : Cx) (pins : List (Addr × Obj)) (σ : St) (tg : Expr) (R : It → Hp → Prop) (itv : Value) (s2 : Shared) : Prop :=
  ∃ (it : Addr) (fp : List Addr) (tn : Nat → Heap → Prop) (J : It) (H' : Hp), itv = .ref it ∧ Inv X pins σ H' s2 ∧ Turn X.prog X.w X.K tg J fp it tn ∧ tn 0 s2.heap ∧ (∀ b ∈ fp, FpOk X pins H' b) ∧ R J H'
def PI (X : Cx) (tg iter : Expr) (wi : TI) : Prop :=
  ∀ (pins : List (Addr × Obj)) (s : Shared) (σ : St) (H : Hp) (R : It → Hp → Prop), Inv X pins σ H s → wi σ H R →
    wpAny (model X.prog X.w) X.A (eval iter X.env) (fun v s1 => wpAny (model X.prog X.w) X.A (pyIter v) (PIE X pins σ tg R) X.xe s1) X.xe s

/-- the step ahead of the store is nothing for an iterator that keeps no tuple -/
theorem go_of {M : Model} {A : Around} {E : Value → Shared → Prop} {s : Shared} {tg : Expr} {it : Addr} {u : Value} {o : Obj} {n : String} {vs : Array Value} {Q : Unit → Shared → Prop} (ho : s.heap.get? it = some o) (hc : o.cls = .type n) (hd : o.data = .fields vs)
    (hn : ["enumerate", "zip", "dict_itemiterator", "dict_reverseitemiterator", "odict_iterator", "itertools.zip_longest", "itertools.pairwise"].contains n = false) (hQ : Q () s) : wpAny M A (letOwnedTupleGo tg (.ref it) u) Q E s := by
  unfold letOwnedTupleGo
  cases tg <;> first
    | exact wpAny_pure hQ
    | (cases u <;> first
        | exact wpAny_pure hQ
        | (refine wpAny_bind (wpAny_load ho ?_)
           rw [hc, hd]
           show wpAny M A (if (["enumerate", "zip", "dict_itemiterator", "dict_reverseitemiterator", "odict_iterator", "itertools.zip_longest", "itertools.pairwise"].contains n && vs[0]? == some (rawInt _)) = true then _ else _) Q E s
           rw [if_neg (by intro h; rw [hn, Bool.false_and] at h; cases h)]
           exact wpAny_pure hQ))

/-- the list at a, as it stands at each turn (a loop may append to it) -/
def Itl (K : PySem.W.Frag) (a : Addr) : It :=
  ⟨fun i H => ∃ xs x, SqL K H a xs ∧ xs[i]? = some x, fun i H x H' => H' = H ∧ ∀ xs, SqL K H a xs → xs[i]? = some x, fun i H => ∃ xs, SqL K H a xs ∧ xs.length ≤ i⟩
def Itt (K : PySem.W.Frag) (a : Addr) : It :=
  ⟨fun i H => ∃ xs x, SqT K H a xs ∧ xs[i]? = some x, fun i H x H' => H' = H ∧ ∀ xs, SqT K H a xs → xs[i]? = some x, fun i H => ∃ xs, SqT K H a xs ∧ xs.length ≤ i⟩
/-- lo, lo + 1, .. (n of them) -/
def Itr (lo : Int) (n : Nat) : It := ⟨fun i _ => i < n, fun i H x H' => H' = H ∧ x = .int (lo + i), fun i _ => n ≤ i⟩
theorem turn_list {P : Program} {w : World} {K : PySem.W.Frag} {tg : Expr} (a it : Addr) : Turn P w K tg (Itl K a) [it] it (fun i h => h.IsListIter it a i) where
  mem := by simp
  obj := fun i h st b hb => by
    have e : b = it := by simpa using hb
    subst e
    obtain ⟨o, e, c, d⟩ := st
    exact ⟨o, e, fun v z => by rw [d] at z; cases z⟩
  keep := fun i h h' st k => st.at fun o e => k it (by simp) o e
  item := by
    intro X hP hw hK hc i pins s σ H E I hf st hg
    subst hP hw hK
    obtain ⟨xs, x, hq, hx⟩ := hg
    obtain ⟨its, rv, p, hz⟩ := I.list hq
    obtain ⟨u, hu, ru⟩ := rv.get hx
    obtain ⟨f0, f1, f2, f3, f4, f5⟩ := hf it (by simp)
    refine wpAny_pyNext_list_item st p.isList (x := u) (by simpa using hu) fun h' st' sb => ?_
    have I1 : Inv X pins σ H { s with heap := h' } := I.turned (t' := s.toks) (fun b o hb e => (sb.2 b hb).trans e) f0 f1 f3 f4 f5
    obtain ⟨o, e, c, d⟩ := id st'
    exact ⟨u, rfl, go_of (s := { s with heap := h' }) e c d (by decide) ⟨x, H, I1, ru, ⟨rfl, fun ys hy => by rw [I.list_inj hy hq]; exact hx⟩, st', fun b hb => (hf b hb).1⟩⟩
  done := by
    intro X hP hw hK hc i pins s σ H E I hf st hg
    subst hP hw hK
    obtain ⟨xs, hq, hx⟩ := hg
    obtain ⟨its, rv, p, hz⟩ := I.list hq
    obtain ⟨f0, f1, f2, f3, f4, f5⟩ := hf it (by simp)
    have hl := rv.length
    exact wpAny_pyNext_list_end (I.ok.hd hc) st p.isList (by simp; omega) fun h' eb => ⟨rfl, I.turned (t' := s.toks) (fun b o hb e => eb b o hb e) f0 f1 f3 f4 f5⟩
  self := fun _ _ _ _ _ st h => wpAny_pyIter_listiter st h
theorem turn_tuple {P : Program} {w : World} {K : PySem.W.Frag} {tg : Expr} (a it : Addr) : Turn P w K tg (Itt K a) [it] it (fun i h => h.IsTupleIter it a i) where
  mem := by simp
  obj := fun i h st b hb => by
    have e : b = it := by simpa using hb
    subst e
    obtain ⟨o, e, c, d⟩ := st
    exact ⟨o, e, fun v z => by rw [d] at z; cases z⟩
  keep := fun i h h' st k => st.at fun o e => k it (by simp) o e
  item := by
    intro X hP hw hK hc i pins s σ H E I hf st hg
    subst hP hw hK
    obtain ⟨xs, x, hq, hx⟩ := hg
    obtain ⟨its, rv, p, hz⟩ := I.tuple hq
    obtain ⟨u, hu, ru⟩ := rv.get hx
    obtain ⟨f0, f1, f2, f3, f4, f5⟩ := hf it (by simp)
    refine wpAny_pyNext_tuple_item st (show s.heap.IsTuple a its.toArray from p) (x := u) (by simpa using hu) fun h' st' sb => ?_
    have I1 : Inv X pins σ H { s with heap := h' } := I.turned (t' := s.toks) (fun b o hb e => (sb.2 b hb).trans e) f0 f1 f3 f4 f5
    obtain ⟨o, e, c, d⟩ := id st'
    exact ⟨u, rfl, go_of (s := { s with heap := h' }) e c d (by decide) ⟨x, H, I1, ru, ⟨rfl, fun ys hy => by rw [I.tuple_inj hy hq]; exact hx⟩, st', fun b hb => (hf b hb).1⟩⟩
  done := by
    intro X hP hw hK hc i pins s σ H E I hf st hg
    subst hP hw hK
    obtain ⟨xs, hq, hx⟩ := hg
    obtain ⟨its, rv, p, hz⟩ := I.tuple hq
    obtain ⟨f0, f1, f2, f3, f4, f5⟩ := hf it (by simp)
    have hl := rv.length
    exact wpAny_pyNext_tuple_end (I.ok.hd hc) st (show s.heap.IsTuple a its.toArray from p) (by simp; omega) fun h' eb => ⟨rfl, I.turned (t' := s.toks) (fun b o hb e => eb b o hb e) f0 f1 f3 f4 f5⟩
  self := fun _ _ _ _ _ st h => wpAny_pyIter_tupleiter st h
theorem turn_range {P : Program} {w : World} {K : PySem.W.Frag} {tg : Expr} (it : Addr) (lo : Int) (n : Nat) : Turn P w K tg (Itr lo n) [it] it (fun i h => IsRangeIter h it (lo + (i : Nat) * 1) ((n : Int) - (i : Nat)) 1) where
  mem := by simp
  obj := fun i h st b hb => by
    have e : b = it := by simpa using hb
    subst e
    exact ⟨_, st, fun v z => by
      have z' : Data.fields _ = Data.cell v := z
      cases z'⟩
  keep := fun i h h' st k => k it (by simp) _ st
  item := by
    intro X hP hw hK hc i pins s σ H E I hf st hg
    subst hP hw hK
    obtain ⟨f0, f1, f2, f3, f4, f5⟩ := hf it (by simp)
    have W := Walks.range (prog := X.prog) (w := X.w) (I.ok.hd hc) it lo 1 n
    refine W.item i s _ _ hg st fun v h' tk hv st' kk => ?_
    obtain ⟨t, rfl⟩ := hv
    have I1 : Inv X pins σ H { s with heap := h', toks := tk } := I.turned (fun b o hb e => kk b o (by simpa using hb) e) f0 f1 f3 f4 f5
    refine ⟨_, rfl, go_of (s := { s with heap := h', toks := tk }) (n := "range_iterator") st' rfl rfl (by decide) ⟨.int (lo + i), H, I1, ⟨t, ?_⟩, ⟨rfl, rfl⟩, st', fun b hb => (hf b hb).1⟩⟩
    rw [Int.mul_one]
  done := by
    intro X hP hw hK hc i pins s σ H E I hf st hg
    subst hP hw hK
    obtain ⟨f0, f1, f2, f3, f4, f5⟩ := hf it (by simp)
    exact wpAny_pyNext_range_end (I.ok.hd hc) st (by have : n ≤ i := hg; omega) fun h' eb => ⟨rfl, I.turned (t' := s.toks) (fun b o hb e => eb b o hb e) f0 f1 f3 f4 f5⟩
  self := fun _ _ _ _ _ st h => wpAny_pyIter_rangeiter st h
end L2

namespace L2
open PySem PySem.Spec PyProof.Rows
section
variable {X : Cx} {tg : Expr}
def iList (K : PySem.W.Frag) (tl : TE) : TI := fun σ H R => tl σ H fun x H1 => ∃ a, x = .ref a ∧ (∃ xs, SqL K H1 a xs) ∧ R (Itl K a) H1
def iTup (K : PySem.W.Frag) (tl : TE) : TI := fun σ H R => tl σ H fun x H1 => ∃ a, x = .ref a ∧ (∃ xs, SqT K H1 a xs) ∧ R (Itt K a) H1
theorem pi_list {l : Expr} {tl : TE} (hl : PE X l tl) : PI X tg l (iList X.K tl) := by
  intro pins s σ H R I h
  refine thn (hl pins s σ H _ I h) fun v s1 ⟨x, H1, I1, r1, q1⟩ => ?_
  obtain ⟨a, e, ⟨xs, hq⟩, q⟩ := q1
  subst e
  cases r1
  obtain ⟨its, rv, p, hz⟩ := I1.list hq
  refine wpAny_pyIter_list p.isList ?_
  refine ⟨s1.heap.objs.size, [s1.heap.objs.size], _, _, H1, rfl, I1.kept (t' := s1.toks) fun b o e => Heap.get?_push_of_some _ e, turn_list a _, ⟨_, Heap.get?_push_size _ rfl, rfl, rfl⟩, fun b hb => ?_, q⟩
  have e : b = s1.heap.objs.size := by simpa using hb
  subst e
  exact I1.fpOk (Nat.le_refl _) (I1.hok.fresh (Nat.le_refl _))
theorem pi_tup {l : Expr} {tl : TE} (hl : PE X l tl) : PI X tg l (iTup X.K tl) := by
  intro pins s σ H R I h
  refine thn (hl pins s σ H _ I h) fun v s1 ⟨x, H1, I1, r1, q1⟩ => ?_
  obtain ⟨a, e, ⟨xs, hq⟩, q⟩ := q1
  subst e
  cases r1
  obtain ⟨its, rv, p, hz⟩ := I1.tuple hq
  refine wpAny_pyIter_tuple (show s1.heap.IsTuple a its.toArray from p) ?_
  refine ⟨s1.heap.objs.size, [s1.heap.objs.size], _, _, H1, rfl, I1.kept (t' := s1.toks) fun b o e => Heap.get?_push_of_some _ e, turn_tuple a _, ⟨_, Heap.get?_push_size _ rfl, rfl, rfl⟩, fun b hb => ?_, q⟩
  have e : b = s1.heap.objs.size := by simpa using hb
  subst e
  exact I1.fpOk (Nat.le_refl _) (I1.hok.fresh (Nat.le_refl _))
/-- a range object just made, walked -/
theorem range_it {pins : List (Addr × Obj)} {σ : St} {H : Hp} {s : Shared} {R : It → Hp → Prop} {E : Value → Shared → Prop} {lo hi : Int} {t u v : Tok} {tk : Nat} (I : Inv X pins σ H s) (h1 : -(2 ^ 62) ≤ lo) (h2 : lo < 2 ^ 62) (h3 : -(2 ^ 62) ≤ hi) (h4 : hi < 2 ^ 62)
    (q : R (Itr lo (hi - lo).toNat) H) : wpAny (model X.prog X.w) X.A (pyIter (.ref s.heap.objs.size)) (PIE X pins σ tg R) E { s with heap := s.heap.push { cls := .type "range", data := .fields #[.int lo t, .int hi u, .int 1 v] }, toks := tk } := by
  refine wpAny_pyIter_range (IsRange.new ..) (small_one h1 h2 h3 h4) ?_
  have I1 : Inv X pins σ H { s with heap := s.heap.push { cls := .type "range", data := .fields #[.int lo t, .int hi u, .int 1 v] }, toks := tk } := I.kept fun b o e => Heap.get?_push_of_some _ e
  refine ⟨(s.heap.push { cls := .type "range", data := .fields #[.int lo t, .int hi u, .int 1 v] }).objs.size, [(s.heap.push { cls := .type "range", data := .fields #[.int lo t, .int hi u, .int 1 v] }).objs.size], _, _, H, rfl,
    I1.kept (t' := tk) fun b o e => Heap.get?_push_of_some _ e, turn_range _ lo (hi - lo).toNat, ?_, fun b hb => ?_, q⟩
  · have e1 : lo + ((0 : Nat) : Int) * 1 = lo := by simp
    have e2 : (((hi - lo).toNat : Nat) : Int) - ((0 : Nat) : Int) = Builtin.Range.rangeSize lo hi 1 := by rw [rangeSize_one]; split <;> omega
    show IsRangeIter _ _ (lo + ((0 : Nat) : Int) * 1) ((((hi - lo).toNat : Nat) : Int) - ((0 : Nat) : Int)) 1
    rw [e1, e2]
    exact Heap.get?_push_size _ rfl
  · have e : b = (s.heap.push { cls := .type "range", data := .fields #[.int lo t, .int hi u, .int 1 v] }).objs.size := by simpa using hb
    subst e
    exact I1.fpOk (Nat.le_refl _) (I1.hok.fresh (Nat.le_refl _))
def iRng1 (ta : TA) : TI := fun σ H R => ta σ H fun vs H1 => ∃ j : Int, vs = [.int j] ∧ -(2 ^ 62) ≤ j ∧ j < 2 ^ 62 ∧ R (Itr 0 j.toNat) H1
def iRng2 (ta : TA) : TI := fun σ H R => ta σ H fun vs H1 => ∃ i j : Int, vs = [.int i, .int j] ∧ (-(2 ^ 62) ≤ i ∧ i < 2 ^ 62 ∧ -(2 ^ 62) ≤ j ∧ j < 2 ^ 62) ∧ R (Itr i (j - i).toNat) H1
theorem pi_range1 {a : Expr} {ta : TA} {p pos : Pos} (hg : Gl X "range") (hm : X.mg "range" = none) (ha : PA X [a] ta) (hs : starEach [a] X.env = [(false, eval a X.env)] := by rfl) : PI X tg (.Call (.Name "range" p) [a] [] pos) (iRng1 ta) := by
  intro pins s σ H R I h
  refine Call_ (ld_blt I hg hm boot_range (PyProof.Rows.callWith_type1 (thn (ha pos pins s σ H _ I h) fun us s1 ⟨vs, H1, I1, r1, q1⟩ => ?_) hs rfl))
  obtain ⟨j, e, q1, q2, q⟩ := q1
  subst e
  cases r1 with
  | cons r rr =>
    cases rr
    obtain ⟨t, rfl⟩ := r
    exact call_range_1 (range_it I1 (by omega) (by omega) q1 q2 (by simpa using q))
theorem pi_range2 {a b : Expr} {ta : TA} {p pos : Pos} (hg : Gl X "range") (hm : X.mg "range" = none) (ha : PA X [a, b] ta) (hs : starEach [a, b] X.env = [(false, eval a X.env), (false, eval b X.env)] := by rfl) (hs2 : starEach [b] X.env = [(false, eval b X.env)] := by rfl) :
    PI X tg (.Call (.Name "range" p) [a, b] [] pos) (iRng2 ta) := by
  intro pins s σ H R I h
  refine Call_ (ld_blt I hg hm boot_range (PyProof.Rows.callWith_type1 (thn (ha pos pins s σ H _ I h) fun us s1 ⟨vs, H1, I1, r1, q1⟩ => ?_) (by rw [hs, hs2]) (by rw [hs2]; rfl)))
  obtain ⟨i, j, e, ⟨q1, q2, q3, q4⟩, q⟩ := q1
  subst e
  cases r1 with
  | cons r rr =>
    cases rr with
    | cons r' rr =>
      cases rr
      obtain ⟨t, rfl⟩ := r
      obtain ⟨t', rfl⟩ := r'
      exact call_range_2 (range_it I1 q1 q2 q3 q4 q)

/-! ### for -/
/-- W: the invariant by the turn and a measure; N: what the body is to reach -/
def tFor (wi : TI) (g : TG) (tb : TS) : TS := fun D σ H => wi σ H fun J H1 => ∃ W : Nat → Nat → St → Hp → Prop, (∃ m, W 0 m σ H1) ∧ ∀ i m σ H, W i m σ H →
  (J.stop i H ∧ D.nx σ H) ∨ (J.go i H ∧ ∃ N : St → Hp → Prop, (∀ σ' H', N σ' H' → ∃ m', m' < m ∧ W (i + 1) m' σ' H') ∧ ∀ x H', J.yld i H x H' → g x σ H' fun σ2 H2 => tb { D with nx := N, ct := N, bk := D.nx } σ2 H2)
/-- the records at fp as they stand -/
def pinsAt (fp : List Addr) (h : Heap) : List (Addr × Obj) := fp.filterMap fun b => (h.get? b).map fun o => (b, o)
theorem mem_pinsAt {fp : List Addr} {h : Heap} {b : Addr} {o : Obj} (hb : b ∈ fp) (e : h.get? b = some o) : (b, o) ∈ pinsAt fp h := List.mem_filterMap.mpr ⟨b, hb, by rw [e]; rfl⟩
theorem of_pinsAt {fp : List Addr} {h : Heap} {p : Addr × Obj} (hp : p ∈ pinsAt fp h) : p.1 ∈ fp ∧ h.get? p.1 = some p.2 := by
  obtain ⟨b, hb, e⟩ := List.mem_filterMap.mp hp
  cases q : h.get? b with
  | none => rw [q] at e; cases e
  | some o =>
    rw [q] at e
    have e' : (b, o) = p := Option.some.inj e
    subst e'
    exact ⟨hb, q⟩
theorem Inv.pinned {pins : List (Addr × Obj)} {σ : St} {H : Hp} {s : Shared} {fp : List Addr} (I : Inv X pins σ H s) (hf : ∀ b ∈ fp, FpOk X pins H b) (ho : ∀ b ∈ fp, ∃ o, s.heap.get? b = some o ∧ ∀ v, o.data ≠ .cell v) : Inv X (pins ++ pinsAt fp s.heap) σ H s :=
  I.pins_of fun p hp => (List.mem_append.mp hp).elim (fun z => I.pin p (List.mem_append_right _ z)) fun z => by
    obtain ⟨hb, e⟩ := of_pinsAt z
    obtain ⟨f0, f1, f2, _⟩ := hf p.1 hb
    obtain ⟨o, e', d⟩ := ho p.1 hb
    rw [e] at e'; cases e'
    exact ⟨e, f0, f1, f2, d⟩
theorem Inv.unpinned {pins pl : List (Addr × Obj)} {σ : St} {H : Hp} {s : Shared} (I : Inv X (pins ++ pl) σ H s) : Inv X pins σ H s := I.pins_of fun p hp => I.pin p (List.mem_append_right _ (List.mem_append_left _ hp))
theorem ps_for {iter : Expr} {body : List Stmt} {wi : TI} {g : TG} {tb : TS} {pos : Pos} (hp : PassesOwn (model X.prog X.w) X.A X.env X.xe) (hc : X.calm = true) (hi : PI X tg iter wi) (hg : PG X tg g) (hb : PSs X body tb)
    (hs : ∀ x, foldedSetIterable iter X.env x = pure x := by intro _; rfl) : PS X (.For tg iter body [] pos) (tFor wi g tb) := by
  intro pins s σ H D I h
  refine wpAny_For (thn (hi pins s σ H _ I h) fun v s1 h1 => thn h1 fun itv s2 h2 => ?_) hs
  obtain ⟨it, fp, tn, J, H2, e, I2, T, st2, f2, W, ⟨m0, w0⟩, turn⟩ := h2
  subst e
  -- what stays true of the iterator's objects through the loop
  have stat : ∀ {H' : Hp}, (∀ b ∈ fp, H' b = none) → ∀ b ∈ fp, FpOk X pins H' b := fun hn b hb => ⟨hn b hb, (f2 b hb).2⟩
  refine codeAny_forLoop_any (fun n s' => ∃ i σ' H', Inv X pins σ' H' s' ∧ tn i s'.heap ∧ (∀ b ∈ fp, H' b = none) ∧ W i n σ' H') ?_ m0 ⟨0, σ, H2, I2, st2, fun b hb => (f2 b hb).1, w0⟩
  rintro n s3 ⟨i, σ3, H3, I3, st3, fr3, w3⟩
  rcases turn i n σ3 H3 w3 with ⟨stop, qn⟩ | ⟨go, N, hN, step⟩
  · refine wpAny_passesOwn hp (thn (T.done X rfl rfl rfl hc i pins s3 σ3 H3 X.xe I3 (stat fr3) st3 stop) fun r s4 ⟨hr, I4⟩ => ?_)
    subst hr
    exact wpAny_execs_nil ⟨σ3, H3, I4, qn⟩
  · refine wpAny_passesOwn hp (thn (T.item X rfl rfl rfl hc i pins s3 σ3 H3 X.xe I3 (stat fr3) st3 go) fun r s4 ⟨u, hr, h4⟩ => ?_)
    subst hr
    refine wpAny_passesOwn hp (thn h4 fun _ s5 ⟨x, H5, I5, r5, y5, st5, fr5⟩ => ?_)
    have I5' := I5.pinned (stat fr5) (T.obj _ _ st5)
    refine wpAny_passesOwn hp (thn (hg _ s5 σ3 H5 x u _ I5' r5 (step x H5 y5)) fun _ s6 ⟨σ6, H6, I6, q6⟩ => ?_)
    refine wpAny_passesOwn hp (thn (hb _ s6 σ6 H6 _ I6 q6) fun f s7 q7 => ?_)
    have again : ∀ {σ7 : St} {H7 : Hp}, Inv X (pins ++ pinsAt fp s5.heap) σ7 H7 s7 → N σ7 H7 → ∃ m, m < n ∧ ∃ i σ' H', Inv X pins σ' H' s7 ∧ tn i s7.heap ∧ (∀ b ∈ fp, H' b = none) ∧ W i m σ' H' := fun {σ7 H7} I7 n7 => by
      obtain ⟨m', hm, w7⟩ := hN σ7 H7 n7
      refine ⟨m', hm, i + 1, σ7, H7, I7.unpinned, T.keep _ _ _ st5 fun b hb o e => (I7.pin (b, o) (List.mem_append_right _ (List.mem_append_right _ (mem_pinsAt hb e)))).1, fun b hb => ?_, w7⟩
      obtain ⟨o, e, d⟩ := T.obj _ _ st5 b hb
      exact (I7.pin (b, o) (List.mem_append_right _ (List.mem_append_right _ (mem_pinsAt hb e)))).2.1
    cases f with
    | next => obtain ⟨σ7, H7, I7, n7⟩ := q7; exact again I7 n7
    | cont => obtain ⟨σ7, H7, I7, n7⟩ := q7; exact again I7 n7
    | brk => obtain ⟨σ7, H7, I7, q7⟩ := q7; exact ⟨σ7, H7, I7.unpinned, q7⟩
    | ret v => obtain ⟨x7, σ7, H7, I7, r7, q7⟩ := q7; exact ⟨x7, σ7, H7, I7.unpinned, r7, q7⟩
end

/-! ### the forms one uses -/
/-- over a list that the body leaves as it is -/
theorem for_list {K : PySem.W.Frag} {a : Addr} {xs : List V} {g : TG} {tb : TS} {D : Ends} {σ : St} {H : Hp} (Pv : Nat → St → Hp → Prop) (h0 : Pv 0 σ H) (hl : ∀ i σ H, i ≤ xs.length → Pv i σ H → SqL K H a xs)
    (hs : ∀ i x σ H, xs[i]? = some x → Pv i σ H → g x σ H fun σ2 H2 => tb { D with nx := Pv (i + 1), ct := Pv (i + 1), bk := D.nx } σ2 H2) (hd : ∀ σ H, Pv xs.length σ H → D.nx σ H) :
    ∃ W : Nat → Nat → St → Hp → Prop, (∃ m, W 0 m σ H) ∧ ∀ i m σ H, W i m σ H →
      ((Itl K a).stop i H ∧ D.nx σ H) ∨ ((Itl K a).go i H ∧ ∃ N : St → Hp → Prop, (∀ σ' H', N σ' H' → ∃ m', m' < m ∧ W (i + 1) m' σ' H') ∧ ∀ x H', (Itl K a).yld i H x H' → g x σ H' fun σ2 H2 => tb { D with nx := N, ct := N, bk := D.nx } σ2 H2) := by
  refine ⟨fun i m σ H => m = xs.length - i ∧ i ≤ xs.length ∧ Pv i σ H, ⟨xs.length, by simp, Nat.zero_le _, h0⟩, ?_⟩
  rintro i m σ H ⟨rfl, hi, p⟩
  have q := hl i σ H hi p
  by_cases hlt : i < xs.length
  · refine .inr ⟨⟨xs, xs[i], q, by simp [hlt]⟩, Pv (i + 1), fun σ' H' p' => ⟨xs.length - (i + 1), by omega, rfl, hlt, p'⟩, fun x H' y => ?_⟩
    obtain ⟨e, y⟩ := y
    subst e
    exact hs i x σ _ (y xs q) p
  · have e : i = xs.length := by omega
    subst e
    exact .inl ⟨⟨xs, q, Nat.le_refl _⟩, hd σ H p⟩
theorem for_range {lo : Int} {n : Nat} {g : TG} {tb : TS} {D : Ends} {σ : St} {H : Hp} (Pv : Nat → St → Hp → Prop) (h0 : Pv 0 σ H)
    (hs : ∀ i σ H, i < n → Pv i σ H → g (.int (lo + i)) σ H fun σ2 H2 => tb { D with nx := Pv (i + 1), ct := Pv (i + 1), bk := D.nx } σ2 H2) (hd : ∀ σ H, Pv n σ H → D.nx σ H) :
    ∃ W : Nat → Nat → St → Hp → Prop, (∃ m, W 0 m σ H) ∧ ∀ i m σ H, W i m σ H →
      ((Itr lo n).stop i H ∧ D.nx σ H) ∨ ((Itr lo n).go i H ∧ ∃ N : St → Hp → Prop, (∀ σ' H', N σ' H' → ∃ m', m' < m ∧ W (i + 1) m' σ' H') ∧ ∀ x H', (Itr lo n).yld i H x H' → g x σ H' fun σ2 H2 => tb { D with nx := N, ct := N, bk := D.nx } σ2 H2) := by
  refine ⟨fun i m σ H => m = n - i ∧ i ≤ n ∧ Pv i σ H, ⟨n, by simp, Nat.zero_le _, h0⟩, ?_⟩
  rintro i m σ H ⟨rfl, hi, p⟩
  by_cases hlt : i < n
  · refine .inr ⟨hlt, Pv (i + 1), fun σ' H' p' => ⟨n - (i + 1), by omega, rfl, hlt, p'⟩, fun x H' y => ?_⟩
    obtain ⟨e, y⟩ := y
    subst e y
    exact hs i σ _ hlt p
  · have e : i = n := by omega
    subst e
    exact .inl ⟨Nat.le_refl _, hd σ H p⟩
end L2

namespace L2
open PySem PySem.Spec PyProof.Rows

abbrev R2 := V → V → Hp → VK → Prop
/-- a two-place operation on values: f is binaryOp op, inplaceOp op or compareOp op -/
def OpR (X : Cx) (f : Value → Value → Sem Value) (r : R2) : Prop :=
  ∀ (pins : List (Addr × Obj)) (s : Shared) (σ : St) (H : Hp) (x y : V) (v u : Value) (Q : VK), Inv X pins σ H s → RelV x v → RelV y u → r x y H Q →
    wpAny (model X.prog X.w) X.A (f v u) (EP X pins σ Q) X.xe s
/-- a one-place operation -/
def UnR (X : Cx) (f : Value → Sem Value) (r : V → Hp → VK → Prop) : Prop :=
  ∀ (pins : List (Addr × Obj)) (s : Shared) (σ : St) (H : Hp) (x : V) (v : Value) (Q : VK), Inv X pins σ H s → RelV x v → r x H Q →
    wpAny (model X.prog X.w) X.A (f v) (EP X pins σ Q) X.xe s
/-- a call of a value that is known (a builtin, a type) with values -/
def CallR (X : Cx) (f : Value) (r : List V → Hp → VK → Prop) : Prop :=
  ∀ (pins : List (Addr × Obj)) (s : Shared) (σ : St) (H : Hp) (xs : List V) (us : List Value) (Q : VK), Inv X pins σ H s → Vals xs us → r xs H Q →
    wpAny (model X.prog X.w) X.A (call f us) (EP X pins σ Q) X.xe s
def tOp (r : R2) (ta tb : TE) : TE := fun σ H Q => ta σ H fun x H1 => tb σ H1 fun y H2 => r x y H2 Q
def tUn (r : V → Hp → VK → Prop) (ta : TE) : TE := fun σ H Q => ta σ H fun x H1 => r x H1 Q
/-- ints in, under C, and a value out -/
def rI (C : Int → Int → Prop) (g : Int → Int → V) : R2 := fun x y H Q => ∃ i j, x = .int i ∧ y = .int j ∧ C i j ∧ Q (g i j) H
def rI0 (g : Int → Int → V) : R2 := fun x y H Q => ∃ i j, x = .int i ∧ y = .int j ∧ Q (g i j) H
def rU (g : Int → V) : V → Hp → VK → Prop := fun x H Q => ∃ i, x = .int i ∧ Q (g i) H

section
variable {X : Cx} {a b c : Expr} {ta tb tc : TE} {pos : Pos}

theorem binT (ha : PE X a ta) (hb : PE X b tb) {pins : List (Addr × Obj)} {s : Shared} {σ : St} {H : Hp} {R : V → V → Hp → Prop} (I : Inv X pins σ H s)
    (h : ta σ H fun x H1 => tb σ H1 fun y H2 => R x y H2) {Q : Value → Shared → Prop} {f : Value → Value → Sem Value}
    (hf : ∀ v u s2 x y H2, Inv X pins σ H2 s2 → RelV x v → RelV y u → R x y H2 → wpAny (model X.prog X.w) X.A (f v u) Q X.xe s2) :
    wpAny (model X.prog X.w) X.A (eval a X.env) (fun v s₁ => wpAny (model X.prog X.w) X.A (eval b X.env) (fun u s₂ => wpAny (model X.prog X.w) X.A (f v u) Q X.xe s₂) X.xe s₁) X.xe s := by
  refine thn (ha pins s σ H _ I h) fun v s1 ⟨x, H1, I1, r1, q1⟩ => ?_
  refine thn (hb pins s1 σ H1 _ I1 q1) fun u s2 ⟨y, H2, I2, r2, q2⟩ => ?_
  exact hf v u s2 x y H2 I2 r1 r2 q2

theorem pe_op {op : Operator} {r : R2} (ho : OpR X (binaryOp op) r) (ha : PE X a ta) (hb : PE X b tb) : PE X (.BinOp a op b pos) (tOp r ta tb) := by
  intro pins s σ H Q I h
  exact wpAny_BinOp (binT ha hb I h fun v u s2 x y H2 I2 rx ry q => ho pins s2 σ H2 x y v u Q I2 rx ry q)
theorem pe_un {op : UnaryOp} {r : V → Hp → VK → Prop} (ho : UnR X (unaryOp op) r) (ha : PE X a ta) : PE X (.UnaryOp op a pos) (tUn r ta) := by
  intro pins s σ H Q I h
  exact UnaryOp_ (thn (ha pins s σ H _ I h) fun v s1 ⟨x, H1, I1, r1, q1⟩ => ho pins s1 σ H1 x v Q I1 r1 q1)
/-! ### ints -/
theorem opI {f : Value → Value → Sem Value} {C : Int → Int → Prop} {g : Int → Int → Int}
    (rule : ∀ (i j : Int) (t u : Tok) (s : Shared) (Q : Value → Shared → Prop) (E : Value → Shared → Prop), C i j → Q (.int (g i j) s.toks) { s with toks := s.toks + 1 } → wpAny (model X.prog X.w) X.A (f (.int i t) (.int j u)) Q E s) :
    OpR X f (rI C fun i j => .int (g i j)) := by
  intro pins s σ H x y v u Q I rx ry h
  obtain ⟨i, j, rfl, rfl, hc, q⟩ := h
  obtain ⟨t, rfl⟩ := rx
  obtain ⟨t', rfl⟩ := ry
  exact rule i j t t' s _ _ hc ⟨.int (g i j), H, I.tok _, ⟨_, rfl⟩, q⟩
theorem opI0 {f : Value → Value → Sem Value} {g : Int → Int → Int}
    (rule : ∀ (i j : Int) (t u : Tok) (s : Shared) (Q : Value → Shared → Prop) (E : Value → Shared → Prop), Q (.int (g i j) s.toks) { s with toks := s.toks + 1 } → wpAny (model X.prog X.w) X.A (f (.int i t) (.int j u)) Q E s) :
    OpR X f (rI0 fun i j => .int (g i j)) := by
  intro pins s σ H x y v u Q I rx ry h
  obtain ⟨i, j, rfl, rfl, q⟩ := h
  obtain ⟨t, rfl⟩ := rx
  obtain ⟨t', rfl⟩ := ry
  exact rule i j t t' s _ _ ⟨.int (g i j), H, I.tok _, ⟨_, rfl⟩, q⟩
theorem opB0 {f : Value → Value → Sem Value} {g : Int → Int → Bool}
    (rule : ∀ (i j : Int) (t u : Tok) (s : Shared) (Q : Value → Shared → Prop) (E : Value → Shared → Prop), Q (.bool (g i j)) s → wpAny (model X.prog X.w) X.A (f (.int i t) (.int j u)) Q E s) :
    OpR X f (rI0 fun i j => .bl (g i j)) := by
  intro pins s σ H x y v u Q I rx ry h
  obtain ⟨i, j, rfl, rfl, q⟩ := h
  obtain ⟨t, rfl⟩ := rx
  obtain ⟨t', rfl⟩ := ry
  exact rule i j t t' s _ _ ⟨.bl (g i j), H, I, rfl, q⟩

def CDiv (i j : Int) : Prop := 0 < j ∧ j < 1073741824
def CPow (i j : Int) : Prop := 0 ≤ j ∧ j ≤ 1000000 ∧ i.natAbs < 2 ^ 64
def CMul (i j : Int) : Prop := (-(2 ^ 64) < i ∧ i < 2 ^ 64) ∨ (-(2 ^ 64) < j ∧ j < 2 ^ 64)
theorem CMul.ok {i j : Int} (h : CMul i j) : IntMulOk i j := by
  rcases h with ⟨h1, h2⟩ | ⟨h1, h2⟩
  · exact .of_left (intBits_le_64 h1 h2)
  · exact .of_right (intBits_le_64 h1 h2)
theorem op_add : OpR X (binaryOp .Add) (rI0 fun i j => .int (i + j)) := opI0 fun _ _ _ _ _ _ _ q => add_int q
theorem op_sub : OpR X (binaryOp .Sub) (rI0 fun i j => .int (i - j)) := opI0 fun _ _ _ _ _ _ _ q => sub_int q
theorem op_mul : OpR X (binaryOp .Mult) (rI CMul fun i j => .int (i * j)) := opI fun _ _ _ _ _ _ _ hc q => mul_int q hc.ok
/-- // by a positive divisor -/
theorem op_fdiv : OpR X (binaryOp .FloorDiv) (rI CDiv fun i j => .int (i / j)) := opI fun i j _ _ _ _ _ hc q => by
  have h1 : (0 : Int) < j := hc.1
  have h2 : j < 1073741824 := hc.2
  exact floordiv_int (by omega) (by rw [Int.fdiv_eq_ediv_of_nonneg i (by omega)]; exact q) (.inl (PyProof.noPylong_small (by omega)))
/-- % by a positive divisor of any size -/
theorem op_mod : OpR X (binaryOp .Mod) (rI (fun _ j => 0 < j) fun i j => .int (i % j)) := opI fun i j _ _ _ _ _ hc q => by
  have h1 : (0 : Int) < j := hc
  exact mod_int' (by omega) (by rw [Int.fmod_eq_emod_of_nonneg i (by omega)]; exact q)
theorem op_pow : OpR X (binaryOp .Pow) (rI CPow fun i j => .int (i ^ j.toNat)) := opI fun _ _ _ _ _ _ _ hc q => pow_int_small hc.1 hc.2.1 hc.2.2 q
theorem unI {f : Value → Sem Value} {g : Int → Int}
    (rule : ∀ (i : Int) (t : Tok) (s : Shared) (Q : Value → Shared → Prop) (E : Value → Shared → Prop), Q (.int (g i) s.toks) { s with toks := s.toks + 1 } → wpAny (model X.prog X.w) X.A (f (.int i t)) Q E s) :
    UnR X f (rU fun i => .int (g i)) := by
  intro pins s σ H x v Q I rx h
  obtain ⟨i, rfl, q⟩ := h
  obtain ⟨t, rfl⟩ := rx
  exact rule i t s _ _ ⟨.int (g i), H, I.tok _, ⟨_, rfl⟩, q⟩
theorem un_neg : UnR X (unaryOp .USub) (rU fun i => .int (-i)) := unI fun _ _ _ _ _ q => neg_int q
end

/-! ### comparisons -/
/-- the scalars that == tells apart as data does -/
def scal : V → V → Bool
  | .non, .non => true | .non, .int _ => true | .int _, .non => true | .non, .bl _ => true | .bl _, .non => true | .non, .str _ => true | .str _, .non => true
  | .int _, .int _ => true | .bl _, .bl _ => true | .str _, .str _ => true | .byt _, .byt _ => true
  | .int _, .str _ => true | .str _, .int _ => true | .bl _, .str _ => true | .str _, .bl _ => true
  | _, _ => false
def rEq : R2 := fun x y H Q => scal x y = true ∧ Q (.bl (decide (x = y))) H
def rNe : R2 := fun x y H Q => scal x y = true ∧ Q (.bl (!decide (x = y))) H

theorem dec_int {i j : Int} : decide (V.int i = V.int j) = (i == j) := by
  rw [Bool.eq_iff_iff]
  simp
theorem dec_bl {i j : Bool} : decide (V.bl i = V.bl j) = (i == j) := by
  rw [Bool.eq_iff_iff]
  simp
theorem dec_str {i j : Str} : decide (V.str i = V.str j) = (i == j) := by
  rw [Bool.eq_iff_iff]
  simp
theorem dec_byt {i j : Array UInt8} : decide (V.byt i = V.byt j) = (i.toList == j.toList) := by
  rw [Bool.eq_iff_iff]
  cases i
  cases j
  simp

section
variable {X : Cx} {a b c : Expr} {ta tb tc : TE} {pos : Pos}
theorem fin_bl {pins : List (Addr × Obj)} {σ : St} {H : Hp} {s : Shared} {Q : VK} {k k' : Bool} (I : Inv X pins σ H s) (q : Q (.bl k) H) (e : k = k') : EP X pins σ Q (.bool k') s := by
  subst e
  exact ⟨.bl k, H, I, rfl, q⟩
theorem op_eq : OpR X (compareOp .Eq) rEq := by
  intro pins s σ H x y v u Q I rx ry h
  obtain ⟨hs, q⟩ := h
  cases x with
  | non =>
    cases rx
    cases y with
    | non => cases ry; exact PySem.EqNone.eq_none_none (fin_bl I q (by simp))
    | bl j => cases ry; exact PySem.EqNone.eq_none_bool (fin_bl I q (by simp))
    | int j => obtain ⟨t', rfl⟩ := ry; exact PySem.EqNone.eq_none_int (fin_bl I q (by simp))
    | str j => obtain ⟨t', rfl⟩ := ry; exact PySem.EqNone.eq_none_str (fin_bl I q (by simp))
    | _ => exact absurd (show false = true from hs) Bool.false_ne_true
  | bl i =>
    cases rx
    cases y with
    | non => cases ry; exact PySem.EqNone.eq_bool_none (fin_bl I q (by simp))
    | bl j => cases ry; exact eq_bool (fin_bl I q dec_bl)
    | str j => obtain ⟨t', rfl⟩ := ry; exact PySem.EqMixed.eq_bool_str (fin_bl I q (by simp))
    | _ => exact absurd (show false = true from hs) Bool.false_ne_true
  | int i =>
    obtain ⟨t, rfl⟩ := rx
    cases y with
    | non => cases ry; exact PySem.EqNone.eq_int_none (fin_bl I q (by simp))
    | int j => obtain ⟨t', rfl⟩ := ry; exact eq_int (fin_bl I q dec_int)
    | str j => obtain ⟨t', rfl⟩ := ry; exact PySem.EqMixed.eq_int_str (fin_bl I q (by simp))
    | _ => exact absurd (show false = true from hs) Bool.false_ne_true
  | str i =>
    obtain ⟨t, rfl⟩ := rx
    cases y with
    | non => cases ry; exact PySem.EqNone.eq_str_none (fin_bl I q (by simp))
    | bl j => cases ry; exact PySem.EqMixed.eq_str_bool (fin_bl I q (by simp))
    | int j => obtain ⟨t', rfl⟩ := ry; exact PySem.EqMixed.eq_str_int (fin_bl I q (by simp))
    | str j => obtain ⟨t', rfl⟩ := ry; exact eq_str (fin_bl I q dec_str)
    | _ => exact absurd (show false = true from hs) Bool.false_ne_true
  | byt i =>
    obtain ⟨t, rfl⟩ := rx
    cases y with
    | byt j => obtain ⟨t', rfl⟩ := ry; exact PySem.W.eq_bytes (fin_bl I q dec_byt)
    | _ => exact absurd (show false = true from hs) Bool.false_ne_true
  | _ => cases y <;> exact absurd (show false = true from hs) Bool.false_ne_true
theorem op_ne : OpR X (compareOp .NotEq) rNe := by
  intro pins s σ H x y v u Q I rx ry h
  obtain ⟨hs, q⟩ := h
  cases x with
  | non =>
    cases rx
    cases y with
    | non => cases ry; exact PySem.EqNone.ne_none_none (fin_bl I q (by simp))
    | bl j => cases ry; exact PySem.EqNone.ne_none_bool (fin_bl I q (by simp))
    | int j => obtain ⟨t', rfl⟩ := ry; exact PySem.EqNone.ne_none_int (fin_bl I q (by simp))
    | str j => obtain ⟨t', rfl⟩ := ry; exact PySem.EqNone.ne_none_str (fin_bl I q (by simp))
    | _ => exact absurd (show false = true from hs) Bool.false_ne_true
  | bl i =>
    cases rx
    cases y with
    | non => cases ry; exact PySem.EqNone.ne_bool_none (fin_bl I q (by simp))
    | bl j => cases ry; exact ne_bool (fin_bl I q (congrArg not dec_bl))
    | str j => obtain ⟨t', rfl⟩ := ry; exact PySem.EqMixed.ne_bool_str (fin_bl I q (by simp))
    | _ => exact absurd (show false = true from hs) Bool.false_ne_true
  | int i =>
    obtain ⟨t, rfl⟩ := rx
    cases y with
    | non => cases ry; exact PySem.EqNone.ne_int_none (fin_bl I q (by simp))
    | int j => obtain ⟨t', rfl⟩ := ry; exact ne_int (fin_bl I q (congrArg not dec_int))
    | str j => obtain ⟨t', rfl⟩ := ry; exact PySem.EqMixed.ne_int_str (fin_bl I q (by simp))
    | _ => exact absurd (show false = true from hs) Bool.false_ne_true
  | str i =>
    obtain ⟨t, rfl⟩ := rx
    cases y with
    | non => cases ry; exact PySem.EqNone.ne_str_none (fin_bl I q (by simp))
    | bl j => cases ry; exact PySem.EqMixed.ne_str_bool (fin_bl I q (by simp))
    | int j => obtain ⟨t', rfl⟩ := ry; exact PySem.EqMixed.ne_str_int (fin_bl I q (by simp))
    | str j => obtain ⟨t', rfl⟩ := ry; exact ne_str (fin_bl I q (congrArg not dec_str))
    | _ => exact absurd (show false = true from hs) Bool.false_ne_true
  | byt i =>
    obtain ⟨t, rfl⟩ := rx
    cases y with
    | byt j => obtain ⟨t', rfl⟩ := ry; exact PySem.W.ne_bytes (fin_bl I q (congrArg not dec_byt))
    | _ => exact absurd (show false = true from hs) Bool.false_ne_true
  | _ => cases y <;> exact absurd (show false = true from hs) Bool.false_ne_true

theorem op_lt : OpR X (compareOp .Lt) (rI0 fun i j => .bl (decide (i < j))) := opB0 fun _ _ _ _ _ _ _ q => lt_int q
theorem op_le : OpR X (compareOp .LtE) (rI0 fun i j => .bl (decide (i ≤ j))) := opB0 fun _ _ _ _ _ _ _ q => le_int q
theorem op_gt : OpR X (compareOp .Gt) (rI0 fun i j => .bl (decide (j < i))) := opB0 fun _ _ _ _ _ _ _ q => gt_int q
theorem op_ge : OpR X (compareOp .GtE) (rI0 fun i j => .bl (decide (j ≤ i))) := opB0 fun _ _ _ _ _ _ _ q => ge_int q
/-- the one string within the other -/
theorem op_in_str : OpR X (compareOp .In) (fun x y H Q => ∃ i j, x = .str i ∧ y = .str j ∧ Q (.bl (!(Builtin.Str.occurrences j i 0 j.length 1).isEmpty)) H) := by
  intro pins s σ H x y v u Q I rx ry h
  obtain ⟨i, j, rfl, rfl, q⟩ := h
  obtain ⟨t, rfl⟩ := rx
  obtain ⟨t', rfl⟩ := ry
  exact in_str (fin_bl I q rfl)

theorem nomark (b : Expr) {op : CmpOp} (h : op ≠ .In := by decide) (h2 : op ≠ .NotIn := by decide) : behindInMarks op b = false := by
  have e1 : (op == CmpOp.In) = false := by cases op <;> first | rfl | exact absurd rfl h
  have e2 : (op == CmpOp.NotIn) = false := by cases op <;> first | rfl | exact absurd rfl h2
  cases b <;> simp [behindInMarks, e1, e2]
/-- a comparison as a value; hm: nomark b, or (for in, not in) by with_unfolding_all rfl -/
theorem pe_cmpR {op : CmpOp} {r : R2} (ho : OpR X (compareOp op) r) (ha : PE X a ta) (hb : PE X b tb) (hm : behindInMarks op b = false) : PE X (.Compare a [op] [b] pos) (tOp r ta tb) := by
  intro pins s σ H Q I h
  exact wpAny_Compare1 (binT ha hb I h fun v u s2 x y H2 I2 rx ry q => ho pins s2 σ H2 x y v u Q I2 rx ry q) hm
/-- a reading of a value as a test -/
def tTest (t : TE) : TT := fun σ H Q => t σ H fun x H' => ∃ k, x = .bl k ∧ Q k H'
theorem pt_cmpR {op : CmpOp} {r : R2} (ho : OpR X (compareOp op) r) (ha : PE X a ta) (hb : PE X b tb) (hm : behindInMarks op b = false) : PT X (.Compare a [op] [b] pos) (tTest (tOp r ta tb)) := by
  intro pins s σ H Q I h
  refine wpAny_isTrue_Compare1 (thn (ha pins s σ H _ I h) fun v s1 ⟨x, H1, I1, r1, q1⟩ => thn (hb pins s1 σ H1 _ I1 q1) fun u s2 ⟨y, H2, I2, r2, q2⟩ =>
    thn (ho pins s2 σ H2 x y v u _ I2 r1 r2 q2) fun c s3 ⟨z, H3, I3, r3, k, e, q3⟩ => ?_) hm
  subst e
  cases r3
  exact wpAny_truthy_bool ⟨H3, I3, q3⟩
/-- a op1 b op2 c -/
def tChain (r r' : R2) (ta tb tc : TE) : TE := fun σ H Q => ta σ H fun x H1 => tb σ H1 fun y H2 => r x y H2 fun z H3 => ∃ k, z = .bl k ∧
  (if k = true then tc σ H3 fun w' H4 => r' y w' H4 Q else Q (.bl false) H3)
theorem pe_chain {op op' : CmpOp} {r r' : R2} (ho : OpR X (compareOp op) r) (ho' : OpR X (compareOp op') r') (ha : PE X a ta) (hb : PE X b tb) (hc : PE X c tc)
    (hm : lastMarks [op, op'] [b, c] = false := by with_unfolding_all rfl) : PE X (.Compare a [op, op'] [b, c] pos) (tChain r r' ta tb tc) := by
  intro pins s σ H Q I h
  refine Compare_chain (thn (ha pins s σ H _ I h) fun v s1 ⟨x, H1, I1, r1, q1⟩ => chain_link (thn (hb pins s1 σ H1 _ I1 q1) fun u s2 ⟨y, H2, I2, r2, q2⟩ =>
    thn (ho pins s2 σ H2 x y v u _ I2 r1 r2 q2) fun d s3 ⟨z, H3, I3, r3, k, e, q3⟩ => ?_)) hm
  subst e
  cases r3
  refine wpAny_truthy_bool ?_
  cases k with
  | false => exact ite_ff ⟨.bl false, H3, I3, rfl, q3⟩
  | true => exact ite_tt (chain_last (thn (hc pins s3 σ H3 _ I3 q3) fun w' s4 ⟨z', H4, I4, r4, q4⟩ => ho' pins s4 σ H4 y z' u w' Q I4 r2 r4 q4))
theorem pt_chain {op op' : CmpOp} {r r' : R2} (ho : OpR X (compareOp op) r) (ho' : OpR X (compareOp op') r') (ha : PE X a ta) (hb : PE X b tb) (hc : PE X c tc)
    (hm : lastMarks [op, op'] [b, c] = false := by with_unfolding_all rfl) : PT X (.Compare a [op, op'] [b, c] pos) (tTest (tChain r r' ta tb tc)) := by
  intro pins s σ H Q I h
  refine isTrue_chain (thn (ha pins s σ H _ I h) fun v s1 ⟨x, H1, I1, r1, q1⟩ => test_link (thn (hb pins s1 σ H1 _ I1 q1) fun u s2 ⟨y, H2, I2, r2, q2⟩ =>
    thn (ho pins s2 σ H2 x y v u _ I2 r1 r2 q2) fun d s3 ⟨z, H3, I3, r3, k, e, q3⟩ => ?_)) hm
  subst e
  cases r3
  refine wpAny_truthy_bool ?_
  cases k with
  | false =>
    obtain ⟨k', e', q'⟩ := q3
    cases e'
    exact ite_ff ⟨H3, I3, q'⟩
  | true =>
    refine ite_tt (test_last (thn (hc pins s3 σ H3 _ I3 q3) fun w' s4 ⟨z', H4, I4, r4, q4⟩ => thn (ho' pins s4 σ H4 y z' u w' _ I4 r2 r4 q4) fun d' s5 ⟨z2, H5, I5, r5, k2, e2, q5⟩ => ?_))
    subst e2
    cases r5
    exact wpAny_truthy_bool ⟨H5, I5, q5⟩

theorem line63 : (sizeLine : Nat) < 2 ^ 63 := by rw [sizeLine_eq]; decide
theorem op_add_str : OpR X (binaryOp .Add) (fun x y H Q => ∃ i j, x = .str i ∧ y = .str j ∧ i.length + j.length ≤ sizeLine ∧ Q (.str (i ++ j)) H) := by
  intro pins s σ H x y v u Q I rx ry h
  obtain ⟨i, j, rfl, rfl, hz, q⟩ := h
  obtain ⟨t, rfl⟩ := rx
  obtain ⟨t', rfl⟩ := ry
  exact add_str (fun t' tk => ⟨.str (i ++ j), H, I.tok _, ⟨_, rfl⟩, q⟩) hz
def PlainIxT (b : Expr) : Prop := ∀ o i, subscripted b false o i = operate [o, i] (getItem o i)
/-- s[i], 0 ≤ i < len -/
theorem pe_item_str (ha : PE X a ta) (hb : PE X b tb) (hs : PlainIxT b) :
    PE X (.Subscript a b pos) (tOp (fun x y H Q => ∃ z i c, x = .str z ∧ y = .int i ∧ 0 ≤ i ∧ i < 2 ^ 63 ∧ i < z.length ∧ z.cps[i.toNat]? = some c ∧ Q (.str ⟨#[c]⟩) H) ta tb) := by
  intro pins s σ H Q I h
  refine Subscript_ (binT ha hb I h fun v u s2 x y H2 I2 rx ry q => ?_)
  obtain ⟨z, i, c, rfl, rfl, h0, h63, h1, hc, q⟩ := q
  obtain ⟨t, rfl⟩ := rx
  obtain ⟨t', rfl⟩ := ry
  have e : seqIndex? i z.length = some i.toNat := PySem.StrLaws.seqIndex_nonneg h0 h1
  exact tail_any (typeIs_str s2 z t) slot_str_getitem.lookup (getItem_str (c := c) (by
    have e1 : decide (i < -(2 ^ 63 : Int)) = false := decide_eq_false (by omega)
    have e2 : decide (i ≥ 2 ^ 63) = false := decide_eq_false (by omega)
    rw [e1, e2] <;> rfl) (by rw [e]; exact hc) ⟨.str ⟨#[c]⟩, H2, I2.tok _, ⟨_, rfl⟩, q⟩) (hs _ _)
/-! ### scalar builtins, by CallR -/
theorem vals1 {x : V} {us : List Value} (r : Vals [x] us) : ∃ u, us = [u] ∧ RelV x u := by
  cases r with
  | cons r1 r2 => cases r2; exact ⟨_, rfl, r1⟩
theorem vals2 {x y : V} {us : List Value} (r : Vals [x, y] us) : ∃ u w', us = [u, w'] ∧ RelV x u ∧ RelV y w' := by
  cases r with
  | cons r1 r2 =>
    cases r2 with
    | cons r3 r4 => cases r4; exact ⟨_, _, rfl, r1, r3⟩
theorem call_abs : CallR X (.builtin "abs") (fun xs H Q => ∃ i, xs = [.int i] ∧ Q (.int (if i < 0 then -i else i)) H) := by
  intro pins s σ H xs us Q I r h
  obtain ⟨i, rfl, q⟩ := h
  obtain ⟨u, rfl, t, rfl⟩ := vals1 r
  exact call_abs_int fun u tk => ⟨.int (if i < 0 then -i else i), H, I.tok _, ⟨_, rfl⟩, q⟩
theorem call_max2 (hc : X.calm = true) : CallR X (.builtin "max") (fun xs H Q => ∃ i j, xs = [.int i, .int j] ∧ Q (.int (if j > i then j else i)) H) := by
  intro pins s σ H xs us Q I r h
  obtain ⟨i, j, rfl, q⟩ := h
  obtain ⟨u, w', rfl, ⟨t, rfl⟩, ⟨t', rfl⟩⟩ := vals2 r
  refine max_two_ints (I.ok.hd hc) fun h' tk k => ⟨_, H, I.kept k, ?_, q⟩
  by_cases hj : j > i
  · rw [if_pos hj, if_pos hj]; exact ⟨_, rfl⟩
  · rw [if_neg hj, if_neg hj]; exact ⟨_, rfl⟩
theorem call_min2 (hc : X.calm = true) : CallR X (.builtin "min") (fun xs H Q => ∃ i j, xs = [.int i, .int j] ∧ Q (.int (if j < i then j else i)) H) := by
  intro pins s σ H xs us Q I r h
  obtain ⟨i, j, rfl, q⟩ := h
  obtain ⟨u, w', rfl, ⟨t, rfl⟩, ⟨t', rfl⟩⟩ := vals2 r
  refine min_two_ints (I.ok.hd hc) fun h' tk k => ⟨_, H, I.kept k, ?_, q⟩
  by_cases hj : j < i
  · rw [if_pos hj, if_pos hj]; exact ⟨_, rfl⟩
  · rw [if_neg hj, if_neg hj]; exact ⟨_, rfl⟩
theorem call_int1 : CallR X (.type "int") (fun xs H Q => (∃ i, xs = [.int i] ∧ Q (.int i) H) ∨ ∃ k, xs = [.bl k] ∧ Q (.int (if k then 1 else 0)) H) := by
  intro pins s σ H xs us Q I r h
  rcases h with ⟨i, rfl, q⟩ | ⟨k, rfl, q⟩
  · obtain ⟨u, rfl, t, rfl⟩ := vals1 r
    exact call_int_int ⟨.int i, H, I, ⟨_, rfl⟩, q⟩
  · obtain ⟨u, rfl, r1⟩ := vals1 r
    cases r1
    exact call_int_bool ⟨.int (if k then 1 else 0), H, I.tok _, ⟨_, rfl⟩, q⟩
theorem call_str_int : CallR X (.type "str") (fun xs H Q => ∃ i, xs = [.int i] ∧ i.natAbs.log2 < 1920 ∧ Q (.str (toString i)) H) := by
  intro pins s σ H xs us Q I r h
  obtain ⟨i, rfl, hz, q⟩ := h
  obtain ⟨u, rfl, t, rfl⟩ := vals1 r
  exact PySem.P.str_of_int hz ⟨.str _, H, I.tok _, ⟨_, rfl⟩, q⟩
/-- len of a str, a bytes, a list, a tuple -/
def LenV (K : PySem.W.Frag) (x : V) (H : Hp) (n : Nat) : Prop :=
  match x with
  | .str y => y.length ≤ sizeLine ∧ n = y.length
  | .byt y => y.size ≤ sizeLine ∧ n = y.size
  | .ref p => (∃ xs, SqL K H p xs ∧ n = xs.length) ∨ ∃ xs, SqT K H p xs ∧ n = xs.length
  | _ => False
theorem call_len : CallR X (.builtin "len") (fun xs H Q => ∃ x n, xs = [x] ∧ LenV X.K x H n ∧ Q (.int n) H) := by
  intro pins s σ H xs us Q I r h
  obtain ⟨x, n, rfl, e, q⟩ := h
  obtain ⟨u, rfl, rx⟩ := vals1 r
  have hl := line63
  have hs : sizeLine = 16777216 := sizeLine_eq
  cases x with
  | str y =>
    obtain ⟨t, rfl⟩ := rx
    obtain ⟨hy, e'⟩ : y.length ≤ sizeLine ∧ n = y.length := e
    subst e'
    exact len_str (by omega) ⟨.int _, H, I.tok _, ⟨_, rfl⟩, q⟩
  | byt y =>
    obtain ⟨t, rfl⟩ := rx
    obtain ⟨hy, e'⟩ : y.size ≤ sizeLine ∧ n = y.size := e
    subst e'
    exact PySem.W.len_bytes (by omega) ⟨.int _, H, I.tok _, ⟨_, rfl⟩, q⟩
  | ref p =>
    cases rx
    have e' : (∃ xs, SqL X.K H p xs ∧ n = xs.length) ∨ ∃ xs, SqT X.K H p xs ∧ n = xs.length := e
    rcases e' with ⟨xs, hx, e'⟩ | ⟨xs, hx, e'⟩
    · subst e'
      obtain ⟨its, r', pl, hz⟩ := I.list hx
      have hlen := r'.length
      exact Calls.call_len_list pl.isList (by simp only [List.size_toArray]; omega) ⟨.int xs.length, H, I.tok _, ⟨_, by simp only [List.size_toArray]; rw [hlen]⟩, q⟩
    · subst e'
      obtain ⟨its, r', pl, hz⟩ := I.tuple hx
      have hlen := r'.length
      exact len_tuple pl (by simp only [List.size_toArray]; omega) ⟨.int xs.length, H, I.tok _, ⟨_, by simp only [List.size_toArray]; rw [hlen]⟩, q⟩
  | _ => exact (show False from e).elim
end
end L2

namespace L2
open PySem PySem.Spec PyProof.Rows

/-! ### an instance, its attributes a map -/
structure ObjM (h : Heap) (x dx C : Addr) (mA : Str → Option Value) : Prop where
  obj : h.get? x = some (PySem.W.instObj C dx)
  ns : h.Ns1 dx mA
  ne : dx ≠ x

theorem lookIn_ns {h : Heap} {dx : Addr} {mA : Str → Option Value} (n : h.Ns1 dx mA) : ∃ od, h.get? dx = some od ∧ ∀ name, PySem.W.lookIn name od = some (mA name) := by
  obtain ⟨o, es, ep, ho, hd, hk, _, hm⟩ := n
  refine ⟨o, ho, fun name => ?_⟩
  have e := hm name
  unfold nsFind findBy at e
  rw [← Array.find?_toList] at e
  unfold PySem.W.lookIn
  rw [hd]
  dsimp only
  split
  · rename_i y q
    rw [q] at e
    exact congrArg some e
  · rename_i q
    rw [q] at e
    have a : es.toList.any (·.refKey) = false := by
      rw [List.any_eq_false]
      intro y hy
      obtain ⟨z, t, hkey⟩ := hk y (Array.mem_toList_iff.mp hy)
      simp [DictEntry.refKey, hkey]
    have a' : ¬ es.toList.any (·.refKey) = true := by rw [a]; exact Bool.false_ne_true
    rw [if_neg a']
    exact congrArg some e

theorem ObjM.look {h : Heap} {x dx C : Addr} {mA : Str → Option Value} (I : ObjM h x dx C mA) : ∃ od, PySem.W.InstAt h x (PySem.W.instObj C dx) C (some od) ∧ ∀ name, PySem.W.lookIn name od = some (mA name) :=
  let ⟨od, ho, hl⟩ := lookIn_ns I.ns
  ⟨od, ⟨I.obj, rfl, rfl, ho⟩, hl⟩

section
variable {prog : Program} {w : World} {A : Around} {E : Value → Shared → Prop} {s : Shared} {K : PySem.W.Frag} {x dx C f : Addr} {mA : Str → Option Value} {name : Str} {v : Value}

theorem get_map {expr : Bool} {Q : Value → Shared → Prop} (X : K.In s.heap) (I : ObjM s.heap x dx C mA) (hg : PySem.W.plainGet K C name = true) (hh : PySem.W.hasDictIn K C = true)
    (ha : PySem.W.findIn K (.ref C) name = some none) (hv : mA name = some v) (hv' : PySem.W.handedIn v = true) (h : Q v { s with toks := s.toks + 1 }) :
    wpAny (model prog w) A (getAttr (.ref x) name expr) Q E s := by
  obtain ⟨od, J, hl⟩ := I.look
  exact PySem.W.get_value X J (PySem.W.plainGet_of hg).1 (PySem.W.findObj_own hh ha rfl (by rw [hl, hv])) hv' h

theorem get_meth {pl : Sem Bool} {Q : Value × List Value → Shared → Prop} (X : K.In s.heap) (I : ObjM s.heap x dx C mA) (hg : PySem.W.plainGet K C name = true)
    (hf : PySem.W.findIn K (.ref C) name = some (some (.ref f))) (ht : PySem.W.isFn K (.ref f) = true) (hv : mA name = none) (h : Q (.ref f, [.ref x]) s) :
    wpAny (model prog w) A (getMethod (.ref x) name pl) Q E s := by
  obtain ⟨od, J, hl⟩ := I.look
  exact PySem.W.method_fn X J (PySem.W.plainGet_of hg).1 (PySem.W.plainGet_of hg).2 hf (beq_iff_eq.mp ht) (by show (PySem.W.lookIn name od).map (·.isSome) = some false; rw [hl, hv]; rfl) h

theorem set_map {ns : List Str} {Q : Unit → Shared → Prop} (X : K.In s.heap) (I : ObjM s.heap x dx C mA)
    (hs : PySem.W.findIn K (.ref C) "__setattr__" = some (some (.builtin "object.__setattr__"))) (hp : PySem.W.plainOver K C = true) (ht : PySem.W.takerIn K C name = some none) (hh : PySem.W.hasDictIn K C = true)
    (hw : PySem.Within mA ns) (hsz : ns.length ≤ sizeLine)
    (h : ∀ h', ObjM h' x dx C (fun y => if y = name then some v else mA y) → Heap.SameBut dx s.heap h' → Q () { s with heap := h', toks := s.toks + 2 }) :
    wpAny (model prog w) A (setAttr (.ref x) name v) Q E s := by
  obtain ⟨od, J, hl⟩ := I.look
  refine PySem.W.set_plain X J hs (PySem.W.osa_open (s := { s with toks := s.toks + 1 }) (r := none) X J hp ht fun b => ?_)
  obtain ⟨cd, hc, hd'⟩ := PySem.W.any_some hh
  have hx : s.heap.get? x = some ⟨.ref C, some dx, .plain, #[]⟩ := I.obj
  refine wpAny_bind (wpAny_pure (wpAny_bind (wpAny_bind (wpAny_loadPart hx (wpAny_bind (PySem.W.Looks.here (s := { s with toks := s.toks + 1 }) (PySem.W.looks_clsIn X hc) ?_))))))
  rw [hd']
  refine wpAny_pure (a := some dx) (wpAny_bind (wpAny_pure (wpAny_bind ?_)))
  refine wpAny_nsSet1 (s := { s with toks := s.toks + 1 }) I.ns fun h' hn2 hs2 => ?_
  obtain ⟨oD, esD, epD, hoD, hdD, hcD⟩ := hn2.count (PySem.Within.cons name v hw)
  refine wpAny_bind (wpAny_lookBehind hoD (by rw [hdD]; exact pastItsLine_dict (Nat.le_trans hcD (by rw [List.length_cons]; omega))) ?_)
  exact wpAny_pure (h _ ⟨(hs2.2 _ (Ne.symm I.ne)).trans I.obj, hn2, I.ne⟩ hs2)

/-- C(..): the dict at the heap's end, the instance behind it; then its __init__ -/
theorem make_map {R : Result → Shared → Prop} {vs : List Value} {kw : List (Str × Value)} (X : K.In s.heap) (hm : PySem.W.makesIn K C = true)
    (hi : PySem.W.findIn K (.ref C) "__init__" = some (some (.ref f))) (hf : PySem.W.typeIn K (.ref f) = some (.type "function"))
    (h : codeAny (model prog w) (A.under (.builtin "type.__call__" ⟨.ref C :: vs, kw⟩)) (.call (.ref f) ⟨.ref (s.heap.objs.size + 1) :: vs, kw⟩) (PySem.W.InitBack (s.heap.objs.size + 1) R)
      { s with heap := (s.heap.push PySem.W.emptyDict).push (PySem.W.instObj C s.heap.objs.size) }) :
    codeAny (model prog w) A (.call (.ref C) ⟨vs, kw⟩) R s := by
  obtain ⟨hh, g, d, t, os⟩ := s
  exact PySem.W.make_core (PySem.W.makes_of X hm) (PySem.W.looks_findIn X hi) (fun self => PySem.W.bind_fn X self hf) (.inl rfl) h
end

/-! ### the attributes as a list of pairs -/
def putF (f : Str) (v : V) : List (Str × V) → List (Str × V)
  | [] => [(f, v)]
  | (g, x) :: r => if g = f then (g, v) :: r else (g, x) :: putF f v r
theorem lookup_putF (f g : Str) (v : V) : ∀ fs : List (Str × V), (putF f v fs).lookup g = if g = f then some v else fs.lookup g
  | [] => by
    show List.lookup g [(f, v)] = _
    by_cases h : g = f
    · have hb : (g == f) = true := beq_iff_eq.mpr h
      simp only [List.lookup, hb, if_pos h]
    · have hb : (g == f) = false := beq_eq_false_iff_ne.mpr h
      simp only [List.lookup, hb, if_neg h]
  | (k, x) :: r => by
    have ih := lookup_putF f g v r
    rw [show putF f v ((k, x) :: r) = (if k = f then (k, v) :: r else (k, x) :: putF f v r) from rfl]
    by_cases hk : k = f
    · rw [if_pos hk]
      by_cases h : g = k
      · have hb : (g == k) = true := beq_iff_eq.mpr h
        simp only [List.lookup, hb, if_pos (h.trans hk)]
      · have hb : (g == k) = false := beq_eq_false_iff_ne.mpr h
        simp only [List.lookup, hb, if_neg (fun e : g = f => h (e.trans hk.symm))]
    · rw [if_neg hk]
      by_cases h : g = k
      · have hb : (g == k) = true := beq_iff_eq.mpr h
        simp only [List.lookup, hb, if_neg (fun e : g = f => hk (h.symm.trans e))]
      · have hb : (g == k) = false := beq_eq_false_iff_ne.mpr h
        simp only [List.lookup, hb]
        exact ih
theorem keys_putF (f : Str) (v : V) : ∀ fs : List (Str × V), f ∈ (putF f v fs).map (·.1) ∧ ∀ g, g ∈ fs.map (·.1) → g ∈ (putF f v fs).map (·.1)
  | [] => ⟨by simp [putF], fun g h => by simp at h⟩
  | (k, x) :: r => by
    obtain ⟨i1, i2⟩ := keys_putF f v r
    rw [show putF f v ((k, x) :: r) = (if k = f then (k, v) :: r else (k, x) :: putF f v r) from rfl]
    by_cases hk : k = f
    · rw [if_pos hk]
      subst hk
      exact ⟨by simp, fun g h => by simpa using h⟩
    · rw [if_neg hk]
      refine ⟨?_, fun g h => ?_⟩
      · rw [List.map_cons]
        exact List.mem_cons_of_mem _ i1
      · rw [List.map_cons] at h ⊢
        rcases List.mem_cons.mp h with e | e
        · exact List.mem_cons.mpr (.inl e)
        · exact List.mem_cons_of_mem _ (i2 g e)
theorem length_putF (f : Str) (v : V) : ∀ fs : List (Str × V), (putF f v fs).length ≤ fs.length + 1
  | [] => by simp [putF]
  | (k, x) :: r => by
    have ih := length_putF f v r
    rw [show putF f v ((k, x) :: r) = (if k = f then (k, v) :: r else (k, x) :: putF f v r) from rfl]
    by_cases hk : k = f
    · rw [if_pos hk, List.length_cons, List.length_cons]; omega
    · rw [if_neg hk, List.length_cons, List.length_cons]; omega

theorem RelO.some_of {v : V} {o : Option Value} (r : RelO (some v) o) : ∃ u, o = some u ∧ RelV v u := by
  cases o with
  | none => exact (show False from r).elim
  | some u => exact ⟨u, rfl, r⟩
theorem RelO.none_of {o : Option Value} (r : RelO none o) : o = none := by
  cases o with
  | none => rfl
  | some u => exact (show False from r).elim
theorem handed_of {v : V} {u : Value} (r : RelV v u) : PySem.W.handedIn u = true := by
  cases v with
  | non => cases (show u = Value.none from r); rfl
  | bl b => cases (show u = Value.bool b from r); rfl
  | int i => obtain ⟨t, e⟩ := (show ∃ t, u = Value.int i t from r); cases e; rfl
  | str x => obtain ⟨t, e⟩ := (show ∃ t, u = Value.str x t from r); cases e; rfl
  | byt b => obtain ⟨t, e⟩ := (show ∃ t, u = Value.bytes b t from r); cases e; rfl
  | flt b => obtain ⟨t, e⟩ := (show ∃ t, u = Value.float b t from r); cases e; rfl
  | ref a => cases (show u = Value.ref a from r); rfl
  | ty n => cases (show u = Value.type n from r); rfl

section
variable {P : Program} {w : World} {H H' : Hp} {h h' : Heap} {a C dx : Addr} {fs fs' : List (Str × V)}
theorem ins_get (hok : HOk P w H h) (e : H a = some (.ins C dx fs)) : ∃ mA, ObjM h a dx C mA ∧ (∀ f, RelO (fs.lookup f) (mA f)) ∧ PySem.Within mA (fs.map (·.1)) ∧ fs.length ≤ 1000 ∧ H dx = some (.own a) := by
  obtain ⟨d, z, ne, ob, mA, n, r, q⟩ := (show ObjOk P w H h a (.ins C dx fs) from hok a _ e)
  exact ⟨mA, ⟨ob, n, ne⟩, r, q, z, d⟩
end

/-! ### what of the text a class must have -/
structure Cls (K : PySem.W.Frag) (C : Addr) : Prop where
  pg : PySem.W.plainGet K C Str.empty = true
  hd : PySem.W.hasDictIn K C = true
  po : PySem.W.plainOver K C = true
  sa : PySem.W.findIn K (.ref C) "__setattr__" = some (some (.builtin "object.__setattr__"))
theorem Cls.get {K : PySem.W.Frag} {C : Addr} (c : Cls K C) (f : Str) : PySem.W.plainGet K C f = true := c.pg
/-- no class of it has the name -/
def NoAttr (K : PySem.W.Frag) (C : Addr) (f : Str) : Prop := PySem.W.findIn K (.ref C) f = some none
theorem NoAttr.taker {K : PySem.W.Frag} {C : Addr} {f : Str} (n : NoAttr K C f) : PySem.W.takerIn K C f = some none := by
  unfold PySem.W.takerIn
  rw [show PySem.W.findIn K (.ref C) f = some none from n]
  rfl
/-- a method: a plain def of the class or of one above it -/
structure Meth (K : PySem.W.Frag) (C : Addr) (m : Str) (f : Addr) : Prop where
  at_ : PySem.W.findIn K (.ref C) m = some (some (.ref f))
  fn : PySem.W.isFn K (.ref f) = true
  kp : PySem.W.keepIn K (.ref f) = true

section
variable {X : Cx} {pins : List (Addr × Obj)} {σ : St} {H : Hp} {s : Shared} {a C dx : Addr} {fs : List (Str × V)} {f : Str} {v : V} {A : Around} {E : Value → Shared → Prop}

theorem getattr_ok {b : Bool} {Q : Value → Shared → Prop} (I : Inv X pins σ H s) (e : H a = some (.ins C dx fs)) (c : Cls X.K C) (n : NoAttr X.K C f) (l : fs.lookup f = some v)
    (h : ∀ u s', Inv X pins σ H s' → RelV v u → Q u s') : wpAny (model X.prog X.w) A (getAttr (.ref a) f b) Q E s := by
  obtain ⟨mA, O, r, _, _, _⟩ := ins_get I.hok e
  obtain ⟨u, hu, ru⟩ := RelO.some_of (v := v) (o := mA f) (by rw [← l]; exact r f)
  exact get_map I.kIn O (c.get f) c.hd n hu (handed_of ru) (h u _ (I.tok _) ru)

theorem getmeth_ok {m : Str} {g : Addr} {pl : Sem Bool} {Q : Value × List Value → Shared → Prop} (I : Inv X pins σ H s) (e : H a = some (.ins C dx fs)) (c : Cls X.K C) (k : Meth X.K C m g) (l : fs.lookup m = none)
    (h : Q (.ref g, [.ref a]) s) : wpAny (model X.prog X.w) A (getMethod (.ref a) m pl) Q E s := by
  obtain ⟨mA, O, r, _, _, _⟩ := ins_get I.hok e
  have hn : mA m = none := RelO.none_of (by rw [← l]; exact r m)
  exact get_meth I.kIn O (c.get m) k.at_ k.fn hn h

theorem setattr_ok {y : V} {u : Value} {Q : Unit → Shared → Prop} (I : Inv X pins σ H s) (e : H a = some (.ins C dx fs)) (c : Cls X.K C) (n : NoAttr X.K C f) (hl : fs.length < 1000) (ry : RelV y u)
    (h : ∀ s', Inv X pins σ (upd H a (.ins C dx (putF f y fs))) s' → Q () s') : wpAny (model X.prog X.w) A (setAttr (.ref a) f u) Q E s := by
  obtain ⟨mA, O, r, wi, _, ho⟩ := ins_get I.hok e
  have hz : (fs.map (·.1)).length ≤ sizeLine := by rw [List.length_map, sizeLine_eq]; omega
  refine set_map I.kIn O c.sa c.po n.taker c.hd wi hz fun h' O' sb => h _ ?_
  have hd : ∃ o, h'.get? dx = some o := let ⟨o, _, _, e', _⟩ := O'.ns; ⟨o, e'⟩
  refine I.write (x := a) (e := dx) (by rw [e]; exact True.intro) (.inr ho) (fun b q hb z => (sb.2 b hb).trans z) hd ?_
  refine ⟨by rw [upd_ne O.ne]; exact ho, ?_, O.ne, O'.obj, _, O'.ns, fun g => ?_, fun g hg => ?_⟩
  · have := length_putF f y fs; omega
  · show RelO ((putF f y fs).lookup g) (if g = f then some u else mA g)
    rw [lookup_putF]
    by_cases q : g = f
    · rw [if_pos q, if_pos q]; exact ry
    · rw [if_neg q, if_neg q]; exact r g
  · by_cases q : g = f
    · rw [q]; exact (keys_putF f y fs).1
    · refine (keys_putF f y fs).2 g (wi g fun z => hg ?_)
      show (if g = f then some u else mA g) = none
      rw [if_neg q]; exact z

/-- a new instance, tracked, without attributes -/
theorem Inv.made (I : Inv X pins σ H s) : Inv X pins σ (upd (upd H s.heap.objs.size (.own (s.heap.objs.size + 1))) (s.heap.objs.size + 1) (.ins C s.heap.objs.size []))
    { s with heap := (s.heap.push PySem.W.emptyDict).push (PySem.W.instObj C s.heap.objs.size) } := by
  have e1 : (s.heap.push PySem.W.emptyDict).get? s.heap.objs.size = some PySem.W.emptyDict := Heap.get?_push_size s.heap rfl
  have e2 : ((s.heap.push PySem.W.emptyDict).push (PySem.W.instObj C s.heap.objs.size)).get? (s.heap.objs.size + 1) = some (PySem.W.instObj C s.heap.objs.size) := by
    have := Heap.get?_push_size (s.heap.push PySem.W.emptyDict) (o := PySem.W.instObj C s.heap.objs.size) rfl
    rwa [Heap.size_push] at this
  have e3 : (s.heap.push PySem.W.emptyDict).Ns s.heap.objs.size (fun _ => none) := ⟨PySem.W.emptyDict, #[], _, e1, rfl, (fun e he => absurd he (by simp)), fun _ => rfl⟩
  have I1 := I.laid (a := s.heap.objs.size) (o := .own (s.heap.objs.size + 1)) (h' := s.heap.push PySem.W.emptyDict) (t' := s.toks) (fun b u q => Heap.get?_push_of_some _ q) (Nat.le_refl _) ⟨_, e1⟩
  refine I1.laid (a := s.heap.objs.size + 1) (o := .ins C s.heap.objs.size []) (t' := s.toks) (fun b u q => Heap.get?_push_of_some _ q) (Nat.le_of_eq (Heap.size_push _ _)) ?_
  have ne : s.heap.objs.size ≠ s.heap.objs.size + 1 := Nat.ne_of_lt (Nat.lt_succ_self _)
  refine ⟨by rw [upd_ne ne, upd_same], Nat.zero_le _, ne, e2, fun _ => none, (Heap.Ns1.of_empty e3).at fun o q => Heap.get?_push_of_some _ q, fun _ => True.intro, fun y hy => absurd rfl hy⟩

/-- e.f where nothing but the object is asked: through attributeBase (super) and the last hold -/
theorem attr_of {prog : Program} {w : World} {env : Env} {e : Expr} {f : Str} {pos : Pos} {s : Shared} {Q : Value → Shared → Prop} (hb : attributeBase e f env (eval e env) = eval e env)
    (h : wpAny (model prog w) A (eval e env) (fun o s₁ => wpAny (model prog w) A (getAttr o f true) Q E s₁) E s) : wpAny (model prog w) A (eval (.Attribute e f pos) env) Q E s :=
  Attribute_any_ h (by rw [arm_eval_Attribute, hb])
end

/-! ### readings and rules -/
/-- e.f, an attribute of the instance -/
def tFld (K : PySem.W.Frag) (ta : TE) (f : Str) : TE := fun σ H Q => ta σ H fun x H1 => ∃ a C dx fs v, x = .ref a ∧ H1 a = some (.ins C dx fs) ∧ Cls K C ∧ NoAttr K C f ∧ fs.lookup f = some v ∧ Q v H1
/-- e.f = value -/
def sFld (K : PySem.W.Frag) (ta tv : TE) (f : Str) : TS := fun D σ H => tv σ H fun y H1 => ta σ H1 fun x H2 => ∃ a C dx fs, x = .ref a ∧ H2 a = some (.ins C dx fs) ∧ Cls K C ∧ NoAttr K C f ∧ fs.length < 1000 ∧
  D.nx σ (upd H2 a (.ins C dx (putF f y fs)))
section
variable {X : Cx} {o e value : Expr} {f : Str} {pos pos' tpos : Pos} {ta tv : TE}
theorem pe_fld (he : PE X e ta) (hb : attributeBase e f X.env (eval e X.env) = eval e X.env) : PE X (.Attribute e f pos) (tFld X.K ta f) := by
  intro pins s σ H Q I h
  refine attr_of hb (thn (he pins s σ H _ I h) fun u s1 ⟨x, H1, I1, rx, a, C, dx, fs, v, ex, ea, c, n, l, q⟩ => ?_)
  subst ex
  obtain rfl : u = Value.ref a := rx
  exact getattr_ok I1 ea c n l fun u' s2 I2 ru => ⟨v, H1, I2, ru, q⟩
theorem ps_fld (ha : PE X o ta) (hv : PE X value tv) (hs : swapsWith value (some (.Attribute o f pos')) pos.line X.env = pure false) : PS X (.Assign [.Attribute o f pos'] value pos) (sFld X.K ta tv f) := by
  intro pins s σ H D I h
  refine plainObj_wpAny_Assign_Attribute (thn (hv pins s σ H _ I h) fun u s1 ⟨y, H1, I1, ry, q⟩ => thn (ha pins s1 σ H1 _ I1 q) fun ov s2 ⟨x, H2, I2, rx, a, C, dx, fs, ex, ea, c, n, l, q2⟩ => ?_) hs
  subst ex
  obtain rfl : ov = Value.ref a := rx
  exact setattr_ok I2 ea c n l ry fun s3 I3 => ⟨σ, _, I3, q2⟩
end

/-! ### isinstance -/
section
variable {X : Cx} {pins : List (Addr × Obj)} {σ : St} {H : Hp} {s : Shared} {A : Around} {E : Value → Shared → Prop} {Q : Value → Shared → Prop} {c : Value} {b : Bool}
/-- the type of a value, as the fragment's deciders take it; for an instance its class -/
inductive TyOf (K : PySem.W.Frag) (H : Hp) : V → Value → Prop where
  | non : TyOf K H .non (.type "NoneType")
  | bl (x : Bool) : TyOf K H (.bl x) (.type "bool")
  | int (i : Int) : TyOf K H (.int i) (.type "int")
  | str (x : Str) : TyOf K H (.str x) (.type "str")
  | flt (x : UInt64) : TyOf K H (.flt x) (.type "float")
  | lst {a : Addr} {xs : List V} (e : H a = some (.lst xs)) : TyOf K H (.ref a) (.type "list")
  | frz {a : Addr} {o : Obj} {xs : List V} (e : H a = some (.frz o (.lst xs))) : TyOf K H (.ref a) (.type "list")
  | tup {a : Addr} {xs : List V} (e : H a = some (.tup xs)) : TyOf K H (.ref a) (.type "tuple")
  | dK {a : Addr} {kvs : List (Key × V)} (e : H a = some (.dK kvs)) : TyOf K H (.ref a) (.type "dict")
  | ins {a C dx : Addr} {fs : List (Str × V)} (e : H a = some (.ins C dx fs)) (cl : Cls K C) (ha : PySem.W.findIn K (.ref C) "__class__" = some (some (.builtin "object.__class__")))
      (hn : PySem.W.specialIn K (.builtin "object.__class__") "__get__" = some (some (.builtin "getset_descriptor.__get__"))) (htk : PySem.W.takesIn K (.builtin "object.__class__") = some true)
      (hm : PySem.W.mroIn K C (.type "object") = some true) : TyOf K H (.ref a) (.ref C)
/-- isinstance(x, c) for one class c, a built-in or an own one: kitOne's answer -/
theorem isinst_ok {x : V} {u t : Value} (I : Inv X pins σ H s) (rx : RelV x u) (ty : TyOf X.K H x t) (e : PySem.W.kitOne X.K t c = some b) (h : ∀ tk, Q (.bool b) { s with toks := tk }) :
    wpAny (model X.prog X.w) A (call (.builtin "isinstance") [u, c]) Q E s := by
  cases ty with
  | non => cases (show u = Value.none from rx); exact PySem.W.kia_one PySem.W.kitx_none I.kIn True.intro e (fun z => nomatch z) h
  | bl y => cases (show u = Value.bool y from rx); exact PySem.W.kia_one PySem.W.kitx_bool I.kIn True.intro e (fun z => nomatch z) h
  | int i => obtain ⟨t, q⟩ := (show ∃ t, u = Value.int i t from rx); cases q; exact PySem.W.kia_one PySem.W.kitx_int I.kIn True.intro e (fun z => nomatch z) h
  | str y => obtain ⟨t, q⟩ := (show ∃ t, u = Value.str y t from rx); cases q; exact PySem.W.kia_one PySem.W.kitx_str I.kIn True.intro e (fun z => nomatch z) h
  | flt y => obtain ⟨t, q⟩ := (show ∃ t, u = Value.float y t from rx); cases q; exact PySem.W.kia_one PySem.W.kitx_float I.kIn True.intro e (fun z => nomatch z) h
  | @lst a xs ea =>
    cases (show u = Value.ref a from rx)
    obtain ⟨_, _, n, _, h1⟩ := (show ObjOk X.prog X.w H s.heap a (.lst xs) from I.hok a _ ea)
    exact PySem.W.kia_one PySem.W.kitx_list I.kIn ⟨_, h1, rfl⟩ e (fun z => nomatch z) h
  | @frz a ob xs ea =>
    cases (show u = Value.ref a from rx)
    obtain ⟨_, _, _, n, _, h1⟩ := (show ObjOk X.prog X.w H s.heap a (.frz ob (.lst xs)) from I.hok a _ ea)
    exact PySem.W.kia_one PySem.W.kitx_list I.kIn ⟨_, h1, rfl⟩ e (fun z => nomatch z) h
  | @tup a xs ea =>
    cases (show u = Value.ref a from rx)
    obtain ⟨_, _, _, p⟩ := (show ObjOk X.prog X.w H s.heap a (.tup xs) from I.hok a _ ea)
    obtain ⟨o, h1, h2, _⟩ := p
    exact PySem.W.kia_one PySem.W.kitx_tuple I.kIn ⟨o, h1, h2⟩ e (fun z => nomatch z) h
  | @dK a kvs ea =>
    cases (show u = Value.ref a from rx)
    obtain ⟨_, _, vs, _, p⟩ := (show ObjOk X.prog X.w H s.heap a (.dK kvs) from I.hok a _ ea)
    obtain ⟨o, es, ep, h1, h2, _⟩ := p
    exact PySem.W.kia_one PySem.W.kitx_dict I.kIn ⟨o, h1, h2.1⟩ e (fun z => nomatch z) h
  | @ins a C dx fs ea cl ha hn htk hm =>
    cases (show u = Value.ref a from rx)
    obtain ⟨mA, O, _⟩ := ins_get I.hok ea
    obtain ⟨od, J, _⟩ := O.look
    exact PySem.W.kia_one (PySem.W.kitx_own (cl.get _) cl.hd ha hn htk hm) I.kIn J e (fun z => nomatch z) h
end
end L2

namespace L2
open PySem PySem.Spec PyProof.Rows

/-! ### room -/
structure Room (k : Nat) (A : Around) : Prop where
  hd : A.handled = none
  dp : A.depth + 3 * k + 5 < recursionLimit
  un : A.units + 16 * k + 200 < cLine
theorem Room.mono {j k : Nat} {A : Around} (r : Room k A) (h : j ≤ k) : Room j A := ⟨r.hd, by have := r.dp; omega, by have := r.un; omega⟩
theorem Room.deeper {k : Nat} {A : Around} (r : Room (k + 1) A) (env : Env) : Room k (A.deeper env) :=
  ⟨r.hd, by have := r.dp; show A.depth + 1 + 3 * k + 5 < _; omega, by have := r.un; show A.units + 3 + 16 * k + 200 < _; omega⟩
theorem make_depth {A : Around} {C : Addr} {us : List Value} {kw : List (Str × Value)} : (A.under (.builtin "type.__call__" ⟨.ref C :: us, kw⟩)).depth = A.depth + 1 := by
  first | rfl | simp [Around.under, Code.weight, Code.isCreation, Code.isGuard, Code.isCaller, Code.frames, Code.isFrame, guardIds]
theorem make_units {A : Around} {C : Addr} {us : List Value} {kw : List (Str × Value)} : (A.under (.builtin "type.__call__" ⟨.ref C :: us, kw⟩)).units = A.units + 1 := by
  first | rfl | simp [Around.under, Code.cUnits, Code.frames, Code.isFrame]
theorem Room.make {k : Nat} {A : Around} (r : Room (k + 1) A) (C : Addr) (us : List Value) (kw : List (Str × Value)) : Room k (A.under (.builtin "type.__call__" ⟨.ref C :: us, kw⟩)) :=
  ⟨r.hd, by have := r.dp; rw [make_depth]; omega, by have := r.un; rw [make_units]; omega⟩
theorem Room.depth {k : Nat} {A : Around} (r : Room k A) : A.depth < recursionLimit := by have := r.dp; omega
theorem Room.units {k : Nat} {A : Around} (r : Room k A) : A.units + 64 < cLine := by have := r.un; omega
/-! ### argument lists and displays -/
def tNil : TA := fun _ H Q => Q [] H
def tCons (ta : TE) (tr : TA) : TA := fun σ H Q => ta σ H fun x H1 => tr σ H1 fun xs H2 => Q (x :: xs) H2
section
variable {X : Cx} {e : Expr} {es : List Expr} {te : TE} {t : TA} {pos : Pos}
theorem pa_nil : PA X [] tNil := fun _ _ _ _ H Q I h => Calls.spliced_nil ⟨[], H, I, .nil, h⟩
theorem pa_cons (ha : PE X e te) (hr : PA X es t) (hs : starEach (e :: es) X.env = (false, eval e X.env) :: starEach es X.env := by rfl) : PA X (e :: es) (tCons te t) := by
  intro pos pins s σ H Q I h
  rw [hs]
  show wpAny _ _ (spliced ((false, eval e X.env) :: backTo pos (starEach es X.env))) _ _ s
  refine Calls.spliced_cons (thn (ha pins s σ H _ I h) fun u s1 ⟨x, H1, I1, r1, q1⟩ => ?_)
  exact thn (hr pos pins s1 σ H1 _ I1 q1) fun us s2 ⟨xs, H2, I2, r2, q2⟩ => ⟨x :: xs, H2, I2, .cons r1 r2, q2⟩

/-- a tuple, a list of written items -/
def tTup (t : TA) : TE := fun σ H Q => t σ H fun xs H1 => xs.length ≤ sizeLine ∧ ∀ p, H1 p = none → Q (.ref p) (upd H1 p (.tup xs))
def tLst (t : TA) : TE := fun σ H Q => t σ H fun xs H1 => xs.length ≤ sizeLine ∧ ∀ p, H1 p = none → Q (.ref p) (upd H1 p (.lst xs))
theorem pe_tup {x1} (h : PA X es t) : PE X (.Tuple es x1 pos) (tTup t) := by
  intro pins s σ H Q I hq
  refine wpAny_Tuple_spliced (thn (h pos pins s σ H _ I hq) fun us s1 ⟨xs, H1, I1, r, z, q⟩ => ⟨by rw [← r.length]; exact z, ?_⟩)
  have hf : H1 s1.heap.objs.size = none := I1.hok.fresh (Nat.le_refl _)
  refine ⟨.ref s1.heap.objs.size, upd H1 s1.heap.objs.size (.tup xs), I1.laid (t' := s1.toks) (fun b u e => Heap.get?_push_of_some _ e) (Nat.le_refl _) ?_, rfl, q _ hf⟩
  exact ⟨z, us, r, ⟨_, Heap.get?_push_size _ rfl, rfl, _, rfl⟩⟩
theorem pe_lst (h : PA X es t) : PE X (.List es pos) (tLst t) := by
  intro pins s σ H Q I hq
  refine wpAny_List_spliced (thn (h pos pins s σ H _ I hq) fun us s1 ⟨xs, H1, I1, r, z, q⟩ => ⟨by rw [← r.length]; exact z, ?_⟩)
  have hf : H1 s1.heap.objs.size = none := I1.hok.fresh (Nat.le_refl _)
  refine ⟨.ref s1.heap.objs.size, upd H1 s1.heap.objs.size (.lst xs), I1.laid (t' := s1.toks) (fun b u e => Heap.get?_push_of_some _ e) (Nat.le_refl _) ?_, rfl, q _ hf⟩
  exact ⟨z, us, 0, r, Heap.get?_push_size _ rfl⟩
end

/-! ### what a def promises -/
/-- a def's promise: the bound arguments in the parameters' order, the heap, the wanted end, the wanted exception -/
abbrev Sp := List V → Hp → VK → XK → Prop
/-- how an exception lies behind a call (file 08 gives it): the callers' frames, abstract heap and state ahead of the call, the wish, the exception, the state -/
abbrev CXT := List Env → Hp → Shared → XK → Value → Shared → Prop

/-- the state at a call -/
structure Env0 (P : Program) (w : World) (K : PySem.W.Frag) (mg : Str → Option Value) (base : Heap) (A : Around) (outer : List Env) (s : Shared) (H : Hp) : Prop where
  frames : A.frames = some outer
  mod : Mod K mg base
  bs : ∀ b o, base.get? b = some o → s.heap.get? b = some o ∧ H b = none
  bsz : base.objs.size ≤ s.heap.objs.size
  funs : s.heap.FunFrames base outer
  frf : ∀ b ∈ frs outer, H b = none
  hok : HOk P w H s.heap
  bare : AllBare s.gens
/-- a call's end -/
def CE (outer : List Env) (P : Program) (w : World) (H : Hp) (s : Shared) (Q : VK) (u : Value) (s' : Shared) : Prop :=
  ∃ v H', s'.os = s.os ∧ AllBare s'.gens ∧ Un (frs outer) [] H H' s.heap s'.heap ∧ HOk P w H' s'.heap ∧ RelV v u ∧ Q v H'
def CR (CX : CXT) (outer : List Env) (P : Program) (w : World) (H : Hp) (s : Shared) (Q : VK) (E : XK) (r : Result) (s' : Shared) : Prop :=
  match r with
  | .ok (.ret u) => CE outer P w H s Q u s'
  | .ok _ => False
  | .error e => CX outer H s E e s'
structure FnOk (P : Program) (w : World) (K : PySem.W.Frag) (mg : Str → Option Value) (base : Heap) (CX : CXT) (k : Nat) (f : Addr) (fd : FuncData) (ps : List Str) (sp : Sp) : Prop where
  len : ∀ vs H Q E, sp vs H Q E → vs.length = ps.length
  run : ∀ (A : Around) (outer : List Env) (s : Shared) (H : Hp) (args : Args) (us : List Value) (vs : List V) (Q : VK) (E : XK), Room k A → Env0 P w K mg base A outer s H → BindsTo s fd args (ps.zip us) → Vals vs us → sp vs H Q E →
    codeAny (model P w) A (.call (.ref f) args) (CR CX outer P w H s Q E) s
theorem Env0.make {P : Program} {w : World} {K : PySem.W.Frag} {mg : Str → Option Value} {base : Heap} {A : Around} {outer : List Env} {s : Shared} {H : Hp} (e : Env0 P w K mg base A outer s H) (C : Addr) (us : List Value) (kw : List (Str × Value)) :
    Env0 P w K mg base (A.under (.builtin "type.__call__" ⟨.ref C :: us, kw⟩)) outer s H := ⟨by first | exact e.frames | (simpa [Around.under, Code.envs, Code.isFrame, pushEnvs] using e.frames), e.mod, e.bs, e.bsz, e.funs, e.frf, e.hok, e.bare⟩
section
variable {X : Cx} {pins : List (Addr × Obj)} {σ : St} {H : Hp} {s s' : Shared}
/-- from a body: what a callee wants -/
theorem Inv.env0 (I : Inv X pins σ H s) : Env0 X.prog X.w X.K X.mg X.base X.A X.stack s H :=
  ⟨I.ok.frames, I.ok.mod, I.bs, Nat.le_trans I.ok.bsz I.sz, I.stack, I.stkFree, I.hok, I.bare⟩
/-- behind a call -/
theorem Inv.after {Q : VK} {u : Value} (I : Inv X pins σ H s) (h : CE X.stack X.prog X.w H s Q u s') : EP X pins σ Q u s' := by
  obtain ⟨v, H', os, bare, un, hok, r, q⟩ := h
  obtain ⟨hh, g, d, t, os'⟩ := s'
  obtain rfl : os' = s.os := os
  exact ⟨v, H', I.call (h' := hh) (g' := g) (d' := d) (t' := t) (ch := []) un hok bare (fun b z => absurd z (by simp)), r, q⟩
end

/-! ### calls -/
/-- f(..): the written arguments, then the defaults dvs; E: what is wanted of an exception -/
def tCall (sp : Sp) (dvs : List V) (E : XK) (t : TA) : TE := fun σ H Q => t σ H fun vs H1 => sp (vs ++ dvs) H1 Q E
/-- C(..): a new instance and its dict, then __init__ -/
def tMake (C : Addr) (sp : Sp) (dvs : List V) (E : XK) (t : TA) : TE := fun σ H Q => t σ H fun vs H1 => ∀ x dx, H1 x = none → H1 dx = none → dx ≠ x →
  sp (.ref x :: (vs ++ dvs)) (upd (upd H1 dx (.own x)) x (.ins C dx [])) (fun v H2 => v = .non ∧ Q (.ref x) H2) E

/-- how the parameters are bound: us the positional arguments, kw the keywords' values by name, ds the defaults that fill up -/
def Binds (K : PySem.W.Frag) (fd : FuncData) (ps : List Str) (ds : List Value) : Prop :=
  ∀ (s : Shared) (us : List Value), K.In s.heap → (us ++ ds).length = ps.length → BindsTo s fd ⟨us, []⟩ (ps.zip (us ++ ds))
/-- every parameter is given -/
theorem Binds.all {K : PySem.W.Frag} {fd : FuncData} {ps : List Str} (h : ∀ us : List Value, us.length = ps.length → bindArgs fd ⟨us, []⟩ = pure (ps.zip us)) : Binds K fd ps [] := fun s us _ hl => by
  rw [List.append_nil] at hl ⊢
  exact .of_eq (h us hl)

/-- an exception of a callee reaches what this body wants of exceptions -/
def Passes (CX : CXT) (X : Cx) (E : XK) : Prop := ∀ (pins : List (Addr × Obj)) (σ : St) (H : Hp) (s : Shared) (e : Value) (s' : Shared), Inv X pins σ H s → CX X.stack H s E e s' → X.xe e s'

section
variable {X : Cx} {CX : CXT} {k : Nat} {f C : Addr} {fd : FuncData} {ps : List Str} {sp : Sp} {dvs : List V} {ds : List Value} {E : XK} {x m : Str} {p pos apos : Pos} {e o : Expr} {es : List Expr} {ta : TE} {t : TA}

/-- the callee runs -/
theorem run_fn {pins : List (Addr × Obj)} {σ : St} {H : Hp} {s : Shared} {Q : VK} {us : List Value} {vs : List V} (F : FnOk X.prog X.w X.K X.mg X.base CX k f fd ps sp) (hr : Room k X.A) (hb : Binds X.K fd ps ds) (hd : Vals dvs ds) (hx : Passes CX X E)
    (I : Inv X pins σ H s) (r : Vals vs us) (h : sp (vs ++ dvs) H Q E) : wpAny (model X.prog X.w) X.A (call (.ref f) us) (EP X pins σ Q) X.xe s := by
  have r2 : Vals (vs ++ dvs) (us ++ ds) := r.append hd
  have hl : (us ++ ds).length = ps.length := by rw [← r2.length]; exact F.len _ _ _ _ h
  refine wpAny_call (codeAny_mono (F.run X.A X.stack s H ⟨us, []⟩ (us ++ ds) (vs ++ dvs) Q E hr I.env0 (hb s us I.kIn hl) r2 h) fun r s' hq => ?_)
  cases r with
  | error e => exact hx pins σ H s e s' I hq
  | ok fl =>
    cases fl with
    | ret u => exact I.after hq
    | next => exact False.elim hq
    | brk => exact False.elim hq
    | cont => exact False.elim hq

theorem pe_call (F : FnOk X.prog X.w X.K X.mg X.base CX k f fd ps sp) (hr : Room k X.A) (hg : Gl X x) (hm : X.mg x = some (.ref f)) (hk : PySem.W.keepIn X.K (.ref f) = true) (hb : Binds X.K fd ps ds) (hd : Vals dvs ds) (hx : Passes CX X E)
    (ha : PA X (e :: es) t) (hdb : (x == ("__debug__" : Str)) = false := by decide) (he : starEach (e :: es) X.env = (false, eval e X.env) :: starEach es X.env := by rfl) (hpl : (backTo pos (starEach es X.env)).any (·.1) = false := by rfl) :
    PE X (.Call (.Name x p) (e :: es) [] pos) (tCall sp dvs E t) := by
  intro pins s σ H Q I h
  refine wpAny_Call_Name_kw (ld_glob I hg hm ?_ hdb)
  refine PySem.W.callWith_K (h₀ := X.base) I.ok.mod.kin hk (thn (ha pos pins s σ H _ I h) fun us s1 ⟨vs, H1, I1, r, q⟩ => ⟨I1.kIn, ?_⟩) he hpl
  exact run_fn F hr hb hd hx I1 r q
/-- what a class must have to be made -/
structure Mk (K : PySem.W.Frag) (C f : Addr) : Prop where
  makes : PySem.W.makesIn K C = true
  init : PySem.W.findIn K (.ref C) "__init__" = some (some (.ref f))
  fn : PySem.W.isFn K (.ref f) = true
  kp : PySem.W.keepIn K (.ref C) = true

theorem run_make {pins : List (Addr × Obj)} {σ : St} {H : Hp} {s : Shared} {Q : VK} {us : List Value} {vs : List V} (M : Mk X.K C f) (F : FnOk X.prog X.w X.K X.mg X.base CX k f fd ps sp) (hr : Room (k + 1) X.A) (hb : Binds X.K fd ps ds) (hd : Vals dvs ds)
    (hx : Passes CX X E) (I : Inv X pins σ H s) (r : Vals vs us)
    (h : ∀ x dx, H x = none → H dx = none → dx ≠ x → sp (.ref x :: (vs ++ dvs)) (upd (upd H dx (.own x)) x (.ins C dx [])) (fun v H2 => v = .non ∧ Q (.ref x) H2) E) :
    wpAny (model X.prog X.w) X.A (call (.ref C) us) (EP X pins σ Q) X.xe s := by
  have hq := h (s.heap.objs.size + 1) s.heap.objs.size (I.hok.fresh (Nat.le_succ _)) (I.hok.fresh (Nat.le_refl _)) (Nat.ne_of_lt (Nat.lt_succ_self _))
  have I2 := Inv.made (C := C) I
  have r2 : Vals (V.ref (s.heap.objs.size + 1) :: (vs ++ dvs)) (Value.ref (s.heap.objs.size + 1) :: (us ++ ds)) := .cons rfl (r.append hd)
  have hl : (Value.ref (s.heap.objs.size + 1) :: us ++ ds).length = ps.length := by
    have e := r2.length
    rw [F.len _ _ _ _ hq] at e
    exact e.symm
  refine wpAny_call (make_map (f := f) I.kIn M.makes M.init (beq_iff_eq.mp M.fn) (codeAny_mono (F.run _ X.stack _ _ ⟨Value.ref (s.heap.objs.size + 1) :: us, []⟩ (Value.ref (s.heap.objs.size + 1) :: (us ++ ds)) _ _ E (hr.make C us [])
    (I2.env0.make C us []) (hb _ (Value.ref (s.heap.objs.size + 1) :: us) I2.kIn hl) r2 hq) fun r s' hq' => ?_))
  cases r with
  | error e => exact hx pins σ _ _ e s' I2 hq'
  | ok fl =>
    cases fl with
    | ret u =>
      obtain ⟨v, H', I3, rv, ev, q3⟩ := I2.after hq'
      subst ev
      exact ⟨rv, ⟨V.ref (s.heap.objs.size + 1), H', I3, rfl, q3⟩⟩
    | next => exact False.elim hq'
    | brk => exact False.elim hq'
    | cont => exact False.elim hq'
theorem pe_make (M : Mk X.K C f) (F : FnOk X.prog X.w X.K X.mg X.base CX k f fd ps sp) (hr : Room (k + 1) X.A) (hg : Gl X x) (hm : X.mg x = some (.ref C)) (hb : Binds X.K fd ps ds) (hd : Vals dvs ds) (hx : Passes CX X E)
    (ha : PA X (e :: es) t) (hdb : (x == ("__debug__" : Str)) = false := by decide) (he : starEach (e :: es) X.env = (false, eval e X.env) :: starEach es X.env := by rfl) (hpl : (backTo pos (starEach es X.env)).any (·.1) = false := by rfl) :
    PE X (.Call (.Name x p) (e :: es) [] pos) (tMake C sp dvs E t) := by
  intro pins s σ H Q I h
  refine wpAny_Call_Name_kw (ld_glob I hg hm ?_ hdb)
  refine PySem.W.callWith_K (h₀ := X.base) I.ok.mod.kin M.kp (thn (ha pos pins s σ H _ I h) fun us s1 ⟨vs, H1, I1, r, q⟩ => ⟨I1.kIn, ?_⟩) he hpl
  exact run_make M F hr hb hd hx I1 r q
end

section
variable {X : Cx} {CX : CXT} {k : Nat} {f C : Addr} {fd : FuncData} {ps ks : List Str} {sp : Sp} {E : XK} {x m : Str} {p pos apos kpos : Pos} {e o : Expr} {es : List Expr} {kws : List Keyword} {te ta : TE} {t tk : TA} {nm : Option Str}
variable {g : List Value → List Value → List Value} {gV : List V → List V → List V}
end

/-! ### a def's body keeps its promise -/
/-- names: the parameters first -/
structure FnScope (N P : List Str) (sc : Scope) : Prop where
  kind : sc.kind = .function
  co : sc.isCoroutine = false
  gen : sc.isGenerator = false
  nd : N.Nodup
  pre : N.take P.length = P
  par : ∀ x ∈ P, sc.names.lookup x = some .local ∨ sc.names.lookup x = some .cell
  nofree : ∀ y ∈ sc.names, y.2 ≠ .free

theorem bindL_out {kindOf : Str → Option NameKind} {x : Str} : ∀ {binds : List (Str × Value)} {m : Str → Option Value}, (∀ v, (x, v) ∉ binds) → bindL kindOf binds m x = m x
  | [], _, _ => rfl
  | (n, v) :: r, m, h => by
    unfold bindL
    rw [bindL_out fun w hw => h w (List.mem_cons_of_mem _ hw)]
    split
    · have : x ≠ n := by rintro rfl; exact h v List.mem_cons_self
      simp [this]
    · rfl
theorem bindC_out {kindOf : Str → Option NameKind} {x : Str} : ∀ {binds : List (Str × Value)} {m : Str → Option Value}, (∀ v, (x, v) ∉ binds) → bindC kindOf binds m x = m x
  | [], _, _ => rfl
  | (n, v) :: r, m, h => by
    unfold bindC
    rw [bindC_out fun w hw => h w (List.mem_cons_of_mem _ hw)]
    split
    · rfl
    · have : x ≠ n := by rintro rfl; exact h v List.mem_cons_self
      simp [this]
theorem bindL_get {kindOf : Str → Option NameKind} {x : Str} {v : Value} : ∀ {P : List Str} {vs : List Value} {i : Nat} {m : Str → Option Value}, P.Nodup → P[i]? = some x → vs[i]? = some v → kindOf x = some .local →
    bindL kindOf (P.zip vs) m x = some v
  | [], _, _, _, _, h, _, _ => by simp at h
  | _ :: _, [], _, _, _, _, h, _ => by simp at h
  | p :: P, w :: vs, 0, m, nd, h1, h2, hk => by
    simp at h1 h2; subst h1; subst h2
    show bindL kindOf ((p, w) :: P.zip vs) m p = _
    unfold bindL
    rw [bindL_out fun v hv => (List.nodup_cons.mp nd).1 (List.of_mem_zip hv).1, if_pos hk]
    simp
  | p :: P, w :: vs, i + 1, m, nd, h1, h2, hk => by
    show bindL kindOf ((p, w) :: P.zip vs) m x = _
    unfold bindL
    exact bindL_get (i := i) (List.nodup_cons.mp nd).2 (by simpa using h1) (by simpa using h2) hk
theorem bindC_get {kindOf : Str → Option NameKind} {x : Str} {v : Value} : ∀ {P : List Str} {vs : List Value} {i : Nat} {m : Str → Option Value}, P.Nodup → P[i]? = some x → vs[i]? = some v → kindOf x ≠ some .local →
    bindC kindOf (P.zip vs) m x = some v
  | [], _, _, _, _, h, _, _ => by simp at h
  | _ :: _, [], _, _, _, _, h, _ => by simp at h
  | p :: P, w :: vs, 0, m, nd, h1, h2, hk => by
    simp at h1 h2; subst h1; subst h2
    show bindC kindOf ((p, w) :: P.zip vs) m p = _
    unfold bindC
    rw [bindC_out fun v hv => (List.nodup_cons.mp nd).1 (List.of_mem_zip hv).1, if_neg hk]
    simp
  | p :: P, w :: vs, i + 1, m, nd, h1, h2, hk => by
    show bindC kindOf ((p, w) :: P.zip vs) m x = _
    unfold bindC
    exact bindC_get (i := i) (List.nodup_cons.mp nd).2 (by simpa using h1) (by simpa using h2) hk

/-- the names' values at the entry -/
def start (N : List Str) (vs : List V) : St := vs.map some ++ List.replicate (N.length - vs.length) none

/-- the context of a def's body, at its entry; an exception leaves the frame, then lies as CX says -/
def cxOf (CX : CXT) (P : Program) (w : World) (K : PySem.W.Frag) (mg : Str → Option Value) (base : Heap) (N : List Str) (qual : Str) (scope : Scope) (f : Addr) (cd : Value) (A : Around) (outer : List Env) (s : Shared) (H : Hp) (E : XK) : Cx where
  prog := P
  w := w
  K := K
  mg := mg
  base := base
  A := A.deeper (envOfC qual scope s.heap.objs.size f cd)
  N := N
  s₀ := s
  H₀ := H
  env := envOfC qual scope s.heap.objs.size f cd
  outer := outer
  stack := envOfC qual scope s.heap.objs.size f cd :: outer
  ex := []
  calm := true
  fn := fun _ => true
  pn := []
  xe := fun e s' => wpAny (model P w) (A.deeper (envOfC qual scope s.heap.objs.size f cd)) (leaving (envOfC qual scope s.heap.objs.size f cd) e) (fun _ s'' => CX outer H s E e s'') (fun e' s'' => CX outer H s E e' s'') s'

theorem cell_has {sc : Scope} {n : Nat} {x : Str} (h : sc.names.lookup x = some .cell) : ∃ c, (cellsFrom n sc.names []).lookup x = some c := by
  have q := PySem.W.cellsFrom_some sc.names n [] (.inl h)
  exact Option.isSome_iff_exists.mp q

theorem inv_start {CX : CXT} {P : Program} {w : World} {K : PySem.W.Frag} {mg : Str → Option Value} {base : Heap} {N ps : List Str} {qual : Str} {scope : Scope} {f : Addr} {cd : Value} {A : Around} {outer : List Env} {s s1 : Shared} {H : Hp} {E : XK} {us : List Value} {vs : List V}
    (S : FnScope N ps scope) (hd : A.handled = none) (e0 : Env0 P w K mg base A outer s H) (hl : vs.length = ps.length) (r : Vals vs us)
    (x : InCallC s s.heap.objs.size (bindL (envOfC qual scope s.heap.objs.size f cd).kindOf (ps.zip us) fun _ => none) (cellsFrom (s.heap.objs.size + 1) scope.names []) (bindC (envOfC qual scope s.heap.objs.size f cd).kindOf (ps.zip us) fun _ => none) s1) :
    Inv (cxOf CX P w K mg base N qual scope f cd A outer s H E) [] (start N vs) H s1 := by
  have hpl : ps.length ≤ N.length := by have := congrArg List.length S.pre; rw [List.length_take] at this; omega
  obtain ⟨h1, tk, rfl, hk⟩ := x.done
  have noA : ∀ b : Addr, b ∉ (cxOf CX P w K mg base N qual scope f cd A outer s H E).ex := fun b z => absurd (show b ∈ ([] : List Addr) from z) (by simp)
  refine ⟨⟨e0.mod, S.kind, rfl, rfl, Nat.le_refl _, fun y z c h1 h2 => ?_, fun y hy => ?_, fun y c _ h => ?_, fun _ => hd, Around.frames_deeper e0.frames, .inr ⟨rfl, rfl⟩, fun b z => absurd z (noA b), e0.bs, e0.bsz, fun b _ _ => noA b, fun b z => absurd z (noA b), e0.funs, e0.frf⟩,
    rfl, e0.bare, Un.kept hk, ⟨_, x.toInCall.ns, fun i y v h1 h2 h3 => ?_⟩, fun y c h => ⟨_, x.cell y c h⟩, e0.hok.fresh (Nat.le_refl _), fun y c h => ?_, fun p hp => absurd (show p ∈ ([] : List (Addr × Obj)) from hp) (by simp), e0.hok.kept hk, ?_⟩
  · exact name_of_addr x.apart (PySem.mem_of_lookup h1) (PySem.mem_of_lookup h2)
  · have hy : scope.names.lookup y = some .cell ∨ scope.names.lookup y = some .free := hy
    rcases hy with hy | hy
    · exact cell_has hy
    · exact absurd rfl (S.nofree _ (PySem.mem_of_lookup hy))
  · exact Nat.le_of_lt (x.above y c (PySem.mem_of_lookup h))
  · have hi : i < vs.length := by
      unfold start at h2
      by_cases hi : i < vs.length
      · exact hi
      · rw [List.getElem?_append_right (by simpa using hi)] at h2
        rw [List.getElem?_replicate] at h2
        split at h2 <;> cases h2
    have ha : vs[i]? = some v := by
      unfold start at h2
      rw [List.getElem?_append_left (by simpa using hi), List.getElem?_map] at h2
      cases e : vs[i]? with
      | none => rw [e] at h2; cases h2
      | some a => rw [e] at h2; cases h2; rfl
    obtain ⟨u, hu, rv⟩ := r.get ha
    have hp : ps[i]? = some y := by
      rw [← S.pre, List.getElem?_take_of_lt (by omega)]; exact h1
    have ndP : ps.Nodup := by rw [← S.pre]; exact S.nd.sublist (List.take_sublist _ _)
    refine ⟨u, rv, ?_⟩
    rcases S.par y (List.mem_of_getElem? hp) with k | k
    · exact .inl ⟨k, bindL_get ndP hp hu k⟩
    · obtain ⟨c, e⟩ := cell_has (n := s.heap.objs.size + 1) k
      refine .inr ⟨.inl k, c, e, ?_⟩
      have q := x.cell y c e
      rw [bindC_get ndP hp hu (by show scope.names.lookup y ≠ _; rw [k]; decide)] at q
      exact q
  · exact e0.hok.fresh (Nat.le_of_lt (x.above y c (PySem.mem_of_lookup h)))
  · unfold start
    show _ = N.length
    rw [List.length_append, List.length_map, List.length_replicate]
    omega

/-- THE RULE: a def (or a method) of the text, by its body. The body's reading t is chosen for each entry; it is run at the parameters' values -/
theorem fn_of {CX : CXT} {P : Program} {w : World} {K : PySem.W.Frag} {mg : Str → Option Value} {base : Heap} {k : Nat} {f : Addr} {name qual : Str} {params : Arguments} {body : List Stmt} {scope : Scope} {dV kV doc pm cdv ct oc : Value} {an od : Option Addr}
    {osl : Array (Option Value)} {N ps : List Str} {sp : Sp} (lk : K.lookup f = some ⟨oc, od, .func (PySem.W.fnOf name qual params body scope dV kV doc pm an cdv ct), osl⟩) (hcd : PySem.W.codeIn K cdv qual = true) (S : FnScope N ps scope)
    (len : ∀ vs H Q E, sp vs H Q E → vs.length = ps.length)
    (hbody : ∀ (A : Around) (outer : List Env) (s : Shared) (H : Hp) (vs : List V) (Q : VK) (E : XK), Room k (A.deeper (envOfC qual scope s.heap.objs.size f cdv)) → sp vs H Q E →
      ∃ t, PSs (cxOf CX P w K mg base N qual scope f cdv A outer s H E) body t ∧ t { nx := fun _ H' => Q .non H', rt := Q } (start N vs) H) :
    FnOk P w K mg base CX (k + 1) f (PySem.W.fnOf name qual params body scope dV kV doc pm an cdv ct) ps sp := by
  refine ⟨len, fun A outer s H args us vs Q E hr e0 hb r hsp => ?_⟩
  have hl := len _ _ _ _ hsp
  have KX : K.In s.heap := e0.mod.kin.keeps fun b o e => (e0.bs b o e).1
  have lim : s.heap.NoLimit := e0.mod.nolimit.keeps fun b o e => (e0.bs b o e).1
  have hkind : ∀ y ∈ ps.zip us, scope.names.lookup y.1 = some .local ∨ (scope.names.lookup y.1 = some .cell ∧ ((cellsFrom (s.heap.objs.size + 1) scope.names []).lookup y.1).isSome = true) := fun ⟨n, v⟩ hy => by
    rcases S.par n (List.of_mem_zip hy).1 with q | q
    · exact .inl q
    · exact .inr ⟨q, PySem.W.cellsFrom_some _ _ _ (.inl q)⟩
  refine codeAny_call_function hr.depth (KX _ _ lk) rfl S.co S.gen rfl (PySem.W.codeRec_of KX hcd) (hb _ _ _ _ ?_)
  refine wpAny_newFunctionEnv_cells S.kind hkind fun env he s1 x => ?_
  subst he
  refine ⟨lim.keeps x.toInCall.keep, codeAny_func ?_⟩
  obtain ⟨t, ht, hq⟩ := hbody A outer s H vs Q E (hr.deeper _) hsp
  have I : Inv (cxOf CX P w K mg base N qual scope f cdv A outer s H E) [] (start N vs) H s1 := inv_start S hr.hd e0 hl r x
  refine wpAny_mono (ht [] s1 (start N vs) H _ I hq) (fun fl s' hs => ?_) fun e s' hs => hs
  have fin : ∀ {σ' : St} {H' : Hp} {v : V} {u : Value}, Inv (cxOf CX P w K mg base N qual scope f cdv A outer s H E) [] σ' H' s' → RelV v u → Q v H' → CE outer P w H s Q u s' :=
    fun {σ' H' v u} J rv q => ⟨v, H', J.os, J.bare, J.base, J.hok, rv, q⟩
  cases fl with
  | ret u =>
    obtain ⟨v, σ', H', J, rv, q⟩ := hs
    exact fin J rv q
  | next =>
    obtain ⟨σ', H', J, q⟩ := hs
    exact fin (v := V.non) (u := Value.none) J rfl q
  | brk =>
    obtain ⟨_, _, _, q⟩ := hs
    exact False.elim q
  | cont =>
    obtain ⟨_, _, _, q⟩ := hs
    exact False.elim q
end L2

namespace L2
open PySem PySem.Spec PyProof.Rows
section
variable {X : Cx} {x : Str} {p pos : Pos} {e : Expr} {es : List Expr} {t : TA} {id T : String} {r : List V → Hp → VK → Prop}

def tCB (r : List V → Hp → VK → Prop) (t : TA) : TE := fun σ H Q => t σ H fun vs H1 => r vs H1 Q
/-- f(e, ..), f a built-in function -/
theorem pe_callB (hc : CallR X (.builtin id) r) (hg : Gl X x) (hm : X.mg x = none) (hv : bootBuiltins x = some (.builtin id)) (ha : PA X (e :: es) t) (hn : x ≠ "__name__" := by decide) (hdb : (x == ("__debug__" : Str)) = false := by decide)
    (he : starEach (e :: es) X.env = (false, eval e X.env) :: starEach es X.env := by rfl) (hpl : (backTo pos (starEach es X.env)).any (·.1) = false := by rfl) : PE X (.Call (.Name x p) (e :: es) [] pos) (tCB r t) := by
  intro pins s σ H Q I h
  refine wpAny_Call_Name_kw (ld_blt I hg hm hv ?_ hn hdb)
  exact PyProof.Rows.callWith_builtin1 (thn (ha pos pins s σ H _ I h) fun us s1 ⟨vs, H1, I1, r1, q1⟩ => hc pins s1 σ H1 vs us Q I1 r1 q1) he hpl
/-- T(e, ..), T a built-in type -/
theorem pe_callTy (hc : CallR X (.type T) r) (hg : Gl X x) (hm : X.mg x = none) (hv : bootBuiltins x = some (.type T)) (ha : PA X (e :: es) t) (hn : x ≠ "__name__" := by decide) (hdb : (x == ("__debug__" : Str)) = false := by decide)
    (he : starEach (e :: es) X.env = (false, eval e X.env) :: starEach es X.env := by rfl) (hpl : (backTo pos (starEach es X.env)).any (·.1) = false := by rfl) : PE X (.Call (.Name x p) (e :: es) [] pos) (tCB r t) := by
  intro pins s σ H Q I h
  refine wpAny_Call_Name_kw (ld_blt I hg hm hv ?_ hn hdb)
  exact PyProof.Rows.callWith_type1 (thn (ha pos pins s σ H _ I h) fun us s1 ⟨vs, H1, I1, r1, q1⟩ => hc pins s1 σ H1 vs us Q I1 r1 q1) he hpl
end
end L2

namespace HT
open PySem PyProof.Rows

section
open PySem.SeqAt
open PySem.AutoSeq1 (wpAny_loadPart')
open PySem.MeetsSeq PySem.MeetsSeq2 PySem.MeetsSeq3

end

section
variable {prog : Program} {w : World} {A : Around} {E : Value → Shared → Prop} {s : Shared}

/-! ### t[a:b], not the whole -/
/-- a slice's bound as a place among n (d where it is left out) -/
def sIx (n d : Nat) : Option Int → Nat
  | none => d
  | some v => if v < 0 then (v + (n : Int)).toNat else min v.toNat n
theorem sIx_le (n d : Nat) (hd : d ≤ n) (o : Option Int) : sIx n d o ≤ n := by
  cases o with
  | none => exact hd
  | some v =>
    show (if v < 0 then (v + (n : Int)).toNat else min v.toNat n) ≤ n
    by_cases hv : v < 0
    · rw [if_pos hv]; omega
    · rw [if_neg hv]; exact Nat.min_le_right _ _
theorem clip_eq (v : Int) (n d : Nat) : (if v < 0 then max (v + (n : Int)) 0 else min v (n : Int)) = ((sIx n d (some v) : Nat) : Int) := by
  show (if v < 0 then max (v + (n : Int)) 0 else min v (n : Int)) = (((if v < 0 then (v + (n : Int)).toNat else min v.toNat n) : Nat) : Int)
  by_cases hv : v < 0
  · simp only [if_pos hv]; omega
  · simp only [if_neg hv]; omega
theorem adjust_gen (lo hi : Option Int) (n : Nat) : Builtin.Slice.sliceAdjust lo hi 1 (n : Int) = (((sIx n 0 lo : Nat) : Int), ((sIx n n hi : Nat) : Int)) := by
  have h1 : ¬ ((1 : Int) < 0) := by omega
  unfold Builtin.Slice.sliceAdjust
  simp only [h1, if_false]
  refine Prod.ext ?_ ?_
  · cases lo with
    | none => rfl
    | some v => exact clip_eq v n 0
  · cases hi with
    | none => rfl
    | some v => exact clip_eq v n n
theorem places_gen (i j : Nat) : Builtin.Slice.slicePlaces (i : Int) (j : Int) 1 = j - i := by
  unfold Builtin.Slice.slicePlaces
  have h1 : (1 : Int) > 0 := by omega
  simp only [h1, if_true, Int.ediv_one]
  split <;> omega
theorem slicePart_ {v : Value} {o : Option Int} {Q : Option Int → Shared → Prop} (p : IsPart v o) (h : Q o s) : wpAny (model prog w) A (Builtin.Slice.slicePartIndex v) Q E s := by
  cases p with
  | none => exact slicePart_none h
  | int i t => exact slicePart_int h
theorem sliceApplied_gen {sl : Addr} {vl vu : Value} {lo hi : Option Int} {n : Nat} {Q : Int × Int × Nat → Shared → Prop} (hs : s.heap.IsSliceOf sl vl vu .none) (pl : IsPart vl lo) (pu : IsPart vu hi)
    (h : Q (((sIx n 0 lo : Nat) : Int), 1, sIx n n hi - sIx n 0 lo) s) : wpAny (model prog w) A (Builtin.Slice.sliceApplied (.ref sl) (pure (n : Int))) Q E s := by
  obtain ⟨os, hos, hcs, hds⟩ := id hs
  unfold Builtin.Slice.sliceApplied Builtin.Slice.sliceFields
  refine wpAny_bind (wpAny_bind (wpAny_field hos hds (x := vl) rfl (wpAny_bind (wpAny_field hos hds (x := vu) rfl (wpAny_bind (wpAny_field hos hds (x := .none) rfl (wpAny_pure ?_)))))))
  refine wpAny_bind (slicePart_none ?_)
  show wpAny _ _ (if ((1 : Int) == 0) = true then _ else _) _ _ s
  rw [if_neg (by decide)]
  refine wpAny_bind (slicePart_ pl (wpAny_bind (slicePart_ pu (wpAny_bind (wpAny_pure ?_)))))
  show wpAny _ _ (match Builtin.Slice.sliceAdjust lo hi 1 (n : Int) with | (lo, hi) => pure (lo, (1 : Int), Builtin.Slice.slicePlaces lo hi 1)) _ _ s
  rw [adjust_gen lo hi n]
  show wpAny _ _ (pure (((sIx n 0 lo : Nat) : Int), (1 : Int), Builtin.Slice.slicePlaces ((sIx n 0 lo : Nat) : Int) ((sIx n n hi : Nat) : Int) 1)) _ _ s
  rw [places_gen]
  exact wpAny_pure h
theorem pick_gen (xs : Array Value) (i k : Nat) : ((List.range k).filterMap fun (m : Nat) => xs[((i : Int) + (m : Int) * 1).toNat]?).toArray = ((xs.toList.drop i).take k).toArray := by
  have e : (fun (m : Nat) => xs[((i : Int) + (m : Int) * 1).toNat]?) = fun m => xs[i + m]? := by
    funext m
    have : ((i : Int) + (m : Int) * 1).toNat = i + m := by omega
    rw [this]
  rw [e]
  have := pick_run xs i k
  rw [List.filterMap_map] at this
  have e2 : ((fun x => xs[x]?) ∘ fun x => i + x) = fun m => xs[i + m]? := rfl
  rw [e2] at this
  rw [this]

theorem getItem_tuple_cut {t sl : Addr} {items : Array Value} {vl vu : Value} {lo hi : Option Int} {Q : Value → Shared → Prop} (ht : IsTup s.heap t items) (hs : s.heap.IsSliceOf sl vl vu .none) (pl : IsPart vl lo) (pu : IsPart vu hi)
    (hw : ¬ (sIx items.size 0 lo = 0 ∧ sIx items.size items.size hi = items.size))
    (h : Q (.ref s.heap.objs.size) { s with heap := s.heap.push { cls := .type "tuple", data := .seq ((items.toList.drop (sIx items.size 0 lo)).take (sIx items.size items.size hi - sIx items.size 0 lo)).toArray } })
    (hsz : items.size ≤ sizeLine) : wpAny (model prog w) A (getItem (.ref t) (.ref sl)) Q E s := by
  have htake : sizeOk (.seq ((items.toList.drop (sIx items.size 0 lo)).take (sIx items.size items.size hi - sIx items.size 0 lo)).toArray) := by
    show ((items.toList.drop (sIx items.size 0 lo)).take (sIx items.size items.size hi - sIx items.size 0 lo)).toArray.size ≤ sizeLine
    rw [List.size_toArray, List.length_take, List.length_drop, Array.length_toList]
    omega
  have hj : sIx items.size items.size hi ≤ items.size := sIx_le _ _ (Nat.le_refl _) hi
  obtain ⟨os, hos, hcs, hds⟩ := id hs
  have hTs : s.TypeIs (.ref sl) "slice" := ⟨os, hos, hcs⟩
  unfold getItem
  try with_reducible refine wpAny_holding ?_
  first | refine wpAny_bind (wpAny_pure ?_) | skip
  refine wpAny_bind (wpAny_sequenceKey ht.typeIs (by decide) ?_)
  refine wpAny_bind (wpAny_callSpecial?_slot (name := Str.ofString "__getitem__") ht.typeIs PyProof.Rows.slot_tuple_getitem
    (wpAny_call_entry PyProof.Rows.slot_tuple_getitem ht.typeIs entry_tuple_getitem ?_ (args_tuple_getitem _ _)))
  show wpAny _ _ (Builtin.Tuple.tupleItemsOf (.ref t) >>= _) _ _ s
  refine wpAny_bind (tupleItemsOf_ ht ?_)
  refine wpAny_bind (wpAny_typeOf hTs ?_)
  rw [if_pos (by decide)]
  refine wpAny_bind (sliceApplied_gen hs pl pu ?_)
  have hno : ¬ ((((sIx items.size 0 lo : Nat) : Int) == 0 && (1 : Int) == 1 && (sIx items.size items.size hi - sIx items.size 0 lo) == items.size) = true) := by
    intro q
    rw [Bool.and_eq_true, Bool.and_eq_true] at q
    have q1 : ((sIx items.size 0 lo : Nat) : Int) = 0 := eq_of_beq q.1.1
    have q2 : sIx items.size items.size hi - sIx items.size 0 lo = items.size := eq_of_beq q.2
    exact hw ⟨by omega, by omega⟩
  show wpAny _ _ (if (((sIx items.size 0 lo : Nat) : Int) == 0 && (1 : Int) == 1 && (sIx items.size items.size hi - sIx items.size 0 lo) == items.size) = true then _ else _) _ _ s
  rw [if_neg hno, pick_gen]
  first
    | exact wpAny_bind (m := Builtin.Tuple.tupleExact _) (wpAny_newObj_type (wpAny_pure ⟨_, rfl, wpAny_pure h⟩) htake)
    | exact wpAny_bind (m := Builtin.Tuple.tupleExact _) (wpAny_newObj_type (wpAny_bind (wpAny_pure (wpAny_pure ⟨_, rfl, wpAny_pure h⟩))) htake)
    | exact wpAny_bind (wpAny_bind (m := Builtin.Tuple.tupleExact _) (wpAny_newObj_type (wpAny_pure (wpAny_pure ⟨_, rfl, wpAny_pure h⟩)) htake))
    | exact wpAny_bind (wpAny_bind (m := Builtin.Tuple.tupleExact _) (wpAny_newObj_type (wpAny_pure ⟨_, rfl, wpAny_pure h⟩) htake))
end
end HT

namespace L2
open PySem PySem.Spec PyProof.Rows

/-! ### the parts of a slice -/
abbrev TO := St → Hp → (Option Int → Hp → Prop) → Prop
/-- a slice's part (left out, or an int) -/
def PO (X : Cx) (e : Option Expr) (t : TO) : Prop :=
  ∀ (pins : List (Addr × Obj)) (s : Shared) (σ : St) (H : Hp) (Q : Option Int → Hp → Prop), Inv X pins σ H s → t σ H Q →
    wpAny (model X.prog X.w) X.A (evalPart e X.env) (fun u s' => ∃ o H', Inv X pins σ H' s' ∧ IsPart u o ∧ Q o H') X.xe s
def tNoPart : TO := fun _ H Q => Q none H
def tPart (t : TE) : TO := fun σ H Q => t σ H fun x H1 => ∃ i, x = .int i ∧ Q (some i) H1

section
variable {X : Cx} {e : Expr} {te : TE} {lo hi : Option Expr} {tl th : TO} {pos p2 : Pos}

theorem po_none : PO X none tNoPart := by
  intro pins s σ H Q I h
  rw [evalPart_none]
  exact wpAny_pure ⟨none, H, I, .none, h⟩
theorem po_some (h : PE X e te) : PO X (some e) (tPart te) := by
  intro pins s σ H Q I hw
  rw [evalPart_some]
  refine thn (h pins s σ H _ I hw) fun u s1 ⟨x, H1, I1, r1, q1⟩ => ?_
  obtain ⟨i, rfl, q⟩ := q1
  obtain ⟨t, rfl⟩ := r1
  exact ⟨some i, H1, I1, .int i t, q⟩

/-- what a slice of a value is, by values: the slice object stands at sl -/
def SlR (X : Cx) (r : V → Option Int → Option Int → Hp → VK → Prop) : Prop :=
  ∀ (pins : List (Addr × Obj)) (s : Shared) (σ : St) (H : Hp) (x : V) (v vl vu : Value) (lo hi : Option Int) (sl : Addr) (Q : VK), Inv X pins σ H s → RelV x v → s.heap.IsSliceOf sl vl vu .none → IsPart vl lo → IsPart vu hi → r x lo hi H Q →
    ∃ T id, typeLookup (.type T) "__getitem__" = pure (some (.builtin id)) ∧ s.TypeIs v T ∧ wpAny (model X.prog X.w) X.A (getItem v (.ref sl)) (EP X pins σ Q) X.xe s
def tSl (r : V → Option Int → Option Int → Hp → VK → Prop) (te : TE) (tl th : TO) : TE := fun σ H Q => te σ H fun x H1 => tl σ H1 fun l H2 => th σ H2 fun u H3 => r x l u H3 Q
/-- a[lo:hi], any a -/
theorem pe_slice {r : V → Option Int → Option Int → Hp → VK → Prop} (hr : SlR X r) (he : PE X e te) (hl : PO X lo tl) (hu : PO X hi th) : PE X (.Subscript e (.Slice lo hi none p2) pos) (tSl r te tl th) := by
  intro pins s σ H Q I h
  refine Subscript_ (thn (he pins s σ H _ I h) fun v s1 ⟨x, H1, I1, r1, q1⟩ => ?_)
  refine wpAny_Slice (thn (hl pins s1 σ H1 _ I1 q1) fun vl s2 ⟨l, H2, I2, pl, q2⟩ => thn (hu pins s2 σ H2 _ I2 q2) fun vu s3 ⟨u, H3, I3, pu, q3⟩ => ?_)
  rw [evalPart_none]
  refine wpAny_pure ?_
  have I4 : Inv X pins σ H3 { s3 with heap := s3.heap.push { cls := .type "slice", data := .fields #[vl, vu, .none] } } := I3.kept (t' := s3.toks) fun b ob q => Heap.get?_push_of_some _ q
  obtain ⟨T, id, hT, ht, hg⟩ := hr pins { s3 with heap := s3.heap.push { cls := .type "slice", data := .fields #[vl, vu, .none] } } σ H3 x v vl vu l u s3.heap.objs.size Q I4 r1 (Heap.IsSliceOf.new ..) pl pu q3
  show wpAny (model X.prog X.w) X.A (subscriptTail e (.Slice lo hi none p2) v (.ref s3.heap.objs.size)) (EP X pins σ Q) X.xe { s3 with heap := s3.heap.push { cls := .type "slice", data := .fields #[vl, vu, .none] } }
  exact tail_any (ops := [.ref s3.heap.objs.size, v]) ht hT hg (by with_unfolding_all rfl)

/-- the items of xs[lo:hi] -/
def cutV (xs : List V) (lo hi : Option Int) : List V := (xs.drop (HT.sIx xs.length 0 lo)).take (HT.sIx xs.length xs.length hi - HT.sIx xs.length 0 lo)
theorem cutV_length (xs : List V) (lo hi : Option Int) : (cutV xs lo hi).length ≤ xs.length := by
  unfold cutV
  rw [List.length_take, List.length_drop]
  omega
/-- t[lo:hi], not the whole of it (the whole would be t itself) -/
def rSlT (K : PySem.W.Frag) : V → Option Int → Option Int → Hp → VK → Prop := fun x lo hi H Q => ∃ a xs, x = .ref a ∧ SqT K H a xs ∧
  ¬ (HT.sIx xs.length 0 lo = 0 ∧ HT.sIx xs.length xs.length hi = xs.length) ∧ ∀ p, H p = none → Q (.ref p) (upd H p (.tup (cutV xs lo hi)))
theorem sl_tup : SlR X (rSlT X.K) := by
  intro pins s σ H x v vl vu lo hi sl Q I rx hs pl pu h
  obtain ⟨a, xs, rfl, hx, hw, q⟩ := h
  cases rx
  obtain ⟨its, r, ht, hz⟩ := I.tuple hx
  have hlen : its.toArray.size = xs.length := by rw [List.size_toArray]; exact r.length.symm
  refine ⟨"tuple", _, PyProof.Rows.slot_tuple_getitem.lookup, ht.typeIs, ?_⟩
  refine HT.getItem_tuple_cut ht hs pl pu (by rw [hlen]; exact hw) ?_ (by rw [hlen]; exact hz)
  rw [hlen]
  refine ⟨.ref s.heap.objs.size, _, I.laid (t' := s.toks) (o := .tup (cutV xs lo hi)) (fun b ob q => Heap.get?_push_of_some _ q) (Nat.le_refl _) ?_, rfl, q _ (I.hok.fresh (Nat.le_refl _))⟩
  exact ⟨Nat.le_trans (cutV_length xs lo hi) hz, _, (r.drop (HT.sIx xs.length 0 lo)).take (HT.sIx xs.length xs.length hi - HT.sIx xs.length 0 lo), IsTup.new _ _⟩

end
end L2

namespace L2
open PySem PySem.Spec PyProof.Rows

/-! ### places -/
/-- the place that an index of any sign means -/
def ixN (n : Nat) (i : Int) : Option Nat := if 0 ≤ i then (if i < n then some i.toNat else none) else if -(n : Int) ≤ i then some (i + n).toNat else none
def atI {α : Type} (xs : List α) (i : Int) : Option α := (ixN xs.length i).bind fun j => xs[j]?
theorem ixN_seq {n : Nat} {i : Int} {j : Nat} (h : ixN n i = some j) : seqIndex? i n = some j ∧ j < n ∧ -(n : Int) ≤ i ∧ i < n := by
  unfold ixN at h
  by_cases h0 : 0 ≤ i
  · rw [if_pos h0] at h
    by_cases h1 : i < n
    · rw [if_pos h1] at h
      have e : i.toNat = j := Option.some.inj h
      exact ⟨by rw [seqIndex_of h0 h1, e], by omega, by omega, h1⟩
    · rw [if_neg h1] at h; cases h
  · rw [if_neg h0] at h
    by_cases h1 : -(n : Int) ≤ i
    · rw [if_pos h1] at h
      have e : (i + n).toNat = j := Option.some.inj h
      exact ⟨by rw [seqIndex_neg (by omega) h1, e], by omega, h1, by omega⟩
    · rw [if_neg h1] at h; cases h
theorem atI_get {α : Type} {xs : List α} {i : Int} {v : α} (h : atI xs i = some v) : ∃ j, seqIndex? i xs.length = some j ∧ xs[j]? = some v ∧ j < xs.length ∧ -(xs.length : Int) ≤ i ∧ i < xs.length := by
  unfold atI at h
  cases e : ixN xs.length i with
  | none => rw [e] at h; cases h
  | some j =>
    rw [e] at h
    obtain ⟨h1, h2, h3, h4⟩ := ixN_seq e
    exact ⟨j, h1, h, h2, h3, h4⟩
theorem atI_nat {α : Type} {xs : List α} {j : Nat} {v : α} (h : xs[j]? = some v) : atI xs (j : Int) = some v := by
  have hj : j < xs.length := (List.getElem?_eq_some_iff.mp h).1
  have e : ixN xs.length (j : Int) = some j := by
    unfold ixN
    rw [if_pos (by omega), if_pos (by omega)]; simp
  unfold atI; rw [e]; exact h
/-! ### what may be subscripted -/
/-- what stands as an index of a plain subscript -/
def PlainIx (b : Expr) : Prop := ∀ o i, subscripted b false o i = operate [o, i] (getItem o i)
/-- a subscript by values -/
def IxR (X : Cx) (r : R2) : Prop :=
  ∀ (value slice : Expr) (pins : List (Addr × Obj)) (s : Shared) (σ : St) (H : Hp) (x y : V) (v u : Value) (Q : VK), Inv X pins σ H s → RelV x v → RelV y u → r x y H Q →
    subscripted slice false v u = operate [v, u] (getItem v u) → wpAny (model X.prog X.w) X.A (subscriptTail value slice v u) (EP X pins σ Q) X.xe s
/-- a call of a builtin's method by values: the receiver, the arguments -/
def MtR (X : Cx) (id : String) (r : V → List V → Hp → VK → Prop) : Prop :=
  ∀ (pins : List (Addr × Obj)) (s : Shared) (σ : St) (H : Hp) (x : V) (xs : List V) (v : Value) (us : List Value) (Q : VK), Inv X pins σ H s → RelV x v → Vals xs us → r x xs H Q →
    wpAny (model X.prog X.w) X.A (call (.builtin id) (v :: us)) (EP X pins σ Q) X.xe s
section
variable {X : Cx} {a b : Expr} {ta tb : TE} {pos : Pos}
/-- a[b] -/
theorem pe_ix {r : R2} (hr : IxR X r) (ha : PE X a ta) (hb : PE X b tb) (hs : PlainIx b) : PE X (.Subscript a b pos) (tOp r ta tb) := by
  intro pins s σ H Q I h
  exact Subscript_ (binT ha hb I h fun v u s2 x y H2 I2 rx ry q => hr a b pins s2 σ H2 x y v u Q I2 rx ry q (hs _ _))

def rIxL (K : PySem.W.Frag) : R2 := fun x y H Q => ∃ p xs i v, x = .ref p ∧ y = .int i ∧ SqL K H p xs ∧ atI xs i = some v ∧ Q v H
def rIxT (K : PySem.W.Frag) : R2 := fun x y H Q => ∃ p xs i v, x = .ref p ∧ y = .int i ∧ SqT K H p xs ∧ atI xs i = some v ∧ Q v H
theorem ix_list : IxR X (rIxL X.K) := by
  intro value slice pins s σ H x y v u Q I rx ry h hs
  obtain ⟨p, xs, i, z, rfl, rfl, hq, he, q⟩ := h
  cases rx
  obtain ⟨t, rfl⟩ := ry
  obtain ⟨its, r, pl, hz⟩ := I.list hq
  obtain ⟨j, h1, h2, h3, h4, h5⟩ := atI_get he
  obtain ⟨w, ew, rw'⟩ := r.get h2
  have hl := r.length
  have hn := line63
  have fin : EP X pins σ Q w s := ⟨z, H, I, rw', q⟩
  by_cases h0 : 0 ≤ i
  · have hj : i.toNat = j := by
      rw [seqIndex_of h0 h5] at h1
      exact Option.some.inj h1
    exact item_listR pl.isList h0 (by omega) (by rw [hj]; simpa using ew) fin hs
  · have hj : (i + (its.toArray.size : Int)).toNat = j := by
      rw [seqIndex_neg (by omega) h4] at h1
      rw [List.size_toArray, ← hl]
      exact Option.some.inj h1
    exact subscriptTail_builtinR (x := w) pl.isList.typeIs slot_list_getitem.lookup
      (wpAny_getItem_list_neg (Q := fun r s' => r = w ∧ EP X pins σ Q r s') pl.isList (by omega) (by rw [List.size_toArray] <;> omega) (by omega) (by rw [hj]; simpa using ew) ⟨rfl, fin⟩) hs
theorem ix_tup : IxR X (rIxT X.K) := by
  intro value slice pins s σ H x y v u Q I rx ry h hs
  obtain ⟨p, xs, i, z, rfl, rfl, hq, he, q⟩ := h
  cases rx
  obtain ⟨t, rfl⟩ := ry
  obtain ⟨its, r, pl, hz⟩ := I.tuple hq
  obtain ⟨j, h1, h2, h3, h4, h5⟩ := atI_get he
  obtain ⟨w, ew, rw'⟩ := r.get h2
  have hl := r.length
  have hn := line63
  have fin : EP X pins σ Q w s := ⟨z, H, I, rw', q⟩
  exact subscriptTail_builtinR (x := w) pl.typeIs slot_tuple_getitem.lookup
    (getItem_tuple (j := j) (Q := fun r s' => r = w ∧ EP X pins σ Q r s') pl (by omega) (by omega) (by rw [List.size_toArray, ← hl]; exact h1) (by simpa using ew) ⟨rfl, fin⟩) hs
/-! ### slices -/
theorem slice_bounds (lo hi : Option Int) (n : Nat) : (sliceBounds lo hi none n).1 = ((HT.sIx n 0 lo : Nat) : Int) ∧ (sliceBounds lo hi none n).2.1 = ((HT.sIx n n hi : Nat) : Int) ∧ (sliceBounds lo hi none n).2.2 = 1 := by
  refine ⟨?_, ?_, rfl⟩
  · cases lo with
    | none => simp [sliceBounds, HT.sIx]
    | some i =>
      simp only [sliceBounds, HT.sIx, Option.getD_none, show (1 : Int) > 0 by decide, if_true]
      by_cases h : i < 0
      · simp only [h, if_true] <;> omega
      · simp only [h, if_false] <;> omega
  · cases hi with
    | none => simp [sliceBounds, HT.sIx]
    | some i =>
      simp only [sliceBounds, HT.sIx, Option.getD_none, show (1 : Int) > 0 by decide, if_true]
      by_cases h : i < 0
      · simp only [h, if_true] <;> omega
      · simp only [h, if_false] <;> omega
theorem slicePick_cut (its : List Value) (lo hi : Option Int) : slicePick its.toArray lo hi none = ((its.drop (HT.sIx its.length 0 lo)).take (HT.sIx its.length its.length hi - HT.sIx its.length 0 lo)).toArray := by
  obtain ⟨h1, h2, h3⟩ := slice_bounds lo hi its.toArray.size
  unfold slicePick
  rw [h1, h2, h3]
  simp only [sliceRange_one, pick_run, List.size_toArray] <;> rfl
/-- xs[lo:hi] of a list: a new list -/
def rSlL (K : PySem.W.Frag) : V → Option Int → Option Int → Hp → VK → Prop := fun x lo hi H Q => ∃ a xs, x = .ref a ∧ SqL K H a xs ∧ ∀ p, H p = none → Q (.ref p) (upd H p (.lst (cutV xs lo hi)))
theorem sl_list : SlR X (rSlL X.K) := by
  intro pins s σ H x v vl vu lo hi sl Q I rx hs pl pu h
  obtain ⟨a, xs, rfl, hx, q⟩ := h
  cases rx
  obtain ⟨its, r, ht, hz⟩ := I.list hx
  have hlen := r.length
  refine ⟨"list", _, slot_list_getitem.lookup, ht.isList.typeIs, ?_⟩
  refine wpAny_getItem_list_slice ht.isList hs pl pu .none (by simp) ?_ (by rw [List.size_toArray] <;> omega)
  rw [slicePick_cut, ← hlen]
  refine ⟨.ref s.heap.objs.size, _, I.laid (t' := s.toks) (o := .lst (cutV xs lo hi)) (fun b ob q => Heap.get?_push_of_some _ q) (Nat.le_refl _) ?_, rfl, q _ (I.hok.fresh (Nat.le_refl _))⟩
  exact ⟨Nat.le_trans (cutV_length xs lo hi) hz, _, 0, (r.drop (HT.sIx xs.length 0 lo)).take (HT.sIx xs.length xs.length hi - HT.sIx xs.length 0 lo), Heap.get?_push_size _ rfl⟩

/-! ### in, not in: flat items -/
def flatV : V → Bool
  | .non => true
  | .bl _ => true
  | .int _ => true
  | .str _ => true
  | _ => false
/-- == of flat values -/
def eqV : V → V → Bool
  | .non, .non => true
  | .bl a, .bl b => a == b
  | .bl a, .int b => (if a then 1 else 0) == b
  | .int a, .bl b => a == (if b then 1 else 0)
  | .int a, .int b => a == b
  | .str a, .str b => a == b
  | _, _ => false
theorem eqAt_V {A : Around} {s : Shared} {y x : V} {u v : Value} (ry : RelV y u) (rx : RelV x v) (fy : flatV y = true) (fx : flatV x = true) : SeqAt.EqAt A s u v (eqV y x) := by
  cases y with
  | non =>
    cases ry
    cases x with
    | non => cases rx; exact SeqAt.EqAt.same _
    | bl b => cases rx; exact SeqAt.EqAt.none_bool b
    | int b => obtain ⟨t, rfl⟩ := rx; exact SeqAt.EqAt.none_int b t
    | str b => obtain ⟨t, rfl⟩ := rx; exact SeqAt.EqAt.none_str b t
    | _ => exact absurd (show false = true from fx) Bool.false_ne_true
  | bl a =>
    cases ry
    cases x with
    | non => cases rx; exact SeqAt.EqAt.bool_none a
    | bl b => cases rx; exact SeqAt.EqAt.bool_bool a b
    | int b => obtain ⟨t, rfl⟩ := rx; exact SeqAt.EqAt.bool_int a b t
    | str b => obtain ⟨t, rfl⟩ := rx; exact SeqAt.EqAt.bool_str a b t
    | _ => exact absurd (show false = true from fx) Bool.false_ne_true
  | int a =>
    obtain ⟨t', rfl⟩ := ry
    cases x with
    | non => cases rx; exact SeqAt.EqAt.int_none a t'
    | bl b => cases rx; exact SeqAt.EqAt.int_bool a t' b
    | int b => obtain ⟨t, rfl⟩ := rx; exact SeqAt.EqAt.int_int a t' b t
    | str b => obtain ⟨t, rfl⟩ := rx; exact SeqAt.EqAt.int_str a t' b t
    | _ => exact absurd (show false = true from fx) Bool.false_ne_true
  | str a =>
    obtain ⟨t', rfl⟩ := ry
    cases x with
    | non => cases rx; exact SeqAt.EqAt.str_none a t'
    | bl b => cases rx; exact SeqAt.EqAt.str_bool a t' b
    | int b => obtain ⟨t, rfl⟩ := rx; exact SeqAt.EqAt.str_int a t' b t
    | str b => obtain ⟨t, rfl⟩ := rx; exact SeqAt.EqAt.str_str a t' b t
    | _ => exact absurd (show false = true from fx) Bool.false_ne_true
  | _ => exact absurd (show false = true from fy) Bool.false_ne_true
/-- the items' answers, read off the values (a value's own answer does not lean on its token) -/
def eqU (x : V) (u : Value) : Bool := match u with
  | .none => eqV .non x
  | .bool b => eqV (.bl b) x
  | .int i _ => eqV (.int i) x
  | .str z _ => eqV (.str z) x
  | _ => false
theorem eqU_of {x y : V} {u : Value} (r : RelV y u) (f : flatV y = true) : eqU x u = eqV y x := by
  cases y with
  | non => cases r; rfl
  | bl b => cases r; rfl
  | int i => obtain ⟨t, rfl⟩ := r; rfl
  | str z => obtain ⟨t, rfl⟩ := r; rfl
  | _ => exact absurd (show false = true from f) Bool.false_ne_true
theorem any_eqU {x : V} : ∀ {xs : List V} {us : List Value}, Vals xs us → xs.all flatV = true → us.any (eqU x) = xs.any fun y => eqV y x
  | _, _, .nil, _ => rfl
  | y :: xs, u :: us, .cons r t, f => by
    rw [List.all_cons, Bool.and_eq_true] at f
    rw [List.any_cons, List.any_cons, eqU_of r f.1, any_eqU t f.2]
theorem mem_eqAt {A : Around} {s : Shared} {x : V} {v : Value} (rx : RelV x v) (fx : flatV x = true) : ∀ {xs : List V} {us : List Value}, Vals xs us → xs.all flatV = true → ∀ u ∈ us, SeqAt.EqAt A s u v (eqU x u)
  | _, _, .nil, _ => fun u hu => by cases hu
  | y :: xs, u :: us, .cons r t, f => fun u' hu => by
    rw [List.all_cons, Bool.and_eq_true] at f
    rcases List.mem_cons.mp hu with rfl | hu
    · rw [eqU_of r f.1]; exact eqAt_V r rx f.1 fx
    · exact mem_eqAt rx fx t f.2 u' hu
def inV (x : V) (xs : List V) : Bool := xs.any fun y => eqV y x
/-- x in a list or tuple of flat items -/
def rIn (K : PySem.W.Frag) (neg : Bool) : R2 := fun x y H Q => ∃ p xs, y = .ref p ∧ (SqL K H p xs ∨ SqT K H p xs) ∧ flatV x = true ∧ xs.all flatV = true ∧ Q (.bl (if neg then !inV x xs else inV x xs)) H
theorem op_in_seq : OpR X (compareOp .In) (rIn X.K false) := by
  intro pins s σ H x y v u Q I rx ry h
  obtain ⟨p, xs, rfl, hq, fx, fs, q⟩ := h
  cases ry
  rcases hq with hq | hq
  · obtain ⟨its, r, pl, hz⟩ := I.list hq
    refine SeqAt.in_listAt (eqU x) pl.isList (fun w hw => mem_eqAt rx fx r fs w (by simpa using hw)) ⟨.bl _, H, I, rfl, ?_⟩
    rw [show its.toArray.any (eqU x) = its.any (eqU x) by simp, any_eqU r fs]
    exact q
  · obtain ⟨its, r, pl, hz⟩ := I.tuple hq
    refine SeqAt.in_tupleAt (eqU x) pl (fun w hw => mem_eqAt rx fx r fs w (by simpa using hw)) ⟨.bl _, H, I, rfl, ?_⟩
    rw [show its.toArray.any (eqU x) = its.any (eqU x) by simp, any_eqU r fs]
    exact q
theorem op_notIn_seq : OpR X (compareOp .NotIn) (rIn X.K true) := by
  intro pins s σ H x y v u Q I rx ry h
  obtain ⟨p, xs, rfl, hq, fx, fs, q⟩ := h
  cases ry
  rcases hq with hq | hq
  · obtain ⟨its, r, pl, hz⟩ := I.list hq
    refine SeqAt.notIn_listAt (eqU x) pl.isList (fun w hw => mem_eqAt rx fx r fs w (by simpa using hw)) ⟨.bl _, H, I, rfl, ?_⟩
    rw [show its.toArray.any (eqU x) = its.any (eqU x) by simp, any_eqU r fs]
    exact q
  · obtain ⟨its, r, pl, hz⟩ := I.tuple hq
    refine SeqAt.notIn_tupleAt (eqU x) pl (fun w hw => mem_eqAt rx fx r fs w (by simpa using hw)) ⟨.bl _, H, I, rfl, ?_⟩
    rw [show its.toArray.any (eqU x) = its.any (eqU x) by simp, any_eqU r fs]
    exact q
/-! ### len, list(x), tuple(x) of any list or tuple that is read -/
theorem call_len_seq : CallR X (.builtin "len") (fun xs H Q => ∃ p ys, xs = [.ref p] ∧ (SqL X.K H p ys ∨ SqT X.K H p ys) ∧ Q (.int ys.length) H) := by
  intro pins s σ H xs us Q I r h
  obtain ⟨p, ys, rfl, hq, q⟩ := h
  obtain ⟨u, rfl, rx⟩ := vals1 r
  cases rx
  have hn := line63
  rcases hq with hq | hq
  · obtain ⟨its, r', pl, hz⟩ := I.list hq
    have hlen := r'.length
    exact Calls.call_len_list pl.isList (by simp only [List.size_toArray] <;> omega) ⟨.int ys.length, H, I.tok _, ⟨s.toks + 1, by rw [List.size_toArray, hlen]⟩, q⟩
  · obtain ⟨its, r', pl, hz⟩ := I.tuple hq
    have hlen := r'.length
    exact len_tuple pl (by simp only [List.size_toArray] <;> omega) ⟨.int ys.length, H, I.tok _, ⟨s.toks + 1, by rw [List.size_toArray, hlen]⟩, q⟩
theorem call_tuple_of : CallR X (.type "tuple") (fun xs H Q => ∃ p ys, xs = [.ref p] ∧ ((SqL X.K H p ys ∧ ∀ l, H l = none → Q (.ref l) (upd H l (.tup ys))) ∨ (SqT X.K H p ys ∧ Q (.ref p) H))) := by
  intro pins s σ H xs us Q I r h
  obtain ⟨p, ys, rfl, h⟩ := h
  obtain ⟨u, rfl, rx⟩ := vals1 r
  cases rx
  rcases h with ⟨hq, q⟩ | ⟨hq, q⟩
  · obtain ⟨its, r', pl, hz⟩ := I.list hq
    have hlen := r'.length
    refine call_tuple_list pl.isList (fun h' kp => ?_) (by simp only [List.size_toArray] <;> omega)
    have I1 : Inv X pins σ H { s with heap := h' } := I.kept (t' := s.toks) kp
    have I2 : Inv X pins σ (upd H h'.objs.size (.tup ys)) { s with heap := h'.push { cls := .type "tuple", data := .seq its.toArray } } :=
      I1.laid (t' := s.toks) (fun b o e => Heap.get?_push_of_some _ e) (Nat.le_refl _) (show ObjOk X.prog X.w _ _ _ (.tup ys) from ⟨hz, its, r', IsTup.new _ _⟩)
    exact ⟨.ref h'.objs.size, _, I2, rfl, q _ (I1.hok.fresh (Nat.le_refl _))⟩
  · obtain ⟨its, r', pl, hz⟩ := I.tuple hq
    exact call_tuple_same pl ⟨.ref p, H, I, rfl, q⟩

/-! ### the call of a builtin's method: o.m(..) -/
/-- the value is of that builtin type -/
def tyV (K : PySem.W.Frag) (T : String) (x : V) (H : Hp) : Prop := match x with
  | .str _ => T = "str"
  | .int _ => T = "int"
  | .ref p => (T = "list" ∧ ∃ xs, SqL K H p xs) ∨ (T = "tuple" ∧ ∃ o, K.lookup p = some o ∧ o.cls = .type "tuple" ∧ o.dict = none) ∨
      (T = "dict" ∧ ∃ kvs, H p = some (.dK kvs)) ∨ (T = "set" ∧ ∃ S n, H p = some (.set S n))
  | _ => False
theorem tyV_is {pins : List (Addr × Obj)} {σ : St} {H : Hp} {s : Shared} {T : String} {x : V} {v : Value} (I : Inv X pins σ H s) (r : RelV x v) (ty : tyV X.K T x H) :
    s.TypeIs v T ∧ ∀ a, v = .ref a → ∃ ob, s.heap.get? a = some ob ∧ ob.dict = none := by
  cases x with
  | str z =>
    obtain ⟨t, rfl⟩ := r
    cases (show T = "str" from ty)
    exact ⟨typeIs_str s z t, fun _ e => nomatch e⟩
  | int i =>
    obtain ⟨t, rfl⟩ := r
    cases (show T = "int" from ty)
    exact ⟨typeIs_int s i t, fun _ e => nomatch e⟩
  | ref p =>
    cases r
    rcases ty with ⟨rfl, xs, hq⟩ | ⟨rfl, o, hk, hc, hd⟩ | ⟨rfl, hk⟩ | ⟨rfl, S, n, hk⟩
    · obtain ⟨its, _, pl, _⟩ := I.list hq
      refine ⟨pl.isList.typeIs, fun a e => ?_⟩
      cases e
      obtain ⟨o, n, e, c, hd, _⟩ := pl
      exact ⟨o, e, hd⟩
    · refine ⟨⟨o, I.kIn p o hk, hc⟩, fun a e => ?_⟩
      cases e
      exact ⟨o, I.kIn _ o hk, hd⟩
    · have z : ∃ o, s.heap.get? p = some o ∧ o.ExactDict := by
        obtain ⟨kvs, hk⟩ := hk
        obtain ⟨_, _, _, _, o, _, _, e, ex, _⟩ := I.hok p _ hk
        exact ⟨o, e, ex⟩
      obtain ⟨o, e, ex⟩ := z
      refine ⟨⟨o, e, ex.1⟩, fun a e2 => ?_⟩
      cases e2
      exact ⟨o, e, ex.2.1⟩
    · obtain ⟨o, _, _, _, e, ex, _⟩ := I.hok p _ hk
      refine ⟨⟨o, e, ex.1⟩, fun a e2 => ?_⟩
      cases e2
      exact ⟨o, e, ex.2.1⟩
  | _ => exact False.elim ty
def tBM (K : PySem.W.Frag) (T : String) (r : V → List V → Hp → VK → Prop) (to : TE) (t : TA) : TE := fun σ H Q => to σ H fun x H1 => tyV K T x H1 ∧ t σ H1 fun xs H2 => r x xs H2 Q
variable {o e : Expr} {es : List Expr} {to : TE} {t : TA} {name : Str} {apos cpos : Pos} {T id : String} {r : V → List V → Hp → VK → Prop}
theorem pe_bm (pa : PlainAttrs T) (slot : Slot T name id) (hty : typeOf (.builtin id) = pure (.type "method_descriptor")) (hm : MtR X id r) (ho : PE X o to) (ha : PA X (e :: es) t)
    (hbase : attributeBase o name X.env (eval o X.env) = eval o X.env := by rfl)
    (hfew : ((backTo cpos (starEach (e :: es) X.env)).all (fun x => !x.1) && (backToKw cpos (keywordEach [] X.env)).all (fun x => x.1.isSome)
      && decide ((e :: es).length + ([] : List Keyword).length + (if ([] : List Keyword).isEmpty then 0 else 1) < 30)) = true := by rfl)
    (hline : (apos.endLine == cpos.line) = true := by rfl) (hs : starEach (e :: es) X.env = (false, eval e X.env) :: starEach es X.env := by rfl) (hplain : (backTo cpos (starEach es X.env)).any (·.1) = false := by rfl) :
    PE X (.Call (.Attribute o name apos) (e :: es) [] cpos) (tBM X.K T r to t) := by
  intro pins s σ H Q I h
  refine wpAny_Call_method_late hbase hfew hline rfl (thn (ho pins s σ H _ I h) fun v s1 ⟨x, H1, I1, r1, ty, q1⟩ => ?_)
  obtain ⟨h1, h2⟩ := tyV_is I1 r1 ty
  refine ⟨T, id, pa, slot, hty, h1, h2, ?_⟩
  have hA := ha cpos pins s1 σ H1 _ I1 q1
  rw [hs] at hA ⊢
  refine Calls.callWith_builtin (by show (false || (backTo cpos (starEach es X.env)).any (·.1)) = false; rw [hplain] <;> rfl) (Calls.evalArgs_plain ?_)
  exact thn hA fun us s2 ⟨vs, H2, I2, r2, q2⟩ => hm pins s2 σ H2 x vs v us Q I2 r1 r2 q2
/- xs.append(e), list.index on a module's tuple .. are MtR facts of 06m -/
end
end L2

namespace L2
open PySem PySem.Spec PyProof.Rows

def MtM (X : Cx) (id : String) (r : V → List V → Hp → VK → Prop) : Prop :=
  ∀ (pins : List (Addr × Obj)) (s : Shared) (σ : St) (H : Hp) (x : V) (xs : List V) (v : Value) (us : List Value) (Q : VK), Inv X pins σ H s → RelV x v → Vals xs us → r x xs H Q →
    wpAny (model X.prog X.w) X.A (call (.builtin id) (v :: us)) (EP X pins σ Q) X.xe s

/-! ### lists of values -/
theorem Vals.one : ∀ {x : V} {us : List Value}, Vals [x] us → ∃ u, us = [u] ∧ RelV x u
  | _, _, .cons r .nil => ⟨_, rfl, r⟩
section
variable {X : Cx} {pins : List (Addr × Obj)} {σ : St} {H : Hp} {s : Shared} {l b : Addr} {xs ys zs : List V}

/-! ### the two steps: a tracked list is rewritten, a new list is laid -/
theorem Inv.lset {its its' : List Value} {n : Nat} {f : Array Value → Array Value} {t' : Nat} (I : Inv X pins σ H s) (hH : H l = some (.lst xs))
    (e : s.heap.get? l = some { cls := .type "list", data := .seq its.toArray n }) (hf : f its.toArray = its'.toArray) (hv : Vals ys its') (hz : ys.length ≤ sizeLine) :
    Inv X pins σ (upd H l (.lst ys)) { s with heap := s.heap.update l (Obj.mapSeq f), toks := t' } := by
  have q := PySem.IsL.update e f
  rw [hf] at q
  refine I.write (x := l) (e := l) (by rw [hH]; exact trivial) (.inl rfl) (fun b' u hb hu => (Heap.get?_update_other s.heap (Obj.mapSeq f) (Ne.symm hb)).trans hu) ⟨_, q⟩ ?_
  exact ⟨hz, its', _, hv, q⟩
theorem Inv.lnew {its : List Value} {t' : Nat} (I : Inv X pins σ H s) (hv : Vals ys its) (hz : ys.length ≤ sizeLine) :
    Inv X pins σ (upd H s.heap.objs.size (.lst ys)) { s with heap := s.heap.push { cls := .type "list", data := .seq its.toArray }, toks := t' } :=
  I.laid (fun _ _ q => Heap.get?_push_of_some _ q) (Nat.le_refl _) ⟨hz, its, 0, hv, Heap.get?_push_size _ rfl⟩
theorem Inv.fresh (I : Inv X pins σ H s) : H s.heap.objs.size = none := I.hok.fresh (Nat.le_refl _)
theorem Inv.lstM (I : Inv X pins σ H s) (hH : H l = some (.lst xs)) : xs.length ≤ sizeLine ∧ ∃ (its : List Value) (n : Nat), Vals xs its ∧ xs.length = its.length ∧ s.heap.get? l = some { cls := .type "list", data := .seq its.toArray n } := by
  obtain ⟨z, its, n, r, e⟩ := I.hok l _ hH
  exact ⟨z, its, n, r, r.length, e⟩

theorem notLongL {n : Nat} (h : n ≤ sizeLine) : Builtin.List.listTooLong n = false := by
  unfold Builtin.List.listTooLong
  exact decide_eq_false (by omega)
end

section
variable {X : Cx}

/-! ### methods -/
def rAppend : V → List V → Hp → VK → Prop := fun x vs H Q => ∃ l xs y, x = .ref l ∧ vs = [y] ∧ H l = some (.lst xs) ∧ xs.length < sizeLine ∧ Q .non (upd H l (.lst (xs ++ [y])))
theorem mt_append : MtM X "list.append" rAppend := by
  intro pins s σ H x vs v us Q I rx rv h
  obtain ⟨l, xs, y, rfl, rfl, hH, hz, q⟩ := h
  cases rx
  obtain ⟨u, rfl, ru⟩ := rv.one
  obtain ⟨z, its, n, r, hl, e⟩ := I.lstM hH
  refine call_meets F.slot_list_append ⟨_, e, rfl⟩ F.entry_list_append (F.args_list_append_2 _ _) (PySem.list_append l its.toArray n u (by rw [List.size_toArray]; omega)) ⟨e, ?_⟩
  refine ⟨.non, _, I.lset (its' := its ++ [u]) hH e (by simp) (r.append (.cons ru .nil)) ?_, rfl, q⟩
  rw [List.length_append, List.length_singleton]
  omega

def rExtend : V → List V → Hp → VK → Prop := fun x vs H Q => ∃ l b xs zs, x = .ref l ∧ vs = [.ref b] ∧ H l = some (.lst xs) ∧ H b = some (.lst zs) ∧ xs.length + zs.length ≤ sizeLine ∧ Q .non (upd H l (.lst (xs ++ zs)))
theorem mt_extend : MtM X "list.extend" rExtend := by
  intro pins s σ H x vs v us Q I rx rv h
  obtain ⟨l, b, xs, zs, rfl, rfl, hH, hB, hz, q⟩ := h
  cases rx
  obtain ⟨u, rfl, ru⟩ := rv.one
  cases ru
  obtain ⟨z, its, n, r, hl, e⟩ := I.lstM hH
  obtain ⟨z2, its2, n2, r2, hl2, e2⟩ := I.lstM hB
  have hsz : its.toArray.size + its2.toArray.size ≤ sizeLine := by rw [List.size_toArray, List.size_toArray]; omega
  have hlong : ¬ (!its.toArray.isEmpty && Builtin.List.listTooLong (its.toArray.size + its2.toArray.size)) = true := by
    rw [notLongL hsz, Bool.and_false]
    exact Bool.false_ne_true
  refine call_meets F.slot_list_extend ⟨_, e, rfl⟩ F.entry_list_extend (F.args_list_extend_2 _ _)
    (AutoSeq1.list_extend_list_list_0 l its.toArray n b its2.toArray n2 hlong (by rw [List.size_toArray]; omega) (by omega)) ⟨e, e2, ?_⟩
  refine ⟨.non, _, I.lset (its' := its ++ its2) hH e (by simp) (r.append r2) ?_, rfl, q⟩
  rw [List.length_append]
  omega

/-! ### list + list, list += list, list * int -/
def rCat : R2 := fun x y H Q => ∃ l b xs zs, x = .ref l ∧ y = .ref b ∧ H l = some (.lst xs) ∧ H b = some (.lst zs) ∧ xs.length + zs.length ≤ sizeLine ∧ ∀ p, H p = none → Q (.ref p) (upd H p (.lst (xs ++ zs)))
theorem op_cat : OpR X (binaryOp .Add) rCat := by
  intro pins s σ H x y v u Q I rx ry h
  obtain ⟨l, b, xs, zs, rfl, rfl, hH, hB, hz, q⟩ := h
  cases rx
  cases ry
  obtain ⟨z, its, n, r, hl, e⟩ := I.lstM hH
  obtain ⟨z2, its2, n2, r2, hl2, e2⟩ := I.lstM hB
  refine PySem.P.add_list e e2 ?_ (by rw [List.size_toArray, List.size_toArray]; omega)
  have ea : its.toArray ++ its2.toArray = (its ++ its2).toArray := by simp
  rw [ea]
  exact ⟨.ref _, _, I.lnew (t' := s.toks) (r.append r2) (by rw [List.length_append]; omega), rfl, q _ I.fresh⟩
end

/-! ### xs[a:b] = ys -/
section
variable {prog : Program} {w : World} {A : Around} {E : Value → Shared → Prop} {s : Shared}
set_option maxRecDepth 100000 in
end

section
variable {X : Cx}
end
end L2

namespace Att
open PySem PySem.W PySem.Calls PyProof.Rows

/-! ### the script -/
theorem ints_of_wellAll {P : Params} {h : Heap} : ∀ (ns : List Int) (vs : List Value), WellAll P h vs (ns.map WData.int) → IntsAre vs ns := by
  intro ns
  induction ns with
  | nil =>
    intro vs w
    rw [List.map_nil] at w
    cases w
    exact .nil
  | cons n ns ih =>
    intro vs w
    rw [List.map_cons] at w
    cases w with
    | cons a b =>
      cases a
      exact .cons _ _ (ih _ b)

theorem script_of {l : OpenLaw} {n : Nat} (hn : l.most = some n) {P : Params} {h : Heap} {args : List WData} {vals : List Value}
    (hpre : l.row.toRowW.claim.pre args = true) (hwl : WellAll P h vals args) :
    ∃ a vs ns, vals = [Value.ref a] ∧ args = [WData.list (ns.map WData.int)] ∧ h.get? a = some { cls := .type "list", data := .seq vs.toArray } ∧ IntsAre vs ns ∧ ns.length ≤ n := by
  have hsh : WShape.hasAll [] args [.list .int] = true := (pre_splitW hpre).1
  have hc : l.pre.holds [] { args := args } = true := (pre_splitW hpre).2
  obtain ⟨d, r, rfl, h1, h2⟩ := hasAllW_cons hsh
  obtain rfl := hasAllW_nil h2
  obtain ⟨xs, rfl, h3⟩ := hasW_list h1
  obtain ⟨ns, rfl⟩ := items_int h3
  have hlen : ns.length ≤ n := by
    unfold OpenLaw.pre at hc
    have h4 : (WTm.not (.lt (.lit (.int (n : Int))) (.len (.arg 0)))).holds [] { args := [.list (ns.map .int)] } = true := by
      have h4 := (holds_andW hc).1
      rw [hn] at h4
      exact h4
    have h5 := condW_of h4 (w_not (w_lt w_lit (w_len_list (w_arg rfl))))
    rw [List.length_map] at h5
    refine Nat.le_of_not_lt fun q => ?_
    have q' : (n : Int) < ((ns.length : Nat) : Int) := by omega
    first
      | (rw [decide_eq_true q'] at h5; exact absurd h5 (by decide))
      | (simp at h5; omega)
  cases hwl with
  | cons w1 w2 =>
    cases w2
    cases w1 with
    | list ho hall => exact ⟨_, _, ns, rfl, rfl, ho, ints_of_wellAll ns _ hall, hlen⟩

theorem post_true (l : OpenLaw) (args : List WData) : l.row.toRowW.claim.post args (.bool true) args = true :=
  postW_of (r := l.row.toRowW) (X := (true == true))
    (show WShape.has [] (.bool true) .bool = true by first | rfl | decide | simp [WShape.has, WShape.arms, WShape.armsAll])
    (show (WTm.eq .res (.lit (.bool true))).value [] { args := args, res := some (.bool true), after := args } = some (.bool (true == true)) from w_eq_bool (w_res rfl) w_lit) rfl

/-- the same from a codeAny of the CALL (for a layer whose function contracts speak of calls) -/
theorem attach_call {l : OpenLaw} {n : Nat} {q : Program} {loose : List Str} {XP : (Str → Option Value) → Heap → Prop} {YP : World → Heap → Prop} {d : DefRec}
    (hn : l.most = some n) (hdf : d.params.defaults = [])
    (call : ∀ (w : World) (s₀ s₁ : Shared) (mg mb : Str → Option Value) (fa : Addr) (o : Obj) (pm cd doc : Value) (a : Addr) (vs : List Value) (ns : List Int),
      Ground q loose [] XP w s₀ mg mb s₁.heap → YP w s₁.heap →
      s₁.heap.get? fa = some o → o.data = .func (docDef d.name d.params d.body d.scope pm cd doc) → s₁.heap.CodeRec cd d.name → mg d.name = some (.ref fa) →
      s₁.heap.get? a = some { cls := .type "list", data := .seq vs.toArray } → IntsAre vs ns → ns.length ≤ n → s₁.gens = #[] →
      codeAny (model l.prog w) callerA (.call (.ref fa) ⟨[.ref a], []⟩) (fun r s' => r = .ok (.ret (.bool true)) ∧ OldK s₁.heap s'.heap ∧ s'.os = s₁.os ∧ AllBare s'.gens) s₁) :
    WalkO q loose XP YP l.row.toRowW d [] (fun f vs => PySem.call f vs) := by
  intro w s₀ s₁ mg mb G Y fa o pm cd doc dV kV ho hd hcd hD hmg hg args vals as hpre hlay hrd hwl hlo
  obtain rfl : dV = .none := Dflts.none hD hdf
  obtain rfl : kV = .none := Dflts.noKw hD
  obtain ⟨a, vs, ns, rfl, rfl, hobj, hints, hlen⟩ := script_of hn hpre hwl
  refine enter_call (codeAny_mono (call w s₀ s₁ mg mb fa o pm cd doc a vs ns G Y ho (fd_plain hd) hcd hmg hobj hints hlen hg) fun r s' hq => ?_)
  obtain ⟨rfl, h2, h3, h4⟩ := hq
  exact ⟨.inl ⟨.bool true, .bool true, [], rfl, fun _ => rfl, .bool true, post_true l _, fun _ => ⟨List.Pairwise.nil, fun _ hm => (nomatch hm)⟩⟩, h2, h3, h4⟩

/-! ### rules over ANY heap (no ledger) from facts about the written part K: the library's own take a ledger (News) for what they write -/
section
variable {prog : Program} {w : World} {A : Around} {E : Value → Shared → Prop} {s : Shared} {K : Frag}

def ledger (h : Heap) (L d : Addr) : List (Addr × Obj) := (List.range h.objs.size).filterMap fun a => if a = L ∨ a = d then none else (h.get? a).map fun o => (a, o)
end
end Att

namespace L2
open PySem PySem.Spec PyProof.Rows

theorem vals_ints : ∀ {vs : List Value} {ns : List Int}, IntsAre vs ns → Vals (ns.map V.int) vs
  | _, _, .nil => .nil
  | _, _, .cons n t h => .cons ⟨t, rfl⟩ (vals_ints h)

/-- nothing is tracked but the script, known to the object (or it is an object of the module) -/
def Only (H : Hp) : Prop := ∀ b, H b = none ∨ ∃ o xs, H b = some (.frz o (.lst xs))

/-- THE HEAD: the law's promise, at the heap behind the top. F, the promise of the law's def, may use that base is part of the heap (so K.In base, base.Ns mainGlobals mg stand in Mod) -/
theorem law_call {P : Program} {w : World} {K : PySem.W.Frag} {mg mb : Str → Option Value} {CX : CXT} {k : Nat} {fa a : Addr} {fd : FuncData} {x : Str} {sp : Sp} {s₁ : Shared} {vs : List Value} {ns : List Int}
    (KX : K.In s₁.heap) (hns : s₁.heap.Ns mainGlobals mg) (hb : s₁.heap.Ns builtinsNs mb) (hbb : ∀ x : Str, x ≠ "__name__" → mb x = bootBuiltins x) (hlim : s₁.heap.NoLimit) (hg : s₁.gens = #[])
    (ha : s₁.heap.get? a = some { cls := .type "list", data := .seq vs.toArray }) (hi : IntsAre vs ns) (hl : ns.length ≤ sizeLine) (hr : Room k callerA)
    (F : ∀ base : Heap, K.In base → base.Ns mainGlobals mg → FnOk P w K mg base CX k fa fd [x] sp) (hbind : ∀ (s : Shared) (u : Value), BindsTo s fd ⟨[u], []⟩ [(x, u)])
    (hsp : ∀ H : Hp, Only H → SqL K H a (ns.map V.int) → sp [.ref a] H (fun v _ => v = .bl true) fun _ _ _ => False)
    (hCX : ∀ H e s', CX [] H s₁ (fun _ _ _ => False) e s' → False) :
    codeAny (model P w) callerA (.call (.ref fa) ⟨[.ref a], []⟩) (fun r s' => r = .ok (.ret (.bool true)) ∧ OldK s₁.heap s'.heap ∧ s'.os = s₁.os ∧ AllBare s'.gens) s₁ := by
  have rv := vals_ints hi
  have lenV := hi.length
  -- from an abstract heap in which nothing but the script may be tracked
  have core : ∀ H : Hp, Only H → SqL K H a (ns.map V.int) → HOk P w H s₁.heap → (∀ b, H b ≠ none → b = a) → (H a ≠ none → K.lookup a = none) →
      codeAny (model P w) callerA (.call (.ref fa) ⟨[.ref a], []⟩) (fun r s' => r = .ok (.ret (.bool true)) ∧ OldK s₁.heap s'.heap ∧ s'.os = s₁.os ∧ AllBare s'.gens) s₁ := by
    intro H hO hS hok hA hK
    have base_of : ∀ {b : Addr} {o : Obj}, s₁.heap.get? b = some o → H b = none → (hidT s₁.heap H).get? b = some o := fun e n => hidT_get e n
    have noA : ∀ {b : Addr} {o : Obj} {es : Array DictEntry} {ep : Nat}, s₁.heap.get? b = some o → o.data = .dict es ep → H b = none := fun {b o es ep} e d => by
      cases q : H b with
      | none => rfl
      | some u =>
        have e' : b = a := hA b (by rw [q]; simp)
        subst e'
        rw [ha] at e; cases e
        have d' : Data.seq vs.toArray _ = Data.dict es ep := d
        cases d'
    have nsK : ∀ {b : Addr} {m : Str → Option Value}, s₁.heap.Ns b m → (hidT s₁.heap H).Ns b m := fun {b m} ⟨o, es, ep, e, d, r⟩ => ⟨o, es, ep, base_of e (noA e d), d, r⟩
    have hKb : K.In (hidT s₁.heap H) := fun b o e => base_of (KX b o e) (by
      cases q : H b with
      | none => rfl
      | some u =>
        have e' : b = a := hA b (by rw [q]; simp)
        subst e'
        rw [hK (by rw [q]; simp)] at e; cases e)
    have hM : Mod K mg (hidT s₁.heap H) := ⟨hKb, nsK hns, ⟨mb, nsK hb, hbb⟩, let ⟨mc, h1, h2⟩ := hlim; ⟨mc, nsK h1, h2⟩⟩
    have e0 : Env0 P w K mg (hidT s₁.heap H) callerA [] s₁ H := ⟨rfl, hM, fun b o e => of_hidT e, Nat.le_of_eq (hidT_size _ _), trivial, fun b hb => absurd (show b ∈ ([] : List Addr) from hb) (by simp), hok, .of_eq hg⟩
    refine codeAny_mono ((F _ hKb (nsK hns)).run callerA [] s₁ H ⟨[.ref a], []⟩ [.ref a] [.ref a] _ _ hr e0 (hbind s₁ (.ref a)) (.cons rfl .nil) (hsp H hO hS)) fun r s' h => ?_
    cases r with
    | error e => exact (hCX H e s' h).elim
    | ok fl =>
      cases fl with
      | next => exact False.elim h
      | brk => exact False.elim h
      | cont => exact False.elim h
      | ret u =>
        obtain ⟨v, H', os, bare, un, hok', r', q⟩ := h
        have q' : v = .bl true := q
        subst q'
        obtain rfl : u = Value.bool true := r'
        refine ⟨rfl, OldK.of_keep fun b o e => ?_, os, bare⟩
        cases q : H b with
        | none => exact un.keep b o e q (by intro z; exact absurd (show b ∈ ([] : List Addr) from z) (by simp)) (by simp)
        | some u =>
          rcases hO b with z | ⟨ob, xs, z⟩
          · rw [q] at z; cases z
          · have z2 := un.frzs b ob _ z
            obtain ⟨e1, _⟩ := hok b _ z
            obtain ⟨e2, _⟩ := hok' b _ z2
            rw [e] at e1; cases e1
            exact e2
  cases hk : K.lookup a with
  | some o =>
    -- the script is one of the module's own objects
    have e := KX a o hk
    rw [ha] at e
    cases e
    refine core (fun _ => none) (fun _ => .inl rfl) (.inr ⟨_, vs.toArray, _, hk, rfl, rfl, rfl, by rw [List.size_toArray, lenV]; exact hl, by simpa using rv⟩) (fun b u z => by have z' : (none : Option HO) = some u := z; cases z') (fun b z => absurd rfl z) fun z => absurd rfl z
  | none =>
    refine core (fun b => if b = a then some (.frz { cls := .type "list", data := .seq vs.toArray } (.lst (ns.map V.int))) else none) (fun b => ?_) (.inl (.inr ⟨{ cls := .type "list", data := .seq vs.toArray }, if_pos rfl⟩)) (fun b u z => ?_) (fun b z => ?_) fun _ => hk
    · by_cases hb : b = a
      · exact .inr ⟨_, _, if_pos hb⟩
      · exact .inl (if_neg hb)
    · by_cases hb : b = a
      · have z' := (if_pos hb).symm.trans z
        cases z'
        subst hb
        exact ⟨ha, by rw [List.length_map]; exact hl, vs, _, rv, ha⟩
      · have z' := (if_neg hb).symm.trans z
        cases z'
    · by_cases hb : b = a
      · exact hb
      · exact absurd (if_neg hb) z
end L2

namespace L2
open PySem PySem.Spec PyProof.Rows

/-- the goal that k_head leaves (case hc), from the law's promise. F gives the function object fd (K's own) once, then the promise over every base -/
theorem walk_of {l : PySem.W.OpenLaw} {n k : Nat} {q : Program} {loose : List Str} {XP : (Str → Option Value) → Heap → Prop} {YP : World → Heap → Prop} {d : DefRec} {K : Params → PySem.W.Frag} {CX : World → CXT} {sp : World → Sp} {x : Str}
    (hn : l.most = some n) (hn2 : n ≤ sizeLine) (hdf : d.params.defaults = []) (hr : Room k callerA)
    (hY : ∀ (w : World) (h : Heap), YP w h → (K w.params).In h)
    (F : ∀ (w : World) (mg : Str → Option Value) (fa : Addr) (h : Heap), (K w.params).In h → h.Ns mainGlobals mg → mg d.name = some (.ref fa) →
      ∃ fd : FuncData, (∀ (s : Shared) (u : Value), BindsTo s fd ⟨[u], []⟩ [(x, u)]) ∧
        ∀ base : Heap, (K w.params).In base → base.Ns mainGlobals mg → FnOk l.prog w (K w.params) mg base (CX w) k fa fd [x] (sp w))
    (hsp : ∀ (w : World) (H : Hp) (a : Addr) (ns : List Int), ns.length ≤ n → Only H → SqL (K w.params) H a (ns.map V.int) → sp w [.ref a] H (fun v _ => v = .bl true) fun _ _ _ => False)
    (hCX : ∀ (w : World) (H : Hp) (s : Shared) (e : Value) (s' : Shared), CX w [] H s (fun _ _ _ => False) e s' → False) :
    PySem.W.WalkO q loose XP YP l.row.toRowW d [] (fun f vs => PySem.call f vs) := by
  refine Att.attach_call hn hdf fun w s₀ s₁ mg mb fa o pm cd doc a vs ns G Y ho hd hcd hmg hobj hints hlen hg => ?_
  have KX := hY w _ Y
  obtain ⟨fd, hb, hF⟩ := F w mg fa _ KX G.T.g hmg
  exact law_call KX G.T.g G.T.b G.T.builtins G.T.nolimit hg hobj hints (Nat.le_trans hlen hn2) hr hF hb (fun H hO hS => hsp w H a ns hlen hO hS) fun H e s' => hCX w H s₁ e s'
end L2



/-! SHORT WORDS over the layer: a def of the text, its body, what a loop and a test want. -/
namespace L2
open PySem PySem.Spec PyProof.Rows

/-! ### the text by places -/
/-- the j-th statement of a class's body -/
def inClass (s : Stmt) (j : Nat) : Stmt := match s with
  | .ClassDef _ _ _ body _ _ _ _ _ _ _ => body.getD j (.Pass ⟨0, 0, 0, 0⟩)
  | _ => .Pass ⟨0, 0, 0, 0⟩
def defArgs (s : Stmt) : Arguments := match s with
  | .FunctionDef _ a _ _ _ _ _ _ _ _ => a
  | _ => { posonlyargs := [], args := [], vararg := none, kwonlyargs := [], kw_defaults := [], kwarg := none, defaults := [] }
def defBody (s : Stmt) : List Stmt := match s with
  | .FunctionDef _ _ b _ _ _ _ _ _ _ => b
  | _ => []
def defScope (s : Stmt) : Scope := match s with
  | .FunctionDef _ _ _ _ _ _ sc _ _ _ => sc
  | _ => { kind := .function, names := [], isGenerator := false, isCoroutine := false }

/-! ### no exception leaves a def -/
abbrev CX0 : CXT := fun _ _ _ _ _ _ => False
abbrev E0 : XK := fun _ _ _ => False
theorem pass0 {X : Cx} : Passes CX0 X E0 := fun _ _ _ _ _ _ _ h => h.elim

/-! ### a def (or method) of the text as it stands behind the top -/
structure Fun (K : PySem.W.Frag) (x qual : Str) (st : Stmt) (f : Addr) (fd : FuncData) : Prop where
  ex : ∃ (oc : Value) (od : Option Addr) (kV doc pm : Value) (an : Option Addr) (cdv ct : Value) (osl : Array (Option Value)),
    fd = PySem.W.fnOf x qual (defArgs st) (defBody st) (defScope st) .none kV doc pm an cdv ct ∧ K.lookup f = some ⟨oc, od, .func fd, osl⟩ ∧ PySem.W.codeIn K cdv qual = true
  kp : PySem.W.keepIn K (.ref f) = true
section
variable {P : Program} {w : World} {K : PySem.W.Frag} {mg : Str → Option Value} {base : Heap}
/-- THE RULE for a def: its body as a term of rules, and the reading of that term -/
theorem Fun.ok {x qual : Str} {st : Stmt} {f : Addr} {fd : FuncData} {N ps : List Str} {k : Nat} {sp : Sp} (F : Fun K x qual st f fd) (S : FnScope N ps (defScope st)) (len : ∀ vs H Q E, sp vs H Q E → vs.length = ps.length)
    (hbody : ∀ (cdv : Value) (A : Around) (outer : List Env) (s : Shared) (H : Hp) (vs : List V) (Q : VK) (E : XK), Room k (A.deeper (envOfC qual (defScope st) s.heap.objs.size f cdv)) → sp vs H Q E →
      ∃ t, PSs (cxOf CX0 P w K mg base N qual (defScope st) f cdv A outer s H E).nox (defBody st) t ∧ t { nx := fun _ H' => Q .non H', rt := Q } (start N vs) H) : FnOk P w K mg base CX0 (k + 1) f fd ps sp := by
  obtain ⟨oc, od, kV, doc, pm, an, cdv, ct, osl, rfl, lk, hcd⟩ := F.ex
  refine fn_of lk hcd S len fun A outer s H vs Q E hr hsp => ?_
  obtain ⟨t, h, q⟩ := hbody cdv A outer s H vs Q E hr hsp
  exact ⟨t, h.nox, q⟩
theorem fun_mk {x qual : Str} {st : Stmt} {f : Addr} {oc : Value} {od an : Option Addr} {osl : Array (Option Value)} {kV doc pm cdv ct : Value} (l : K.lookup f = some ⟨oc, od, .func (PySem.W.fnOf x qual (defArgs st) (defBody st) (defScope st) .none kV doc pm an cdv ct), osl⟩)
    (c : PySem.W.codeIn K cdv qual = true) (k : PySem.W.keepIn K (.ref f) = true) : Fun K x qual st f (PySem.W.fnOf x qual (defArgs st) (defBody st) (defScope st) .none kV doc pm an cdv ct) := ⟨⟨oc, od, kV, doc, pm, an, cdv, ct, osl, rfl, l, c⟩, k⟩
end
/-! ### expressions in short: the name that stands in the i-th slot -/
section
variable {X : Cx}
theorem pv (i : Nat) {x : Str} {pos : Pos} (hN : X.N[i]? = some x := by rfl) (hv : Vis X.env.scope x := by first | exact Or.inl rfl | exact Or.inr (Or.inl rfl) | exact Or.inr (Or.inr rfl)) (hd : (x == ("__debug__" : Str)) = false := by decide)
    (hcd : (x == ("__classdict__" : Str)) = false := by decide) : PE X (.Name x pos) (tVar i) := pe_var hN hv hd hcd
end

/-! ### tests -/
theorem iteF {A B : Prop} (h : B) : if false = true then A else B := by
  rw [if_neg Bool.false_ne_true]
  exact h
theorem iteT {A B : Prop} (h : A) : if true = true then A else B := by
  rw [if_pos rfl]
  exact h
/-! ### heaps -/
/-- all that was tracked is as it was -/
def Same (H H' : Hp) : Prop := ∀ b o, H b = some o → H' b = some o
theorem Same.refl (H : Hp) : Same H H := fun _ _ h => h
theorem Same.trans {H H1 H2 : Hp} (a : Same H H1) (b : Same H1 H2) : Same H H2 := fun c o h => b c o (a c o h)
theorem Same.seq {K : PySem.W.Frag} {H H' : Hp} {a : Addr} {xs : List V} (e : Same H H') (h : SqL K H a xs) : SqL K H' a xs := by
  rcases h with (h | ⟨o, h⟩) | h
  · exact .inl (.inl (e _ _ h))
  · exact .inl (.inr ⟨o, e _ _ h⟩)
  · exact .inr h

end L2
namespace L2
open PySem PySem.Spec PyProof.Rows

/-! ### what a call made and dropped may be forgotten -/
theorem ObjOk.swap {P : Program} {w : World} {H H' : Hp} {h h' : Heap} {a : Addr} {o : HO} (x : ObjOk P w H h a o) (y : ObjOk P w H' h' a o) : ObjOk P w H h' a o := by
  induction o with
  | ins C dx fs => exact ⟨x.1, y.2⟩
  | frz ob u ih => exact ⟨y.1, ih x.2 y.2⟩
  | _ => exact y
theorem HOk.forget {P : Program} {w : World} {H H' : Hp} {h h' : Heap} (a : HOk P w H h) (b : HOk P w H' h') (s : Same H H') : HOk P w H h' := fun x o e => (a x o e).swap (b x o (s x o e))
theorem Un.forget {fs ex : List Addr} {H H' : Hp} {h h' : Heap} (u : Un fs ex H H' h h') : Un fs ex H H h h' :=
  ⟨u.keep, u.slot, fun _ _ _ n _ => n, u.there, fun _ _ q => q, fun _ _ _ q => q, fun b ps q => ⟨#[], by rw [q]; simp⟩⟩
theorem FnOk.forget {P : Program} {w : World} {K : PySem.W.Frag} {mg : Str → Option Value} {base : Heap} {CX : CXT} {k : Nat} {f : Addr} {fd : FuncData} {ps : List Str} {sp sp' : Sp} (F : FnOk P w K mg base CX k f fd ps sp)
    (h : ∀ vs H Q E, sp' vs H Q E → sp vs H (fun v H' => Same H H' ∧ Q v H) E) : FnOk P w K mg base CX k f fd ps sp' where
  len := fun vs H Q E q => F.len _ _ _ _ (h _ _ _ _ q)
  run := fun A outer s H args us vs Q E hr e0 hb hv hs => by
    refine codeAny_mono (F.run A outer s H args us vs _ E hr e0 hb hv (h _ _ _ _ hs)) fun r s' q => ?_
    cases r with
    | error e => exact q
    | ok fl =>
      cases fl with
      | ret u =>
        obtain ⟨v, H', os, bare, un, hok, rv, sm, qv⟩ := q
        exact ⟨v, H, os, bare, un.forget, e0.hok.forget hok sm, rv, qv⟩
      | next => exact q
      | brk => exact q
      | cont => exact q

/-! ### a def of the text, a def that keeps a promise -/
structure Src (K : PySem.W.Frag) (mg : Str → Option Value) (x : Str) (st : Stmt) (ps : List Str) : Prop where
  ex : ∃ (f : Addr) (fd : FuncData), Fun K x x st f fd ∧ mg x = some (.ref f) ∧ ∀ us : List Value, us.length = ps.length → bindArgs fd ⟨us, []⟩ = pure (ps.zip us)
structure Def (P : Program) (w : World) (K : PySem.W.Frag) (mg : Str → Option Value) (base : Heap) (k : Nat) (x : Str) (ps : List Str) (sp : Sp) : Prop where
  ex : ∃ (f : Addr) (fd : FuncData), FnOk P w K mg base CX0 k f fd ps sp ∧ mg x = some (.ref f) ∧ PySem.W.keepIn K (.ref f) = true ∧ (∀ us : List Value, us.length = ps.length → bindArgs fd ⟨us, []⟩ = pure (ps.zip us)) ∧
    ∃ o, K.lookup f = some o ∧ o.data = .func fd
section
variable {P : Program} {w : World} {K : PySem.W.Frag} {mg : Str → Option Value} {base : Heap} {x : Str} {st : Stmt} {N ps : List Str} {k : Nat} {sp : Sp}
theorem Src.ok (S : Src K mg x st ps) (sc : FnScope N ps (defScope st)) (len : ∀ vs H Q E, sp vs H Q E → vs.length = ps.length)
    (hbody : ∀ (f : Addr) (cdv : Value) (A : Around) (outer : List Env) (s : Shared) (H : Hp) (vs : List V) (Q : VK) (E : XK), Room k (A.deeper (envOfC x (defScope st) s.heap.objs.size f cdv)) → sp vs H Q E →
      ∃ t, PSs (cxOf CX0 P w K mg base N x (defScope st) f cdv A outer s H E).nox (defBody st) t ∧ t { nx := fun _ H' => Q .non H', rt := Q } (start N vs) H) : Def P w K mg base (k + 1) x ps sp := by
  obtain ⟨f, fd, F, hm, hb⟩ := S.ex
  refine ⟨f, fd, F.ok sc len (fun cdv => hbody f cdv), hm, F.kp, hb, ?_⟩
  obtain ⟨oc, od, kV, doc, pm, an, cdv, ct, osl, e, lk, hcd⟩ := F.ex
  exact ⟨_, lk, rfl⟩
/-- .. what it made is dropped -/
theorem Src.okF (S : Src K mg x st ps) (sc : FnScope N ps (defScope st)) (len : ∀ vs H Q E, sp vs H Q E → vs.length = ps.length)
    (hbody : ∀ (f : Addr) (cdv : Value) (A : Around) (outer : List Env) (s : Shared) (H : Hp) (vs : List V) (Q : VK) (E : XK), Room k (A.deeper (envOfC x (defScope st) s.heap.objs.size f cdv)) → sp vs H Q E →
      ∃ t, PSs (cxOf CX0 P w K mg base N x (defScope st) f cdv A outer s H E).nox (defBody st) t ∧ t { nx := fun _ H' => Same H H' ∧ Q .non H, rt := fun v H' => Same H H' ∧ Q v H } (start N vs) H) : Def P w K mg base (k + 1) x ps sp := by
  obtain ⟨f, fd, F, hm, hb⟩ := S.ex
  have G : FnOk P w K mg base CX0 (k + 1) f fd ps (fun vs H R E => ∃ Q, sp vs H Q E ∧ R = fun v H' => Same H H' ∧ Q v H) :=
    F.ok sc (fun vs H R E ⟨Q, h, _⟩ => len vs H Q E h) fun cdv A outer s H vs R E hr ⟨Q, h, e⟩ => by
      subst e
      exact hbody f cdv A outer s H vs Q E hr h
  refine ⟨f, fd, G.forget fun vs H Q E h => ⟨Q, h, rfl⟩, hm, F.kp, hb, ?_⟩
  obtain ⟨oc, od, kV, doc, pm, an, cdv, ct, osl, e, lk, hcd⟩ := F.ex
  exact ⟨_, lk, rfl⟩
theorem src_mk {h : Heap} {f : Addr} {oc : Value} {od an : Option Addr} {osl : Array (Option Value)} {kV doc pm cdv ct : Value} (X : K.In h) (G : h.Ns mainGlobals mg) (a : PySem.W.nsIn K mainGlobals x = some (some (.ref f)))
    (l : K.lookup f = some ⟨oc, od, .func (PySem.W.fnOf x x (defArgs st) (defBody st) (defScope st) .none kV doc pm an cdv ct), osl⟩) (c : PySem.W.codeIn K cdv x = true) (k : PySem.W.keepIn K (.ref f) = true)
    (hb : ∀ us : List Value, us.length = ps.length → bindArgs (PySem.W.fnOf x x (defArgs st) (defBody st) (defScope st) .none kV doc pm an cdv ct) ⟨us, []⟩ = pure (ps.zip us)) : Src K mg x st ps :=
  ⟨f, _, fun_mk l c k, PySem.W.mg_of X G a, hb⟩
theorem gint_mk {h : Heap} {i : Int} {t : Tok} (X : K.In h) (G : h.Ns mainGlobals mg) (a : PySem.W.nsIn K mainGlobals x = some (some (.int i t))) : ∃ t, mg x = some (.int i t) := ⟨t, PySem.W.mg_of X G a⟩
theorem gtup_mk {h : Heap} {p : Addr} {od : Option Addr} {its : Array Value} {n : Nat} {sl : Array (Option Value)} {xs : List V} (X : K.In h) (G : h.Ns mainGlobals mg) (a : PySem.W.nsIn K mainGlobals x = some (some (.ref p)))
    (l : K.lookup p = some ⟨.type "tuple", od, .seq its n, sl⟩) (r : Vals xs its.toList) (z : its.size ≤ sizeLine) : ∃ a, mg x = some (.ref a) ∧ ∀ H, SqT K H a xs :=
  ⟨p, PySem.W.mg_of X G a, fun H => .inr ⟨_, its, n, l, rfl, rfl, z, r⟩⟩
end
/-- the goal that k_head leaves, from the law's promise -/
theorem walk_def {l : PySem.W.OpenLaw} {lv : Nat} {q : Program} {loose : List Str} {XP : (Str → Option Value) → Heap → Prop} {YP : World → Heap → Prop} {d : DefRec} {K : Params → PySem.W.Frag} {sp : PySem.W.Frag → Sp} {x : Str} {st : Stmt}
    (hn : l.most = some 63) (hdf : d.params.defaults = []) (hnm : d.name = "law") (hr : Room lv callerA)
    (hY : ∀ (w : World) (h : Heap), YP w h → (K w.params).In h)
    (F : ∀ (w : World) (mg : Str → Option Value) (h : Heap), (K w.params).In h → h.Ns mainGlobals mg →
      Src (K w.params) mg "law" st [x] ∧ ∀ base : Heap, Def l.prog w (K w.params) mg base lv "law" [x] (sp (K w.params)))
    (hsp : ∀ (K : PySem.W.Frag) (H : Hp) (a : Addr) (ns : List Int), ns.length ≤ 63 → SqL K H a (ns.map V.int) → sp K [.ref a] H (fun v _ => v = .bl true) fun _ _ _ => False) :
    PySem.W.WalkO q loose XP YP l.row.toRowW d [] (fun f vs => PySem.call f vs) := by
  refine L2.walk_of (n := 63) (k := lv) (x := x) (CX := fun _ => CX0) (sp := fun w => sp (K w.params)) hn (by decide) hdf hr hY ?_ (fun w H a ns h1 h2 h3 => hsp (K w.params) H a ns h1 h3) fun _ _ _ _ _ z => z
  intro w mg fa h KX G hmg
  obtain ⟨S, D⟩ := F w mg h KX G
  obtain ⟨f, fd, Fn, hm, hb⟩ := S.ex
  obtain ⟨oc, od, kV, doc, pm, an, cdv, ct, osl, e, lk, hcd⟩ := Fn.ex
  refine ⟨fd, fun s u => .of_eq (hb [u] rfl), fun base _ _ => ?_⟩
  obtain ⟨f', fd', ok, hm', _, _, o, lk', ho⟩ := (D base).ex
  rw [hnm, hm] at hmg
  rw [hm] at hm'
  cases hmg
  cases hm'
  rw [lk] at lk'
  cases lk'
  cases ho
  exact ok

/-! ### rules of ours -/
section
variable {X : Cx} {x : Str} {p pos : Pos} {e : Expr} {es : List Expr} {t : TA} {j k : Nat} {ps : List Str} {sp : Sp}
theorem pe_fn (D : Def X.prog X.w X.K X.mg X.base j x ps sp) (hr : Room k X.A) (ha : PA X (e :: es) t) (hg : Gl X x := by rfl) (hj : j ≤ k := by decide) (hdb : (x == ("__debug__" : Str)) = false := by decide)
    (he : starEach (e :: es) X.env = (false, eval e X.env) :: starEach es X.env := by rfl) (hpl : (backTo pos (starEach es X.env)).any (·.1) = false := by rfl) :
    PE X (.Call (.Name x p) (e :: es) [] pos) (tCall sp [] E0 t) := by
  obtain ⟨f, fd, F, hm, hk, hb, _⟩ := D.ex
  exact pe_call F (hr.mono hj) hg hm hk (.all hb) .nil pass0 ha hdb he hpl
theorem pe_gint {i : Int} (h : ∃ t, X.mg x = some (.int i t)) (hg : Gl X x := by rfl) (hd : (x == ("__debug__" : Str)) = false := by decide) : PE X (.Name x pos) (tC (.int i)) := by
  obtain ⟨t, h⟩ := h
  exact pe_glob hg h ⟨t, rfl⟩ hd
def tGT (K : PySem.W.Frag) (xs : List V) : TE := fun _ H Q => ∀ a, (∀ H, SqT K H a xs) → Q (.ref a) H
theorem pe_gtup {xs : List V} (h : ∃ a, X.mg x = some (.ref a) ∧ ∀ H, SqT X.K H a xs) (hg : Gl X x := by rfl) (hd : (x == ("__debug__" : Str)) = false := by decide) : PE X (.Name x pos) (tGT X.K xs) := by
  obtain ⟨a, h, hs⟩ := h
  intro pins s σ H Q I hq
  exact pe_glob (v := .ref a) hg h rfl hd pins s σ H Q I (hq a hs)
theorem call_isinst : CallR X (.builtin "isinstance") (fun xs H Q => ∃ x t n b, xs = [x, .ty n] ∧ TyOf X.K H x t ∧ PySem.W.kitOne X.K t (.type n) = some b ∧ Q (.bl b) H) := by
  intro pins s σ H xs us Q I r h
  obtain ⟨x, t, n, b, rfl, ty, e, q⟩ := h
  obtain ⟨u, w', rfl, rx, rn⟩ := vals2 r
  cases rn
  exact isinst_ok I rx ty e fun tk => ⟨.bl b, H, I.tok tk, rfl, q⟩
end
/-! ### tests -/
theorem ifI {a b : Int} {A B : Prop} (h1 : a = b → A) (h2 : ¬ a = b → B) : if decide (V.int a = V.int b) = true then A else B := by
  by_cases h : a = b
  · rw [if_pos (by rw [h]; simp)]; exact h1 h
  · rw [if_neg (by simpa using h)]; exact h2 h
theorem ifNI {a b : Int} {A B : Prop} (h1 : ¬ a = b → A) (h2 : a = b → B) : if (!decide (V.int a = V.int b)) = true then A else B := by
  by_cases h : a = b
  · rw [if_neg (by rw [h]; simp)]; exact h2 h
  · rw [if_pos (by simpa using h)]; exact h1 h
theorem ifD {p A B : Prop} [Decidable p] (h1 : p → A) (h2 : ¬ p → B) : if decide p = true then A else B := by
  by_cases h : p
  · rw [if_pos (by simpa using h)]; exact h1 h
  · rw [if_neg (by simpa using h)]; exact h2 h
theorem ifB {c : Bool} {A B : Prop} (h1 : c = true → A) (h2 : c = false → B) : if c = true then A else B := by
  cases c with
  | true => rw [if_pos rfl]; exact h1 rfl
  | false => rw [if_neg Bool.false_ne_true]; exact h2 rfl
theorem dI {a b : Int} : decide (V.int a = V.int b) = decide (a = b) := by
  by_cases h : a = b <;> simp [h]
/-! ### a statement whose end is told by a word of one's own -/
def tCut (t : TS) : TS := fun D σ H => ∃ Mid : St → Hp → Prop, t { D with nx := Mid } σ H ∧ ∀ σ' H', Mid σ' H' → D.nx σ' H'
theorem ps_cut {X : Cx} {st : Stmt} {t : TS} (h : PS X st t) : PS X st (tCut t) := by
  intro pins s σ H D I ⟨Mid, hq, hm⟩
  refine thn (h pins s σ H _ I hq) fun f s' q => ?_
  cases f with
  | next =>
    obtain ⟨σ', H', I', q⟩ := q
    exact ⟨σ', H', I', hm σ' H' q⟩
  | ret v => exact q
  | brk => exact q
  | cont => exact q
theorem ty_int {K : PySem.W.Frag} {H : Hp} {x : V} (h : TyOf K H x (.type "int")) : ∃ i, x = .int i := by
  generalize e : Value.type "int" = t at h
  cases h with
  | int i => exact ⟨i, rfl⟩
  | ins => cases e
  | _ => injection e with e; exact absurd e (by decide)
theorem int_ty {K : PySem.W.Frag} {H : Hp} {i : Int} {T : String} (h : TyOf K H (.int i) (.type T)) : T = "int" := by
  cases h
  rfl
end L2
namespace L2
open PySem PySem.Spec PyProof.Rows
/-! ### list comprehensions with one clause -/
theorem noE {α : Type} {M : Model} {A : Around} {s : Shared} {t : Sem α} {Q : α → Shared → Prop} {E : Value → Shared → Prop} (h : wpAny M A t Q (fun _ _ => False) s) : wpAny M A t Q E s := wpAny_mono h (fun _ _ q => q) fun _ _ z => z.elim
section
variable {prog : Program} {w : World} {A : Around} {R : Result → Shared → Prop} {s : Shared}
/-- a turn: the item, then (where the test holds) the element, put to the list -/
theorem comp_loop {elt target iter : Expr} {scope : Scope} {pos : Pos} {it acc : Value} {env : Env} (I : Nat → Shared → Prop)
    (turn : ∀ n s, I n s → wpAny (model prog w) A (pyNext it) (fun r s₁ => match r with
      | none => R (.ok .next) s₁
      | some v => wpAny (model prog w) A (letOwnedTupleGo target it v) (fun _ s₂ => wpAny (model prog w) A (assign target env v) (fun _ s₃ => wpAny (model prog w) A (eval elt env) (fun y s₄ =>
          wpAny (model prog w) A (call (.builtin "list.append") [acc, y]) (fun _ s₅ => ∃ m, m < n ∧ I m s₅) (fun _ _ => False) s₄) (fun _ _ => False) s₃) (fun _ _ => False) s₂) (fun _ _ => False) s₁) (fun _ _ => False) s)
    (n : Nat) (h : I n s) : codeAny (model prog w) A (.compLoop (.ListComp elt [⟨target, iter, [], 0⟩] scope pos) 0 it acc env) R s := by
  refine codeAny_loop rfl I (fun n s hI => ?_) n h
  show wpAny _ _ (Sem.onRaise (compTurn (.ListComp elt [⟨target, iter, [], 0⟩] scope pos) 0 it acc env) _) _ _ s
  refine wpAny_noted (noE ?_)
  rw [compTurn_list1]
  refine wpAny_bind (wpAny_standAt (wpAny_bind (wpAny_mono (turn n s hI) (fun r s₁ h₁ => ?_) fun _ _ z => z)))
  cases r with
  | none => exact wpAny_pure h₁
  | some v =>
    refine wpAny_bind (wpAny_mono h₁ (fun _ s₂ h₂ => ?_) fun _ _ z => z)
    refine wpAny_bind (wpAny_mono h₂ (fun _ s₃ h₃ => ?_) fun _ _ z => z)
    refine wpAny_bind (wpAny_bind (wpAny_mono h₃ (fun y s₄ h₄ => ?_) fun _ _ z => z))
    refine wpAny_bind (wpAny_mono h₄ (fun _ s₅ h₅ => ?_) fun _ _ z => z)
    exact wpAny_pure (wpAny_pure ⟨rfl, h₅⟩)
end
/-- the cells that the block takes over -/
def closOf (sc : Scope) (env : Env) : List (Str × Addr) := (sc.names.filterMap fun p => if p.2 == .free then (env.cells.lookup p.1).map fun c => (p.1, c) else none).reverse
/-- the block's run: its frame's dict, the state and heap ahead of it, pins, iterators -/
structure Blk where
  C : Addr
  s : Shared
  H : Hp
  pn : List (Addr × Obj)
  ex : List Addr
def Cx.block (X : Cx) (sc : Scope) (x : Str) (ix : List Nat) (b : Blk) : Cx where
  prog := X.prog
  w := X.w
  K := X.K
  mg := X.mg
  base := X.base
  A := X.A
  N := x :: ix.map fun i => X.N.getD i x
  s₀ := b.s
  H₀ := b.H
  env := compEnvC sc (closOf sc X.env) b.C X.env
  outer := X.stack
  stack := X.stack
  ex := b.ex
  fn := fun _ => false
  calm := X.calm
  pn := b.pn
  xe := fun _ _ => False
def capts (σ : St) (ix : List Nat) : St := ix.map fun i => σ.getD i none
def CapOk (X : Cx) (sc : Scope) (x : Str) (i : Nat) : Prop :=
  (X.env.kindOf (X.N.getD i x) = some .cell ∨ X.env.kindOf (X.N.getD i x) = some .free) ∧ ((relabel sc X.env).names.lookup (X.N.getD i x) = some .cell ∨ (relabel sc X.env).names.lookup (X.N.getD i x) = some .free) ∧
    (closOf sc X.env).lookup (X.N.getD i x) = X.env.cells.lookup (X.N.getD i x)
def CapsOk (X : Cx) (sc : Scope) (x : Str) : List Nat → Prop
  | [] => True
  | i :: r => CapOk X sc x i ∧ CapsOk X sc x r
theorem CapsOk.get {X : Cx} {sc : Scope} {x : Str} : ∀ {ix : List Nat}, CapsOk X sc x ix → ∀ i ∈ ix, CapOk X sc x i
  | [], _, _, h => nomatch h
  | _ :: _, h, _, hi => (List.mem_cons.mp hi).elim (fun e => e ▸ h.1) fun z => CapsOk.get h.2 _ z
def SubOk (cells : List (Str × Addr)) : List (Str × Addr) → Prop
  | [] => True
  | p :: r => cells.lookup p.1 = some p.2 ∧ SubOk cells r
theorem SubOk.get {cells : List (Str × Addr)} : ∀ {cl : List (Str × Addr)}, SubOk cells cl → ∀ y c, cl.lookup y = some c → cells.lookup y = some c
  | [], _, _, _, h => by simp at h
  | p :: r, h, y, c, e => by
    rw [List.lookup_cons] at e
    cases q : y == p.1 with
    | true =>
      rw [q] at e
      have e1 : p.2 = c := Option.some.inj e
      rw [eq_of_beq q, ← e1]
      exact h.1
    | false =>
      rw [q] at e
      exact SubOk.get h.2 y c e
def HasOk (cl : List (Str × Addr)) : List (Str × NameKind) → Prop
  | [] => True
  | p :: r => (p.2 = .cell ∨ p.2 = .free → ∃ c, cl.lookup p.1 = some c) ∧ HasOk cl r
theorem HasOk.get {cl : List (Str × Addr)} : ∀ {ns : List (Str × NameKind)}, HasOk cl ns → ∀ p ∈ ns, p.2 = .cell ∨ p.2 = .free → ∃ c, cl.lookup p.1 = some c
  | [], _, _, h => nomatch h
  | _ :: _, h, _, hp => (List.mem_cons.mp hp).elim (fun e => e ▸ h.1) fun z => HasOk.get h.2 _ z
structure CompOk (X : Cx) (sc : Scope) (x : Str) (ix : List Nat) : Prop where
  clos : closureFor sc X.env = pure (closOf sc X.env)
  cell : ∀ y ∈ sc.names, y.2 ≠ .cell
  kind : sc.kind = .function
  names : ∀ y ∈ sc.names, y.2 = .local → sc.names.lookup y.1 = some .local
  var : sc.names.lookup x = some .local
  nd : (x :: ix.map fun i => X.N.getD i x).Nodup
  cap : CapsOk X sc x ix
  sub : SubOk X.env.cells (closOf sc X.env)
  has : HasOk (closOf sc X.env) (relabel sc X.env).names
section
variable {X : Cx} {pins : List (Addr × Obj)} {σ : St} {H : Hp} {s : Shared} {sc : Scope} {x : Str} {ix : List Nat} {fp : List Addr}
theorem block_ok (I : Inv X pins σ H s) (O : CompOk X sc x ix) (hf : ∀ b ∈ fp, FpOk X pins H b) (hx : ∀ b ∈ fp, ∃ o, s.heap.get? b = some o) : (X.block sc x ix ⟨s.heap.objs.size, s, H, X.pn ++ pins, fp⟩).Ok where
  mod := I.ok.mod
  kind := O.kind
  glob := I.ok.glob
  blt := I.ok.blt
  above := Nat.le_refl _
  inj := fun y z c h1 h2 => I.ok.inj y z c (O.sub.get y c h1) (O.sub.get z c h2)
  has := fun y h => by
    have h' : (relabel sc X.env).names.lookup y = some .cell ∨ (relabel sc X.env).names.lookup y = some .free := h
    rcases h' with h' | h'
    · exact O.has.get _ (PySem.mem_of_lookup h') (.inl rfl)
    · exact O.has.get _ (PySem.mem_of_lookup h') (.inr rfl)
  cab := fun _ _ h => absurd (show false = true from h) Bool.false_ne_true
  hd := I.ok.hd
  frames := I.ok.frames
  stk := .inl rfl
  exf := fun b hb => by
    obtain ⟨o, e⟩ := hx b hb
    exact ⟨Nat.ne_of_lt (Heap.lt_size e), fun y c h => (hf b hb).2.2.2.2.1 y c (O.sub.get y c h)⟩
  bs := I.bs
  bsz := Nat.le_trans I.ok.bsz I.sz
  noex := fun b o e hb => by
    rcases (hf b hb).2.2.2.1 with z | z
    · exact I.ok.noex b o e z
    · exact absurd (Nat.lt_of_lt_of_le (Heap.lt_size e) (Nat.le_trans I.ok.bsz z)) (Nat.lt_irrefl _)
  exfs := fun b hb z => (List.mem_cons.mp (I.stkSub b z)).elim (hf b hb).2.1 (hf b hb).2.2.1
  funs := I.stack
  frf := I.stkFree
theorem block_inv {h₁ : Heap} {m : Str → Option Value} {tk : Nat} (I : Inv X pins σ H s) (O : CompOk X sc x ix) (hf : ∀ b ∈ fp, FpOk X pins H b) (hx : ∀ b ∈ fp, ∃ o, s.heap.get? b = some o)
    (hn : h₁.Ns s.heap.objs.size m) (keep : ∀ b o, s.heap.get? b = some o → h₁.get? b = some o) :
    Inv (X.block sc x ix ⟨s.heap.objs.size, s, H, X.pn ++ pins, fp⟩) [] (none :: capts σ ix) H { s with heap := h₁, toks := tk } := by
  refine ⟨block_ok I O hf hx, rfl, I.bare, Un.kept keep, ⟨m, hn, fun i y v e1 e2 _ => ?_⟩, fun y c h => ?_, I.hok.fresh (Nat.le_refl _), fun y c h => I.freeC y c (O.sub.get y c h), fun p hp => ?_, I.hok.kept keep, ?_⟩
  · cases i with
    | zero => cases e2
    | succ j =>
      have e1' : (ix.map fun i => X.N.getD i x)[j]? = some y := e1
      have e2' : (capts σ ix)[j]? = some (some v) := e2
      unfold capts at e2'
      rw [List.getElem?_map] at e1' e2'
      cases q : ix[j]? with
      | none => rw [q] at e1'; cases e1'
      | some i =>
        rw [q] at e1' e2'
        have e3 : X.N.getD i x = y := Option.some.inj e1'
        have e4 : σ.getD i none = some v := Option.some.inj e2'
        obtain ⟨c1, c2, c3⟩ := O.cap.get i (List.mem_of_getElem? q)
        rw [e3] at c1 c2 c3
        have e5 : σ[i]? = some (some v) := by
          rw [List.getD_eq_getElem?_getD] at e4
          cases z : σ[i]? with
          | none => rw [z] at e4; cases e4
          | some a => rw [z] at e4; exact congrArg some e4
        have hl : i < X.N.length := by
          rw [← I.len]
          exact (List.getElem?_eq_some_iff.mp e5).1
        have e6 : X.N[i]? = some y := by
          rw [List.getD_eq_getElem?_getD, List.getElem?_eq_getElem hl] at e3
          rw [List.getElem?_eq_getElem hl]
          exact congrArg some e3
        obtain ⟨m0, _, l0⟩ := I.loc
        have vis : Vis X.env.scope y := by
          rcases c1 with z | z
          · exact .inr (.inl z)
          · exact .inr (.inr z)
        obtain ⟨u, ru, lu⟩ := l0 i y v e6 e5 vis
        refine ⟨u, ru, ?_⟩
        rcases lu with ⟨k, _⟩ | ⟨_, c, hc, o, ho, hd⟩
        · rcases c1 with z | z
          · rw [z] at k; cases k
          · rw [z] at k; cases k
        · exact .inr ⟨c2, c, c3.trans hc, o, keep c o ho, hd⟩
  · obtain ⟨v, o, ho, hd⟩ := I.cell y c (O.sub.get y c h)
    exact ⟨v, o, keep c o ho, hd⟩
  · have hp' : p ∈ X.pn ++ pins := by
      rcases List.mem_append.mp hp with z | z
      · exact z
      · cases z
    obtain ⟨e, n, ne, nf, d⟩ := I.pin p hp'
    exact ⟨keep _ _ e, n, Nat.ne_of_lt (Heap.lt_size e), fun z => (List.mem_cons.mp (I.stkSub _ z)).elim ne nf, d⟩
  · show (none :: capts σ ix).length = (x :: ix.map fun i => X.N.getD i x).length
    simp [capts]
/-- back from the block -/
theorem block_back {pins' : List (Addr × Obj)} {σ' : St} {H' : Hp} {s' : Shared} (I : Inv X pins σ H s) (hf : ∀ b ∈ fp, FpOk X pins H b) (J : Inv (X.block sc x ix ⟨s.heap.objs.size, s, H, X.pn ++ pins, fp⟩) pins' σ' H' s') : Inv X pins σ H' s' :=
  I.call' J.os J.base J.hok J.bare fun b hb => ⟨(hf b hb).2.2.2.1, (hf b hb).2.1, (hf b hb).2.2.2.2.1, (hf b hb).2.2.2.2.2⟩
theorem Inv.addpin {b : Addr} {o : Obj} (I : Inv X pins σ H s) (e : s.heap.get? b = some o) (hn : H b = none) (hL : b ≠ X.env.locals) (hf : b ∉ X.fs) (hd : ∀ v, o.data ≠ .cell v) : Inv X (pins ++ [(b, o)]) σ H s :=
  I.pins_of fun p hp => (List.mem_append.mp hp).elim (fun z => I.pin p (List.mem_append_right _ z)) fun z => by
    have e' : p = (b, o) := by simpa using z
    subst e'
    exact ⟨e, hn, hL, hf, hd⟩
end
/-- what the block does, turn by turn: W by the turn, a measure, the list so far -/
def Turns (ix : List Nat) (te : TE) (σ : St) (J : It) (l : Addr) (R : Hp → Prop) (W : Nat → Nat → List V → Hp → Prop) : Prop :=
  ∀ i m xs H', W i m xs H' → H' l = some (.lst xs) ∧ ((J.stop i H' ∧ R H') ∨ (J.go i H' ∧ xs.length < sizeLine ∧ ∀ x H2, J.yld i H' x H2 →
    te (some x :: capts σ ix) H2 fun v H3 => H3 l = some (.lst xs) ∧ ∃ m', m' < m ∧ W (i + 1) m' (xs ++ [v]) (upd H3 l (.lst (xs ++ [v])))))
def tComp (ix : List Nat) (wi : TI) (te : TE) : TE := fun σ H Q => wi σ H fun J H1 => ∀ l, H1 l = none → ∃ W : Nat → Nat → List V → Hp → Prop, (∃ m, W 0 m [] (upd H1 l (.lst []))) ∧ Turns ix te σ J l (Q (.ref l)) W
section
variable {X : Cx} {pins : List (Addr × Obj)} {σ : St} {H : Hp} {s : Shared} {sc : Scope} {x : Str} {ix : List Nat} {fp : List Addr} {elt iter : Expr} {te : TE} {wi : TI} {px pos : Pos}
theorem comp_core {it : Addr} {tn : Nat → Heap → Prop} {J : It} {use : Option (Value → Sem Unit)} {Q : Value → Shared → Prop} {E : Value → Shared → Prop} (O : CompOk X sc x ix) (hel : ∀ b, PE (X.block sc x ix b) elt te) (hc : X.calm = true)
    (I : Inv X pins σ H s) (T : Turn X.prog X.w X.K (.Name x px) J fp it tn) (st : tn 0 s.heap) (hf : ∀ b ∈ fp, FpOk X pins H b) (R : Addr → Hp → Prop)
    (h : ∀ l, H l = none → ∃ W : Nat → Nat → List V → Hp → Prop, (∃ m, W 0 m [] (upd H l (.lst []))) ∧ Turns ix te σ J l (R l) W)
    (fin : ∀ l C m s' H', Inv X pins σ H' s' → s'.heap.Ns C m → FpOk X pins H' C → R l H' → compPost (model X.prog X.w) X.A E use Q (.ref l) C (.ok .next) s') :
    wpAny (model X.prog X.w) X.A (newList []) (fun acc s₃ => wpAny (model X.prog X.w) X.A (newFunctionEnv sc X.env.globals (closOf sc X.env) [] X.env.qual none .none (some X.env)) (fun cenv s₄ =>
      codeAny (model X.prog X.w) X.A (.compStart (.ListComp elt [⟨.Name x px, iter, [], 0⟩] sc pos) 0 (.ref it) acc { cenv with scope := relabel sc X.env }) (compPost (model X.prog X.w) X.A E use Q acc cenv.locals) s₄) E s₃) E s := by
  refine wpAny_newObj_type (wpAny_newFunctionEnv O.cell (by intro y hy; simp at hy) (fun h₁ hns hsb => ?_) O.kind)
  dsimp only at hns hsb ⊢
  have hl0 : H s.heap.objs.size = none := I.hok.fresh (Nat.le_refl _)
  obtain ⟨W, ⟨m0, w0⟩, tr⟩ := h s.heap.objs.size hl0
  have I3 : Inv X pins σ (upd H s.heap.objs.size (.lst [])) { s with heap := s.heap.push { cls := .type "list", dict := none, data := .seq ([] : List Value).toArray } } :=
    I.laid (t' := s.toks) (fun b o e => Heap.get?_push_of_some _ e) (Nat.le_refl _) ⟨Nat.zero_le _, [], 0, .nil, Heap.get?_push_size _ rfl⟩
  have ofp : ∀ b ∈ fp, ∃ o, s.heap.get? b = some o := fun b hb => by
    obtain ⟨o, e, _⟩ := T.obj 0 _ st b hb
    exact ⟨o, e⟩
  generalize e3 : s.heap.push { cls := .type "list", dict := none, data := .seq ([] : List Value).toArray } = G at I3 hns hsb ⊢
  have ofp3 : ∀ b ∈ fp, ∃ o, G.get? b = some o := fun b hb => by
    obtain ⟨o, e⟩ := ofp b hb
    exact ⟨o, by rw [← e3]; exact Heap.get?_push_of_some _ e⟩
  have nl : ∀ b ∈ fp, b ≠ s.heap.objs.size := fun b hb => by
    obtain ⟨o, e⟩ := ofp b hb
    exact Nat.ne_of_lt (Heap.lt_size e)
  have hf3 : ∀ b ∈ fp, FpOk X pins (upd H s.heap.objs.size (.lst [])) b := fun b hb => ⟨by rw [upd_ne (nl b hb)]; exact (hf b hb).1, (hf b hb).2⟩
  have keep3 : ∀ b o, G.get? b = some o → h₁.get? b = some o := fun b o e => hsb.extBut b o (Nat.ne_of_lt (Heap.lt_size e)) (Heap.get?_push_of_some _ e)
  have stk : tn 0 h₁ := T.keep _ _ _ st fun b hb o e => keep3 b o (by rw [← e3]; exact Heap.get?_push_of_some _ e)
  have J0 := block_inv (tk := s.toks + ([] : List (Str × Value)).length) I3 O hf3 ofp3 hns keep3
  -- what stays true of the iterator
  have stat : ∀ {H' : Hp}, (∀ b ∈ fp, H' b = none) → ∀ b ∈ fp, FpOk (X.block sc x ix ⟨G.objs.size, { s with heap := G }, upd H s.heap.objs.size (.lst []), X.pn ++ pins, fp⟩) [] H' b := fun hn b hb => by
    obtain ⟨o, e⟩ := ofp3 b hb
    refine ⟨hn b hb, Nat.ne_of_lt (Heap.lt_size e), fun z => (List.mem_cons.mp (I3.stkSub _ z)).elim (hf b hb).2.1 (hf b hb).2.2.1, .inl hb, fun y c q => (hf b hb).2.2.2.2.1 y c (O.sub.get y c q), fun p hp => ?_⟩
    have hp' : p ∈ X.pn ++ pins := by
      rcases List.mem_append.mp hp with z | z
      · exact z
      · cases z
    exact (hf b hb).2.2.2.2.2 p hp'
  have loop : ∀ s4 : Shared, s4 = { s with heap := h₁, toks := s.toks + ([] : List (Str × Value)).length } →
      codeAny (model X.prog X.w) X.A (.compLoop (.ListComp elt [⟨.Name x px, iter, [], 0⟩] sc pos) 0 (.ref it) (.ref s.heap.objs.size) (compEnvC sc (closOf sc X.env) G.objs.size X.env))
        (compPost (model X.prog X.w) X.A E use Q (.ref s.heap.objs.size) G.objs.size) s4 := by
    rintro s4 rfl
    refine comp_loop (fun n s' => ∃ i xs H' z, Inv (X.block sc x ix ⟨G.objs.size, { s with heap := G }, upd H s.heap.objs.size (.lst []), X.pn ++ pins, fp⟩) [] (z :: capts σ ix) H' s' ∧ tn i s'.heap ∧ (∀ b ∈ fp, H' b = none) ∧ W i n xs H') ?_ m0
      ⟨0, [], _, none, J0, stk, fun b hb => (hf3 b hb).1, w0⟩
    rintro n s5 ⟨i, xs, H5, z, I5, st5, fr5, w5⟩
    obtain ⟨hl5, h5⟩ := tr i n xs H5 w5
    rcases h5 with ⟨stop, r5⟩ | ⟨go, hz, step⟩
    · refine thn (T.done (X.block sc x ix ⟨G.objs.size, { s with heap := G }, upd H s.heap.objs.size (.lst []), X.pn ++ pins, fp⟩) rfl rfl rfl hc i [] s5 _ H5 _ I5 (stat fr5) st5 stop) fun r s6 ⟨hr, I6⟩ => ?_
      subst hr
      obtain ⟨m6, hn6, _⟩ := I6.loc
      refine fin _ _ m6 s6 H5 (block_back I3 hf3 I6) hn6 ?_ r5
      exact I3.fpOk (Nat.le_refl _) I6.free
    · refine thn (T.item (X.block sc x ix ⟨G.objs.size, { s with heap := G }, upd H s.heap.objs.size (.lst []), X.pn ++ pins, fp⟩) rfl rfl rfl hc i [] s5 _ H5 _ I5 (stat fr5) st5 go) fun r s6 ⟨u, hr, h6⟩ => ?_
      subst hr
      refine thn h6 fun _ s7 ⟨y, H7, I7, r7, y7, st7, fr7⟩ => ?_
      have I7' := I7.pinned (stat fr7) (T.obj _ _ st7)
      have lx : (relabel sc X.env).names.lookup x = some .local := lookup_relabel_local O.var
      refine thn ((pg_name (i := 0) O.nd rfl (Or.inl lx) (Or.inr lx) : PG (X.block sc x ix ⟨G.objs.size, { s with heap := G }, upd H s.heap.objs.size (.lst []), X.pn ++ pins, fp⟩) (.Name x px) (gName 0)) _ s7 _ H7 y u (fun σ' H' => σ' = some y :: capts σ ix ∧ H' = H7) I7' r7 ⟨rfl, rfl⟩) fun _ s8 ⟨σ8, H8, I8, e8, e8'⟩ => ?_
      subst e8 e8'
      refine thn (hel _ _ s8 _ H8 _ I8 (step y H8 y7)) fun v9 s9 ⟨v, H9, I9, r9, hl9, m', hm, w9⟩ => ?_
      refine thn (mt_append _ s9 _ H9 (.ref s.heap.objs.size) [v] (.ref s.heap.objs.size) [v9] (fun _ H' => H' = upd H9 s.heap.objs.size (.lst (xs ++ [v]))) I9 rfl (.cons r9 .nil) ⟨_, xs, v, rfl, rfl, hl9, hz, rfl⟩) fun _ s10 ⟨_, H10, I10, _, e10⟩ => ?_
      subst e10
      refine ⟨m', hm, i + 1, xs ++ [v], _, some y, I10.unpinned, T.keep _ _ _ st7 fun b hb o e => (I10.pin (b, o) (List.mem_append_right _ (List.mem_append_right _ (mem_pinsAt hb e)))).1, fun b hb => ?_, w9⟩
      obtain ⟨o, e, d⟩ := T.obj _ _ st7 b hb
      exact (I10.pin (b, o) (List.mem_append_right _ (List.mem_append_right _ (mem_pinsAt hb e)))).2.1
  exact codeAny_compStart_list (loop _ rfl) (T.self _ 0 _ _ _ stk (loop _ rfl))
/-- [elt for x in iter] -/
theorem pe_comp (O : CompOk X sc x ix) (hi : PI X (.Name x px) iter wi) (hel : ∀ b, PE (X.block sc x ix b) elt te) (hc : X.calm = true := by rfl) (hs : ∀ v, foldedSetIterable iter X.env v = pure v := by intro _; rfl) :
    PE X (.ListComp elt [⟨.Name x px, iter, [], 0⟩] sc pos) (tComp ix wi te) := by
  intro pins s σ H Q I h
  rw [eval_ListComp]
  refine wpAny_comprehension_free (use := none) rfl hs O.clos O.kind O.names (thn (hi pins s σ H _ I h) fun xv s1 h1 => thn h1 fun itv s2 h2 => ?_)
  obtain ⟨it, fp, tn, J, H2, e, I2, T, st2, f2, hq⟩ := h2
  subst e
  refine comp_core O hel hc I2 T st2 f2 (fun l H' => Q (.ref l) H') hq ?_
  intro l C m s' H' I' hn hf r
  refine ⟨m, hn, fun h' hb => ⟨.ref l, H', ?_, rfl, r⟩⟩
  exact I'.turned (t' := s'.toks) (fun b o hne e => hb.extBut b o hne e) hf.1 hf.2.1 hf.2.2.2.1 hf.2.2.2.2.1 hf.2.2.2.2.2
/-- y = [elt for x in iter], y a plain local -/
theorem ps_setc {y : Str} {i : Nat} {py spos : Pos} (hN : X.N.Nodup) (hiy : X.N[i]? = some y) (hy : X.env.scope.names.lookup y = some .local) (O : CompOk X sc x ix) (hi : PI X (.Name x px) iter wi) (hel : ∀ b, PE (X.block sc x ix b) elt te)
    (hc : X.calm = true := by rfl) (hs : ∀ v, foldedSetIterable iter X.env v = pure v := by intro _; rfl) (hsw : swapsWith (.ListComp elt [⟨.Name x px, iter, [], 0⟩] sc pos) (some (.Name y py)) spos.line X.env = pure true := by rfl) :
    PS X (.Assign [.Name y py] (.ListComp elt [⟨.Name x px, iter, [], 0⟩] sc pos) spos) (tAsg (tComp ix wi te) (gName i)) := by
  intro pins s σ H D I h
  rw [exec_Assign_Name_used _ _ _ _ hsw]
  refine wpAny_bind (wpAny_standAt (wpAny_bind ?_))
  show wpAny _ X.A (do let _ ← comprehension (.ListComp elt [⟨.Name x px, iter, [], 0⟩] sc pos) sc X.env _ (newList []) false (eval iter X.env) (some (assign (.Name y py) X.env))) _ _ s
  refine wpAny_bind (wpAny_mono (wpAny_comprehension_free (use := some (assign (.Name y py) X.env)) (Q := fun _ s' => SP X pins D .next s') rfl hs O.clos O.kind O.names
    (thn (hi pins s σ H _ I h) fun xv s1 h1 => thn h1 fun itv s2 h2 => ?_)) (fun _ s' hq => wpAny_pure (wpAny_pure hq)) fun _ _ e => e)
  obtain ⟨it, fp, tn, J, H2, e, I2, T, st2, f2, hq⟩ := h2
  subst e
  refine comp_core O hel hc I2 T st2 f2 (fun l H' => D.nx (σ.set i (some (.ref l))) H') hq ?_
  intro l C m s' H' I' hn hf r
  obtain ⟨o, es, ep, ho, hd, hr⟩ := id hn
  have Ip := I'.addpin ho hf.1 hf.2.1 hf.2.2.1 (by intro v z; rw [hd] at z; cases z)
  refine thn ((pg_name (i := i) hN hiy (Or.inl hy) (Or.inr hy) : PG X (.Name y py) (gName i)) _ s' σ H' (.ref l) (.ref l) (fun σ' H'' => σ' = σ.set i (some (.ref l)) ∧ H'' = H') Ip rfl ⟨rfl, rfl⟩) fun _ s'' ⟨σ'', H'', I'', e1, e2⟩ => ?_
  subst e1 e2
  have pc := (I''.pin (C, o) (List.mem_append_right _ (List.mem_append_right _ List.mem_cons_self))).1
  refine ⟨m, ⟨o, es, ep, pc, hd, hr⟩, fun h' hb => ⟨_, _, ?_, r⟩⟩
  exact I''.unpinned.turned (t' := s''.toks) (fun b o hne e => hb.extBut b o hne e) hf.1 hf.2.1 hf.2.2.2.1 hf.2.2.2.2.1 hf.2.2.2.2.2
end
section
variable {X : Cx} {pins : List (Addr × Obj)} {σ : St} {H : Hp} {s : Shared} {sc : Scope} {x : Str} {ix : List Nat} {fp : List Addr} {elt iter c : Expr} {te : TE} {tt : TT} {wi : TI} {px pos : Pos}
end
theorem same_new {H : Hp} {p : Addr} (h : H p = none) (o : HO) : Same H (upd H p o) := fun b u q => by rw [upd_ne (ne_of_none q h)]; exact q
/-- over a range, by what is true of each element -/
theorem comp_range {ix : List Nat} {te : TE} {σ : St} {lo : Int} {n : Nat} {l : Addr} {H : Hp} {R : Hp → Prop} (P : Nat → V → Prop) (hl : H l = none) (hn : n ≤ sizeLine)
    (hel : ∀ i H' Q', i < n → Same H H' → (∀ v, P i v → Q' v H') → te (some (.int (lo + i)) :: capts σ ix) H' Q') (fin : ∀ xs : List V, xs.length = n → (∀ j v, xs[j]? = some v → P j v) → R (upd H l (.lst xs))) :
    ∃ W : Nat → Nat → List V → Hp → Prop, (∃ m, W 0 m [] (upd H l (.lst []))) ∧ Turns ix te σ (Itr lo n) l R W := by
  refine ⟨fun i m xs H' => m = n - i ∧ i ≤ n ∧ xs.length = i ∧ (∀ j v, xs[j]? = some v → P j v) ∧ H' = upd H l (.lst xs), ⟨n, by simp, Nat.zero_le _, rfl, (fun j v e => by simp at e), rfl⟩, ?_⟩
  rintro i m xs H' ⟨rfl, hi, hx, hp, rfl⟩
  refine ⟨upd_same, ?_⟩
  by_cases hlt : i < n
  · refine .inr ⟨hlt, by omega, fun x H2 y => ?_⟩
    obtain ⟨e, y⟩ := y
    subst e y
    refine hel i _ _ hlt (same_new hl _) fun v hv => ⟨upd_same, n - (i + 1), by omega, rfl, hlt, by rw [List.length_append, hx] <;> rfl, fun j w e => ?_, by rw [upd_upd]⟩
    by_cases hj : j < xs.length
    · rw [List.getElem?_append_left hj] at e
      exact hp j w e
    · by_cases hj2 : j = xs.length
      · subst hj2
        rw [List.getElem?_append_right (Nat.le_refl _), Nat.sub_self] at e
        have e' : v = w := Option.some.inj e
        subst e'
        rw [hx]; exact hv
      · rw [List.getElem?_eq_none (by rw [List.length_append, List.length_singleton]; omega)] at e
        cases e
  · have e : i = n := by omega
    subst e
    exact .inl ⟨Nat.le_refl _, fin xs hx hp⟩
section
variable {X : Cx}
theorem intsAre_vals : ∀ {ns : List Int} {us : List Value}, Vals (ns.map V.int) us → IntsAre us ns
  | [], _, .nil => .nil
  | n :: ns, _, .cons ⟨t, e⟩ r => by
    subst e
    exact .cons n t (intsAre_vals r)
theorem call_sumI (hc : X.calm = true) : CallR X (.builtin "sum") (fun xs H Q => ∃ (p : Addr) (ns : List Int), xs = [.ref p] ∧ SqL X.K H p (ns.map V.int) ∧ Q (.int ns.sum) H) := by
  intro pins s σ H xs us Q I r h
  obtain ⟨p, ns, rfl, hq, q⟩ := h
  obtain ⟨u, rfl, rx⟩ := vals1 r
  cases rx
  obtain ⟨its, rv, pl, hz⟩ := I.list hq
  obtain ⟨xs, e⟩ := (intsAre_vals rv).allInts.items
  rw [e] at pl
  refine sum_intListG (I.ok.hd hc) pl.isList fun h' tk t' k => ⟨.int ns.sum, H, I.kept k, ⟨t', ?_⟩, q⟩
  have e1 := (intsAre_vals rv).numsOf
  rw [preSum_eq, List.take_of_length_le (by simp), ← e1]
  congr 1
  rw [← nums_intItems, ← e]
end
end L2
namespace L2
open PySem PySem.Spec PyProof.Rows
/-! ### == and != by data -/
mutual
inductive RdV (K : PySem.W.Frag) (H : Hp) : V → PyData → Prop
  | non : RdV K H .non .none
  | bl (b : Bool) : RdV K H (.bl b) (.bool b)
  | int (i : Int) : RdV K H (.int i) (.int i)
  | str (x : Str) : RdV K H (.str x) (.str x)
  | lst {a : Addr} {xs : List V} {ds : List PyData} : SqL K H a xs → RdVs K H xs ds → RdV K H (.ref a) (.list ds)
  | tup {a : Addr} {xs : List V} {ds : List PyData} : SqT K H a xs → RdVs K H xs ds → RdV K H (.ref a) (.tuple ds)
inductive RdVs (K : PySem.W.Frag) (H : Hp) : List V → List PyData → Prop
  | nil : RdVs K H [] []
  | cons {x : V} {d : PyData} {xs : List V} {ds : List PyData} : RdV K H x d → RdVs K H xs ds → RdVs K H (x :: xs) (d :: ds)
end
section
variable {X : Cx} {pins : List (Addr × Obj)} {σ : St} {H : Hp} {s : Shared} {pos : Pos}
mutual
theorem RdV.reads (I : Inv X pins σ H s) : ∀ {x : V} {d : PyData} {u : Value}, RdV X.K H x d → RelV x u → ∃ as, Reads s.heap u d as
  | _, _, _, .non, r => by cases r; exact ⟨_, .none⟩
  | _, _, _, .bl b, r => by cases r; exact ⟨_, .bool b⟩
  | _, _, _, .int i, r => by obtain ⟨t, rfl⟩ := r; exact ⟨_, .int i t⟩
  | _, _, _, .str x, r => by obtain ⟨t, rfl⟩ := r; exact ⟨_, .str x t⟩
  | _, _, _, .lst h hs, r => by
    cases r
    obtain ⟨its, rv, pl, hz⟩ := I.list h
    obtain ⟨as, q⟩ := RdVs.reads I hs rv
    obtain ⟨o, n, e, c, hd, dt⟩ := pl
    exact ⟨_, reads_list_at e c dt (by simpa using q)⟩
  | _, _, _, .tup h hs, r => by
    cases r
    obtain ⟨its, rv, pl, hz⟩ := I.tuple h
    obtain ⟨as, q⟩ := RdVs.reads I hs rv
    obtain ⟨o, e, c, n, dt⟩ := pl
    exact ⟨_, reads_tuple_at e c dt (by simpa using q)⟩
theorem RdVs.reads (I : Inv X pins σ H s) : ∀ {xs : List V} {ds : List PyData} {us : List Value}, RdVs X.K H xs ds → Vals xs us → ∃ as, ReadsAll s.heap us ds as
  | _, _, _, .nil, .nil => ⟨_, .nil⟩
  | _, _, _, .cons h hs, .cons r rs => by
    obtain ⟨as, q⟩ := RdV.reads I h r
    obtain ⟨bs, q'⟩ := RdVs.reads I hs rs
    exact ⟨_, .cons q q'⟩
end
def rNeD (K : PySem.W.Frag) : R2 := fun x y H Q => ∃ d e, RdV K H x d ∧ RdV K H y e ∧ SeqAt.shaped d = true ∧ SeqAt.shaped e = true ∧ Q (.bl (!PyData.eqv d e)) H
theorem op_neD (hu : X.A.units + 64 < cLine) : OpR X (compareOp .NotEq) (rNeD X.K) := by
  intro pins s σ H x y v u Q I rx ry h
  obtain ⟨d, e, hd, he, sd, se, q⟩ := h
  obtain ⟨as, ra⟩ := hd.reads I rx
  obtain ⟨bs, rb⟩ := he.reads I ry
  exact ne_dataH ra rb sd se hu ⟨.bl _, H, I, rfl, q⟩
end
/-! ### isinstance of the plain kinds -/
def kinds : List String := ["NoneType", "bool", "int", "str", "list", "tuple", "dict"]
theorem kit_int {K : PySem.W.Frag} {T : String} (h : T ∈ kinds) : PySem.W.kitOne K (.type T) (.type "int") = some (decide (T = "int" ∨ T = "bool")) := by
  simp only [kinds, List.mem_cons, List.not_mem_nil, or_false] at h
  rcases h with rfl | rfl | rfl | rfl | rfl | rfl | rfl <;> rfl
theorem kit_bool {K : PySem.W.Frag} {T : String} (h : T ∈ kinds) : PySem.W.kitOne K (.type T) (.type "bool") = some (decide (T = "bool")) := by
  simp only [kinds, List.mem_cons, List.not_mem_nil, or_false] at h
  rcases h with rfl | rfl | rfl | rfl | rfl | rfl | rfl <;> rfl
/-- a flat thing or one of the three kinds of containers -/
def IsKind (K : PySem.W.Frag) (H : Hp) (x : V) (T : String) : Prop := TyOf K H x (.type T) ∧ T ∈ kinds
theorem iteNF {A B : Prop} (h : A) : if (!false) = true then A else B := iteT (B := B) h
theorem iteNT {A B : Prop} (h : B) : if (!true) = true then A else B := iteF (A := A) h
theorem ifND {p A B : Prop} [Decidable p] (h1 : ¬ p → A) (h2 : p → B) : if (!decide p) = true then A else B := by
  by_cases h : p
  · rw [if_neg (by simpa using h)]; exact h2 h
  · rw [if_pos (by simpa using h)]; exact h1 h
/-- a power of two written numbers -/
theorem pe_powc {X : Cx} {a b v : Int} {j j' : Nat} {p p' pos : Pos} (h : a ^ b.toNat = v) (hb : CPow a b) : PE X (.BinOp (.Constant (.int a) j p) .Pow (.Constant (.int b) j' p') pos) (tC (.int v)) := by
  intro pins s σ H Q I hq
  exact pe_op op_pow pe_int pe_int pins s σ H Q I ⟨_, _, rfl, rfl, hb, by show Q (V.int (a ^ b.toNat)) H; rw [h]; exact hq⟩
end L2
namespace L2
open PySem PySem.Spec PyProof.Rows
/-! ### an exception that flies -/
theorem ObjOk.get {P : Program} {w : World} {H : Hp} {h : Heap} {a : Addr} {o : HO} (x : ObjOk P w H h a o) : ∃ u, h.get? a = some u := by
  cases o with
  | lst xs => obtain ⟨_, _, _, _, e⟩ := x; exact ⟨_, e⟩
  | tup xs => obtain ⟨_, _, _, _, e, _⟩ := x; exact ⟨_, e⟩
  | dK kvs => obtain ⟨_, _, _, _, _, _, _, e, _⟩ := x; exact ⟨_, e⟩
  | set S n => obtain ⟨_, _, _, _, e, _⟩ := x; exact ⟨_, e⟩
  | ins C dx fs => obtain ⟨_, _, _, e, _⟩ := x; exact ⟨_, e⟩
  | own y => exact x
  | xd fs => obtain ⟨_, ⟨_, _, _, e, _⟩, _⟩ := x; exact ⟨_, e⟩
  | rng lo hi => obtain ⟨_, _, _, e⟩ := x; exact ⟨_, e⟩
  | frz ob u => obtain ⟨e, _⟩ := x; exact ⟨_, e⟩
  | tbl ps => exact ⟨_, (show h.get? a = some _ from x)⟩
  | met f y => exact ⟨_, (show h.get? a = some _ from x)⟩
  | ext φ => obtain ⟨_, e, _⟩ := x; exact e
theorem HOk.gone {P : Program} {w : World} {H : Hp} {h : Heap} {a : Addr} (x : HOk P w H h) (e : h.get? a = none) : H a = none := by
  cases q : H a with
  | none => rfl
  | some o =>
    obtain ⟨u, z⟩ := (x a o q).get
    rw [e] at z; cases z
/-- new since g, not tracked; its class C -/
structure ExcAt (g : Heap) (H : Hp) (h : Heap) (e : Addr) (C : Value) : Prop where
  new : g.get? e = none
  free : H e = none
  ex : ∃ oe vs T oT ts a0, h.get? e = some oe ∧ (oe.cls = C ∧ vs[0]? = some a0) ∧ oe.data = .fields vs ∧ vs[1]? = some (.ref T) ∧ (g.get? T = none ∧ H T = none) ∧ T ≠ e ∧ h.get? T = some oT ∧ oT.data = .fields ts ∧ ts[3]? = some .none
def CXX (P : Program) (w : World) : CXT := fun outer H s E ev s' => ∃ e C H', ev = .ref e ∧ E C none H' ∧ s'.os = s.os ∧ AllBare s'.gens ∧ Un (frs outer) [] H H' s.heap s'.heap ∧ HOk P w H' s'.heap ∧ ExcAt s.heap H' s'.heap e C
structure Flew (X : Cx) (hid : List Addr) (h h' : Heap) : Prop where
  keep : ∀ b o, h.get? b = some o → b ∉ frs X.stack → b ∉ hid → h'.get? b = some o
  slot : h.UpToSlots h'
section
variable {X : Cx} {pins : List (Addr × Obj)} {σ : St} {H : Hp} {s : Shared} {h' : Heap} {hid : List Addr}
theorem Inv.unFlew (I : Inv X pins σ H s) (F : Flew X hid s.heap h') (hh : ∀ b ∈ hid, X.s₀.heap.get? b = none) : Un X.fs X.ex X.H₀ H X.s₀.heap h' where
  keep := fun b o q n hb hx => F.keep b o (I.base.keep b o q n hb hx)
    (fun z => (List.mem_cons.mp (I.stkSub b z)).elim (fun e => absurd (Nat.lt_of_lt_of_le (Heap.lt_size q) I.ok.above) (by rw [e]; exact Nat.lt_irrefl _)) hb) (fun z => by rw [hh b z] at q; cases q)
  slot := fun b o q n hb hx => by
    obtain ⟨sl, e1⟩ := I.base.slot b o q n hb hx
    obtain ⟨_, o', ho', hd⟩ := I.funs.mem hb
    rw [e1] at ho'; cases ho'
    obtain ⟨sl', e2⟩ := F.slot b _ e1 hd
    exact ⟨sl', e2⟩
  free := I.base.free
  there := fun b o q hx => by
    obtain ⟨o', e1⟩ := I.base.there b o q hx
    by_cases z : b ∈ frs X.stack
    · obtain ⟨_, o'', ho, hd⟩ := I.stack.mem z
      rw [e1] at ho; cases ho
      obtain ⟨sl, e2⟩ := F.slot b _ e1 hd
      exact ⟨_, e2⟩
    · exact ⟨o', F.keep b o' e1 z (fun y => by rw [hh b y] at q; cases q)⟩
  tups := I.base.tups
  frzs := I.base.frzs
  tbls := I.base.tbls
theorem Inv.hokFlew (I : Inv X pins σ H s) (F : Flew X hid s.heap h') (hf : ∀ b ∈ hid, H b = none) : HOk X.prog X.w H h' := fun a o q => by
  refine (I.hok a o q).stay (fun b u hb r => ?_) (fun _ z => z) fun _ _ z => z
  have t : H b ≠ none := by
    rcases hb with rfl | hb
    · rw [q]; exact fun z => nomatch z
    · rw [hb]; exact fun z => nomatch z
  exact F.keep b u r (fun z => t (I.stkFree b z)) fun z => t (hf b z)
theorem cell_flew {h : Heap} {c : Addr} {v : Option Value} (F : h.UpToSlots h') (z : h.IsCell c v) : h'.IsCell c v := by
  obtain ⟨o, ho, hd⟩ := z
  obtain ⟨sl, e⟩ := F c o ho (fun vs q => by rw [hd] at q; cases q)
  exact ⟨_, e, hd⟩
theorem Inv.flew (I : Inv X pins σ H s) (F : Flew X hid s.heap h') (hh : ∀ b ∈ hid, X.s₀.heap.get? b = none ∧ H b = none ∧ ∀ p ∈ X.pn ++ pins, p.1 ≠ b) : Inv X pins σ H { s with heap := h' } := by
  refine ⟨I.ok, I.os, I.bare, I.unFlew F fun b hb => (hh b hb).1, ?_, fun x c e => ?_, I.free, I.freeC, fun p hp => ?_, I.hokFlew F fun b hb => (hh b hb).2.1, I.len⟩
  · obtain ⟨m, hn, hl⟩ := I.loc
    refine ⟨m, F.slot.ns hn, fun i x v e1 e2 e3 => ?_⟩
    obtain ⟨u, r, l⟩ := hl i x v e1 e2 e3
    refine ⟨u, r, ?_⟩
    rcases l with l | ⟨k, c, e, z⟩
    · exact .inl l
    · exact .inr ⟨k, c, e, cell_flew F.slot z⟩
  · obtain ⟨v, z⟩ := I.cell x c e
    exact ⟨v, cell_flew F.slot z⟩
  · obtain ⟨e, n, ne, nf, d⟩ := I.pin p hp
    exact ⟨F.keep p.1 p.2 e (fun z => (List.mem_cons.mp (I.stkSub _ z)).elim ne nf) (fun z => (hh p.1 z).2.2 p hp rfl), n, ne, nf, d⟩
theorem exc_of {B h'' : Heap} {l : List Env} {e : Addr} {C a0 : Value} (I : Inv X pins σ H s) (F : Flew X hid s.heap h'') (hB : ∀ b o, s.heap.get? b = some o → b ∉ frs X.stack → b ∉ hid → B.get? b = some o)
    (fl : Heap.FlyingW B l e C a0 h'') (hh : ∀ b ∈ hid, X.s₀.heap.get? b = none ∧ H b = none) (he : X.s₀.heap.get? e = none ∧ H e = none) (hex : ∀ b, b ∉ X.ex) : ExcAt X.s₀.heap H h'' e C := by
  obtain ⟨_, _, _, oe, vs, T, oT, ts, h1, h2, h3, h4, h5, h6, h7, h8, h9⟩ := fl
  have key : ∀ o, s.heap.get? T = some o → T ∈ hid := fun o q => by
    by_cases z : T ∈ hid
    · exact z
    · exfalso
      by_cases y : T ∈ frs X.stack
      · obtain ⟨_, o', ho, hd⟩ := I.stack.mem y
        obtain ⟨sl, e2⟩ := F.slot T o' ho hd
        rw [h7] at e2; cases e2
        exact hd ts h8
      · have := hB T o q y z
        rw [h5] at this; cases this
  refine ⟨he.1, he.2, oe, vs, T, oT, ts, a0, h1, h2, h3, h4, ⟨?_, ?_⟩, h6, h7, h8, h9⟩
  · cases q : X.s₀.heap.get? T with
    | none => rfl
    | some o =>
      obtain ⟨o', e1⟩ := I.base.there T o q (hex T)
      rw [(hh T (key o' e1)).1] at q; cases q
  · cases q : H T with
    | none => rfl
    | some u =>
      obtain ⟨o', e1⟩ := (I.hok T u q).get
      rw [(hh T (key o' e1)).2] at q; cases q
end
section
variable {P : Program} {w : World} {K : PySem.W.Frag} {mg : Str → Option Value} {base : Heap} {N : List Str} {qual : Str} {scope : Scope} {f : Addr} {cd : Value} {A : Around} {outer : List Env} {s₀ : Shared} {H₀ : Hp} {E : XK}
theorem xe_made {pins : List (Addr × Obj)} {σ : St} {H : Hp} {s : Shared} {h' : Heap} {e : Addr} {C : Value} {vs : List Value} (I : Inv (cxOf (CXX P w) P w K mg base N qual scope f cd A outer s₀ H₀ E) pins σ H s)
    (hx : Heap.MadeExcOf s.heap h' e C vs) (hE : E C none H) : (cxOf (CXX P w) P w K mg base N qual scope f cd A outer s₀ H₀ E).xe (.ref e) { s with heap := h' } := by
  refine wpAny_leaves_madeW (base := PySem.W.hideAll s.heap (frs (cxOf (CXX P w) P w K mg base N qual scope f cd A outer s₀ H₀ E).stack)) (h := s.heap) (outer := outer) (L := s₀.heap.objs.size) I.ok.frames rfl (fun b o q => PySem.W.of_hideAll _ q)
    (PySem.W.funFrames_hide I.stack fun env he a ha => List.mem_filterMap.mpr ⟨env, he, ha⟩) hx fun h'' t x1 x2 x3 x4 => ?_
  have F : Flew (cxOf (CXX P w) P w K mg base N qual scope f cd A outer s₀ H₀ E) [] s.heap h'' := ⟨fun b o q n _ => x1.1 b o (PySem.W.hideAll_get _ q n), (Heap.UpToSlots.of_keeps hx.keeps).trans x4⟩
  refine ⟨e, C, H, rfl, hE, I.os, I.bare, I.unFlew F (fun b z => absurd z (by simp)), I.hokFlew F (fun b z => absurd z (by simp)), exc_of I F (fun b o q n _ => PySem.W.hideAll_get _ q n) x1 (fun b z => absurd z (by simp)) ⟨?_, I.hok.gone hx.new⟩ fun b z => absurd (show b ∈ ([] : List Addr) from z) (by simp)⟩
  cases q : s₀.heap.get? e with
  | none => exact q
  | some o =>
    obtain ⟨o', e1⟩ := I.base.there e o q fun z => absurd (show e ∈ ([] : List Addr) from z) (by simp)
    rw [hx.new] at e1; cases e1
theorem passX : Passes (CXX P w) (cxOf (CXX P w) P w K mg base N qual scope f cd A outer s₀ H₀ E) E := by
  intro pins σ H s ev s' I hc
  obtain ⟨e, C, H', rfl, hE, os, bare, un, hok, new, free, oe, vs, T, oT, ts, a0, h1, h2, h3, h4, h5, h6, h7, h8, h9⟩ := hc
  have I' : Inv (cxOf (CXX P w) P w K mg base N qual scope f cd A outer s₀ H₀ E) pins σ H' s' := I.call' os un hok bare (fun b z => absurd z (by simp))
  have fresh : ∀ b, s.heap.get? b = none → s₀.heap.get? b = none := fun b z => by
    cases q : s₀.heap.get? b with
    | none => rfl
    | some o =>
      obtain ⟨o', e1⟩ := I.base.there b o q fun z => absurd (show b ∈ ([] : List Addr) from z) (by simp)
      rw [z] at e1; cases e1
  have me : e ∈ e :: T :: frs (cxOf (CXX P w) P w K mg base N qual scope f cd A outer s₀ H₀ E).stack := List.mem_cons_self
  have mT : T ∈ e :: T :: frs (cxOf (CXX P w) P w K mg base N qual scope f cd A outer s₀ H₀ E).stack := List.mem_cons_of_mem _ List.mem_cons_self
  refine wpAny_leaves_onW (base := PySem.W.hideAll s'.heap (e :: T :: frs (cxOf (CXX P w) P w K mg base N qual scope f cd A outer s₀ H₀ E).stack)) (outer := outer) (L := s₀.heap.objs.size) (cls := C) (a0 := a0) I.ok.frames rfl
    ⟨fun b o q => PySem.W.of_hideAll _ q, PySem.W.hideAll_none _ me, PySem.W.funFrames_hide I'.stack (fun env he a ha => List.mem_cons_of_mem _ (List.mem_cons_of_mem _ (List.mem_filterMap.mpr ⟨env, he, ha⟩))),
      oe, vs, T, oT, ts, h1, h2, h3, h4, PySem.W.hideAll_none _ mT, h6, h7, h8, h9⟩ fun h'' x1 x2 => ?_
  have nm : ∀ b, b ∉ frs (cxOf (CXX P w) P w K mg base N qual scope f cd A outer s₀ H₀ E).stack → b ∉ [e, T] → b ∉ e :: T :: frs (cxOf (CXX P w) P w K mg base N qual scope f cd A outer s₀ H₀ E).stack := fun b n m z => by
    rcases List.mem_cons.mp z with z | z
    · exact m (by rw [z]; simp)
    · rcases List.mem_cons.mp z with z | z
      · exact m (by rw [z]; simp)
      · exact n z
  have F : Flew (cxOf (CXX P w) P w K mg base N qual scope f cd A outer s₀ H₀ E) [e, T] s'.heap h'' := ⟨fun b o q n m => x1.1 b o (PySem.W.hideAll_get _ q (nm b n m)), x2⟩
  have hh : ∀ b ∈ [e, T], s₀.heap.get? b = none ∧ H' b = none := fun b z => by
    rcases List.mem_cons.mp z with z | z
    · subst z; exact ⟨fresh _ new, free⟩
    · have z' : b = T := by simpa using z
      subst z'; exact ⟨fresh _ h5.1, h5.2⟩
  exact ⟨e, C, H', rfl, hE, os.trans I.os, bare, I'.unFlew F (fun b z => (hh b z).1), I'.hokFlew F (fun b z => (hh b z).2), exc_of I' F (fun b o q n m => PySem.W.hideAll_get _ q (nm b n m)) x1 hh ⟨fresh _ new, free⟩ fun b z => absurd (show b ∈ ([] : List Addr) from z) (by simp)⟩
end
/-! ### a def that may raise -/
structure DefX (P : Program) (w : World) (K : PySem.W.Frag) (mg : Str → Option Value) (base : Heap) (k : Nat) (x : Str) (ps : List Str) (sp : Sp) : Prop where
  ex : ∃ (f : Addr) (fd : FuncData), FnOk P w K mg base (CXX P w) k f fd ps sp ∧ mg x = some (.ref f) ∧ PySem.W.keepIn K (.ref f) = true ∧ (∀ us : List Value, us.length = ps.length → bindArgs fd ⟨us, []⟩ = pure (ps.zip us))
theorem FnOk.forgetX {P : Program} {w : World} {K : PySem.W.Frag} {mg : Str → Option Value} {base : Heap} {k : Nat} {f : Addr} {fd : FuncData} {ps : List Str} {sp sp' : Sp} (F : FnOk P w K mg base (CXX P w) k f fd ps sp)
    (h : ∀ vs H Q E, sp' vs H Q E → sp vs H (fun v H' => Same H H' ∧ Q v H) (fun C d H' => Same H H' ∧ E C d H)) : FnOk P w K mg base (CXX P w) k f fd ps sp' where
  len := fun vs H Q E q => F.len _ _ _ _ (h _ _ _ _ q)
  run := fun A outer s H args us vs Q E hr e0 hb hv hs => by
    refine codeAny_mono (F.run A outer s H args us vs _ _ hr e0 hb hv (h _ _ _ _ hs)) fun r s' q => ?_
    cases r with
    | error e =>
      obtain ⟨e, C, H', rfl, ⟨sm, hE⟩, os, bare, un, hok, new, free, oe, vs, T, oT, ts, a0, h1, h2, h3, h4, h5, h6, h7, h8, h9⟩ := q
      have back : ∀ b, H' b = none → H b = none := fun b z => by
        cases q : H b with
        | none => rfl
        | some o => rw [sm b o q] at z; cases z
      exact ⟨e, C, H, rfl, hE, os, bare, un.forget, e0.hok.forget hok sm, new, back _ free, oe, vs, T, oT, ts, a0, h1, h2, h3, h4, ⟨h5.1, back _ h5.2⟩, h6, h7, h8, h9⟩
    | ok fl =>
      cases fl with
      | ret u =>
        obtain ⟨v, H', os, bare, un, hok, rv, sm, qv⟩ := q
        exact ⟨v, H, os, bare, un.forget, e0.hok.forget hok sm, rv, qv⟩
      | next => exact q
      | brk => exact q
      | cont => exact q
section
variable {P : Program} {w : World} {K : PySem.W.Frag} {mg : Str → Option Value} {base : Heap} {x : Str} {st : Stmt} {N ps : List Str} {k : Nat} {sp : Sp}
theorem Src.okX (S : Src K mg x st ps) (sc : FnScope N ps (defScope st)) (len : ∀ vs H Q E, sp vs H Q E → vs.length = ps.length)
    (hbody : ∀ (f : Addr) (cdv : Value) (A : Around) (outer : List Env) (s : Shared) (H : Hp) (vs : List V) (Q : VK) (E : XK), Room k (A.deeper (envOfC x (defScope st) s.heap.objs.size f cdv)) → sp vs H Q E →
      ∃ t, PSs (cxOf (CXX P w) P w K mg base N x (defScope st) f cdv A outer s H E) (defBody st) t ∧ t { nx := fun _ H' => Q .non H', rt := Q } (start N vs) H) : DefX P w K mg base (k + 1) x ps sp := by
  obtain ⟨f, fd, F, hm, hb⟩ := S.ex
  have kp := F.kp
  obtain ⟨oc, od, kV, doc, pm, an, cdv, ct, osl, rfl, lk, hcd⟩ := F.ex
  exact ⟨f, _, fn_of lk hcd sc len (hbody f cdv), hm, kp, hb⟩
theorem Src.okXF (S : Src K mg x st ps) (sc : FnScope N ps (defScope st)) (len : ∀ vs H Q E, sp vs H Q E → vs.length = ps.length)
    (hbody : ∀ (f : Addr) (cdv : Value) (A : Around) (outer : List Env) (s : Shared) (H : Hp) (vs : List V) (Q : VK) (E : XK), Room k (A.deeper (envOfC x (defScope st) s.heap.objs.size f cdv)) → sp vs H Q E →
      ∃ t, PSs (cxOf (CXX P w) P w K mg base N x (defScope st) f cdv A outer s H (fun C d H' => Same H H' ∧ E C d H)) (defBody st) t ∧ t { nx := fun _ H' => Same H H' ∧ Q .non H, rt := fun v H' => Same H H' ∧ Q v H } (start N vs) H) : DefX P w K mg base (k + 1) x ps sp := by
  obtain ⟨f, fd, F, hm, hb⟩ := S.ex
  have kp := F.kp
  obtain ⟨oc, od, kV, doc, pm, an, cdv, ct, osl, rfl, lk, hcd⟩ := F.ex
  have G : FnOk P w K mg base (CXX P w) (k + 1) f _ ps (fun vs H R E' => ∃ Q E, sp vs H Q E ∧ R = (fun v H' => Same H H' ∧ Q v H) ∧ E' = fun C d H' => Same H H' ∧ E C d H) :=
    fn_of lk hcd sc (fun vs H R E' ⟨Q, E, h, _⟩ => len vs H Q E h) fun A outer s H vs R E' hr ⟨Q, E, h, e1, e2⟩ => by
      subst e1 e2
      exact hbody f cdv A outer s H vs Q E hr h
  exact ⟨f, _, G.forgetX fun vs H Q E h => ⟨Q, E, h, rfl, rfl⟩, hm, kp, hb⟩
end
section
variable {X : Cx} {x : Str} {p pos : Pos} {e : Expr} {es : List Expr} {t : TA} {j k : Nat} {ps : List Str} {sp : Sp}
theorem pe_fnX {E : XK} (D : DefX X.prog X.w X.K X.mg X.base j x ps sp) (hr : Room k X.A) (hx : Passes (CXX X.prog X.w) X E) (ha : PA X (e :: es) t) (hg : Gl X x := by rfl) (hj : j ≤ k := by decide) (hdb : (x == ("__debug__" : Str)) = false := by decide)
    (he : starEach (e :: es) X.env = (false, eval e X.env) :: starEach es X.env := by rfl) (hpl : (backTo pos (starEach es X.env)).any (·.1) = false := by rfl) :
    PE X (.Call (.Name x p) (e :: es) [] pos) (tCall sp [] E t) := by
  obtain ⟨f, fd, F, hm, hk, hb⟩ := D.ex
  exact pe_call F (hr.mono hj) hg hm hk (.all hb) .nil hx ha hdb he hpl
end
/-! ### own classes of exceptions -/
def bmV : List Value := [.type "ValueError", .type "Exception", .type "BaseException", .type "object"]
/-- the address of the class of that name -/
def cA (K : PySem.W.Frag) (x : Str) : Addr := match PySem.W.nsIn K mainGlobals x with
  | some (some (.ref C)) => C
  | _ => 0
theorem cA_of {K : PySem.W.Frag} {x : Str} {C : Addr} (e : PySem.W.nsIn K mainGlobals x = some (some (.ref C))) : cA K x = C := by unfold cA; rw [e]
/-- what isinstance asks of the class of an exception -/
structure XK1 (K : PySem.W.Frag) (C : Addr) : Prop where
  ga : PySem.W.findIn K (.ref C) "__getattribute__" = some (some (.builtin "BaseException.__getattribute__"))
  gh : PySem.W.findIn K (.ref C) "__getattr__" = some none
  cl : PySem.W.findIn K (.ref C) "__class__" = some (some (.builtin "object.__class__"))
  gt : PySem.W.specialIn K (.builtin "object.__class__") "__get__" = some (some (.builtin "getset_descriptor.__get__"))
  tk : PySem.W.takesIn K (.builtin "object.__class__") = some true
  ob : PySem.W.mroIn K C (.type "object") = some true
  be : PySem.W.subIn K (.ref C) (.type "BaseException") = some true
/-- .. and what raising it asks -/
structure XK2 (K : PySem.W.Frag) (C : Addr) : Prop where
  ok : PySem.W.excIn K C bmV "ValueError.__new__" = true
theorem exc_obj {K : PySem.W.Frag} {h : Heap} {C : Addr} {bmB : List Value} {newId : String} (X : K.In h) (q : PySem.W.excIn K C bmB newId = true) :
    ∃ bm N nm qn bs hdct sn sub ab col dd k0 k1 k2 k3 k5 mN, h.get? C = some (excClassObj nm qn C N bs bm hdct sn sub ab col dd k0 k1 k2 k3 k5 newId) ∧ h.Ns N mN ∧ mN "__init__" = none ∧ OwnTail h bmB bm := by
  unfold PySem.W.excIn at q
  split at q
  · rename_i dd cd sl ho
    split at q
    · rename_i C' bm k0 k1 k2 k3 n k5 hm hs
      simp only [Bool.and_eq_true, Bool.not_eq_true', beq_iff_eq] at q
      obtain ⟨⟨⟨⟨⟨e1, e2⟩, hdel⟩, ht⟩, hok⟩, hni⟩ := q
      subst e1 e2
      obtain ⟨nm, bs, mro, ns, qn, hd, sn, sub, ab, col, del⟩ := cd
      dsimp only at hm hdel hok hni
      subst hm hdel
      obtain ⟨l⟩ := sl
      have hl : l = [k0, k1, k2, k3, some (.builtin n), k5] := hs
      subst hl
      exact ⟨bm, ns, nm, qn, bs, hd, sn, sub, ab, col, dd, k0, k1, k2, k3, k5, _, X _ _ ho, .of_isNs (PySem.W.isNs_of_in X hok), PySem.W.nsMap_none_of_in X hok hni, PySem.W.tail_of_in X ht⟩
    · cases q
  · cases q
section
variable {X : Cx} {x : Str} {np cpos pos : Pos} {e0 : Expr} {rest : List Expr} {t : TA} {E : XK}
def tRaise (C : Addr) (E : XK) (t : TA) : TS := fun _ σ H => t σ H fun vs H1 => vs.length ≤ sizeLine ∧ E (.ref C) none H1
/-- raise C(e, ..) -/
theorem ps_raise (hm : X.mg x = some (.ref (cA X.K x))) (xk : XK2 X.K (cA X.K x)) (hE : ∀ pins σ H s h' e vs, Inv X pins σ H s → Heap.MadeExcOf s.heap h' e (.ref (cA X.K x)) vs → E (.ref (cA X.K x)) none H → X.xe (.ref e) { s with heap := h' })
    (ha : PA X (e0 :: rest) t) (hc : X.calm = true := by rfl) (hg : Gl X x := by rfl) (hd : (x == ("__debug__" : Str)) = false := by decide) (he : starEach (e0 :: rest) X.env = (false, eval e0 X.env) :: starEach rest X.env := by rfl)
    (hpl : (backTo cpos (starEach rest X.env)).any (·.1) = false := by rfl) : PS X (.Raise (some (.Call (.Name x np) (e0 :: rest) [] cpos)) none pos) (tRaise (cA X.K x) E t) := by
  intro pins s σ H D I h
  obtain ⟨bm, N, nm, qn, bs, hdct, sn, sub, ab, col, dd, k0, k1, k2, k3, k5, mN, hC, hN, hni, T⟩ := exc_obj I.ok.mod.kin xk.ok
  refine wpAny_Raise_call_subT (C := cA X.K x) (nm := nm) (q := qn) (N := N) (bs := bs) (bm := bm) (hdct := hdct) (sn := sn) (sub := sub) (ab := ab) (col := col) (dd := dd) (k0 := k0) (k1 := k1) (k2 := k2) (k3 := k3) (k5 := k5)
    PySem.F.excBase_ValueError (mN := mN) (T.hasType PySem.F.excBase_ValueError.hasBase) (I.ok.hd hc) (by rw [he]; show (false || (backTo cpos (starEach rest X.env)).any (·.1)) = false; rw [hpl]; rfl) hni (ld_glob I hg hm ⟨rfl, ?_⟩ hd)
  have h2 := ha cpos pins s σ H _ I h
  rw [he] at h2 ⊢
  refine Calls.evalArgs_plain (thn h2 fun us s1 hq => ?_)
  obtain ⟨vs, H1, I1, r, hz, hE1⟩ := hq
  exact ⟨rfl, by rw [← r.length]; exact hz, I1.bk _ _ hC, hN.keeps I1.bk, T.keeps I1.bk, fun h' e hx => hE pins σ H1 s1 h' e us I1 hx hE1⟩
end
/-! ### isinstance of an exception -/
def ExcO (e : Addr) (C : Value) : HO := .ext fun h => ∃ o vs, h.get? e = some o ∧ o.cls = C ∧ o.data = .fields vs
section
open PySem.Builtin PySem.Builtin.ObjectAttr PySem.Builtin.Getset_descriptor
variable {prog : Program} {w : World} {A : Around} {E : Value → Shared → Prop} {s : Shared} {K : PySem.W.Frag} {e C : Addr} {oe : Obj}
theorem xtype {M : Model} {h : Heap} (hx : h.get? e = some oe) (hc : oe.cls = .ref C) : PySem.W.Looks M h (typeOf (.ref e)) (.ref C) := hc ▸ (PySem.W.Looks.ld hx).andThen .now
theorem xclass_get {R : Result → Shared → Prop} {tp : Value} (X : K.In s.heap) (hx : s.heap.get? e = some oe) (hc : oe.cls = .ref C) (hm : PySem.W.mroIn K C (.type "object") = some true) (h : R (.ok (.ret (.ref C))) s) :
    codeAny (model prog w) A (.call (.builtin "getset_descriptor.__get__") ⟨[.builtin "object.__class__", .ref e, tp], []⟩) R s := by
  obtain ⟨hh, g, dr, t, os⟩ := s
  have M0 := xtype (M := model prog w) hx hc
  have M1 := PySem.W.looks_mroIn (M := model prog w) X hm
  refine codeAny_call_builtin PySem.W.KF.slot_gs.plain PySem.W.KF.entry_gs (PySem.W.KF.slot_gs.check _ _ _ _ _ _ _ _ PySem.W.KF.type_class (PySem.W.KF.args_gs _ _ _) ?_)
  unfold Builtin.«getset_descriptor.__get__» descrGet
  rw [PySem.W.dga_obj]
  refine wpAny_bind (wpAny_pure ?_)
  unfold descrGetter descrCheckInstance descrNameAndClass isInstance
  simp only [PySem.W.KF.owner_class]
  repeat lk
  refine ⟨Code.quiet_builtin _ (by decide +kernel), codeAny_builtin PySem.W.KF.entry_class ?_⟩
  unfold Builtin.«object.__class__» shownTypeOf
  repeat lk
  exact h
theorem xfind {M : Model} {h : Heap} (X : K.In h) (Z : XK1 K C) : PySem.W.Looks M h (find (.ref e) (.ref C) "__class__") (.bind (.builtin "getset_descriptor.__get__") (.builtin "object.__class__")) := by
  intro A Q E s k q
  have X' := X.keeps k
  obtain ⟨hh, g, d, t, os⟩ := s
  have L1 := PySem.W.looks_findIn (M := M) X' Z.cl
  have L2 := PySem.W.looks_specialIn (M := M) X' Z.gt
  have L3 := PySem.W.looks_takesIn (M := M) X' Z.tk
  unfold find
  refine wpAny_bind (L1.at (wpAny_bind (L2.at (wpAny_bind (wpAny_bind (L3.at ?_))))))
  repeat lk
  exact q
theorem xclass_attr {Q : Option Value → Shared → Prop} (X : K.In s.heap) (Z : XK1 K C) (hx : s.heap.get? e = some oe) (hc : oe.cls = .ref C) (h : Q (some (.ref C)) { s with toks := s.toks + 1 }) :
    wpAny (model prog w) A (getAttr? (.ref e) "__class__") Q E s := by
  obtain ⟨hh, g, d, t, os⟩ := s
  have L0 := xtype (M := model prog w) hx hc
  have L1 := PySem.W.looks_findIn (M := model prog w) X Z.ga
  have L2 := PySem.W.looks_findIn (M := model prog w) X Z.gh
  have L3 := xfind (M := model prog w) (e := e) X Z
  have L4 := PySem.W.looks_subIn (M := model prog w) X Z.be
  have hk : builtinKind "BaseException.__getattribute__" = some .slot := by decide +kernel
  have hsplit : splitId "BaseException.__getattribute__" = some ("BaseException", "__getattribute__") := by decide +kernel
  unfold getAttr? getAttrBy? getAttrBy
  refine wpAny_bind (wpAny_mkText (wpAny_bind (wpAny_attempt (wpAny_holding (wpAny_bind (L0.at (wpAny_bind (L1.at ?_))))))))
  have hne : (Value.builtin "BaseException.__getattribute__" == Value.builtin "object.__getattribute__") = false := by decide +kernel
  dsimp only
  rw [if_neg (by rw [hne, Bool.and_false]; exact Bool.false_ne_true)]
  unfold getAttrByItsOwn hookBefore
  rw [if_pos (show onTheHeap (Value.ref C) = true from rfl)]
  refine wpAny_bind (L2.at ?_)
  refine wpAny_bind (wpAny_attempt (wpAny_holding ?_))
  unfold callGetattribute boundAndCalled
  rw [if_neg (show ¬ (false && onTheHeap (Value.builtin "BaseException.__getattribute__")) = true from Bool.false_ne_true)]
  refine wpAny_bind (wpAny_of_eq (PySem.F.attr_ValueError.ga.bind (.ref e)) ?_)
  refine wpAny_call (codeAny_call_builtin PySem.F.attr_ValueError.ga.plain PySem.F.entry_bexc_ga ?_)
  have ha := F.args_bexc_ga (.ref e) (.str "__class__" t)
  simp only [checkBuiltinCall, hk, hsplit]
  unfold isInstance
  repeat (any_goals (first | with_reducible refine PySem.W.Looks.at (by assumption) ?_ | wp_step))
  refine xclass_get (s := ⟨hh, g, d, t + 1, os⟩) X hx hc Z.ob (wpAny_pure ?_)
  show wpAny _ _ (handedOut (.ref C)) _ _ _
  repeat (any_goals (first | assumption | wp_step))
end
end L2
namespace L2
open PySem PySem.Spec PyProof.Rows
section
variable {K : PySem.W.Frag} {e C : Addr}
theorem cls_of_mro {v : Value} {b : Bool} (h : PySem.W.mroIn K C v = some b) : ∃ c d cd sl, K.lookup C = some ⟨c, d, .cls cd, sl⟩ := by
  unfold PySem.W.mroIn PySem.W.clsIn at h
  obtain ⟨cd, hc, _⟩ := Option.bind_eq_some_iff.mp h
  split at hc
  · rename_i c d cd' sl ho
    exact ⟨c, d, cd', sl, ho⟩
  · cases hc
theorem kitx_exc (Z : XK1 K C) : PySem.W.KitX K (.ref e) (.ref C) (fun h => ∃ o vs, h.get? e = some o ∧ o.cls = .ref C ∧ o.data = .fields vs) where
  ty := fun M h X p => by
    obtain ⟨o, vs, h1, h2, _⟩ := p
    exact xtype h1 h2
  it := fun M h X _ => by
    obtain ⟨c, d, cd, sl, ho⟩ := cls_of_mro Z.ob
    intro A Q E s k q
    unfold isType loadHead
    exact wpAny_bind (wpAny_loadPart (k _ _ (X _ _ ho)) (wpAny_pure q))
  ne := fun h tp dd its n sl X htp => by
    obtain ⟨c, d, cd, sl', ho⟩ := cls_of_mro Z.ob
    refine Bool.eq_false_iff.mpr fun q => ?_
    have e : C = tp := Value.ref.inj (beq_iff_eq.mp q)
    subst e
    have z := (X _ _ ho).symm.trans htp
    cases z
  ca := fun X p k => by
    obtain ⟨o, vs, h1, h2, _⟩ := p
    exact xclass_attr X Z h1 h2 k
end
section
variable {X : Cx}
theorem exc_get {pins : List (Addr × Obj)} {σ : St} {H : Hp} {s : Shared} {e : Addr} {C : Value} (I : Inv X pins σ H s) (h : H e = some (ExcO e C)) : ∃ o vs, s.heap.get? e = some o ∧ o.cls = C ∧ o.data = .fields vs := (I.hok e _ h).1
/-- isinstance(e, C), C an own class or a built-in one -/
theorem call_isiO (K : PySem.W.Frag) (hK : X.K = K := by rfl) : CallR X (.builtin "isinstance") (fun xs H Q => ∃ e C D b, xs = [.ref e, .ref D] ∧ H e = some (ExcO e (.ref C)) ∧ XK1 K C ∧ PySem.W.kitOne K (.ref C) (.ref D) = some b ∧ Q (.bl b) H) := by
  subst hK
  intro pins s σ H xs us Q I r h
  obtain ⟨e, C, D, b, rfl, he, Z, kit, q⟩ := h
  obtain ⟨u, v, rfl, ru, rv⟩ := vals2 r
  cases ru
  cases rv
  exact PySem.W.kia_one (kitx_exc Z) I.kIn (exc_get I he) kit (fun z => nomatch z) fun tk => ⟨.bl b, H, I.tok tk, rfl, q⟩
end
/-! ### try: y = f(..) except C as n: suite -/
abbrev Cx.held (X : Cx) (e : Addr) : Cx := { X with A := X.A.mark (some (.ref e)), calm := false, xe := fun _ _ => False }
section
variable {X : Cx} {pins : List (Addr × Obj)} {σ : St} {H : Hp} {s : Shared} {e : Addr}
theorem Inv.held (I : Inv X pins σ H s) (e : Addr) : Inv (X.held e) pins σ H s :=
  ⟨⟨I.ok.mod, I.ok.kind, I.ok.glob, I.ok.blt, I.ok.above, I.ok.inj, I.ok.has, I.ok.cab, fun z => (Bool.false_ne_true z).elim, I.ok.frames, I.ok.stk, I.ok.exf, I.ok.bs, I.ok.bsz, I.ok.noex, I.ok.exfs, I.ok.funs, I.ok.frf⟩,
    I.os, I.bare, I.base, I.loc, I.cell, I.free, I.freeC, I.pin, I.hok, I.len⟩
theorem Inv.unheld (ok : X.Ok) (I : Inv (X.held e) pins σ H s) : Inv X pins σ H s := ⟨ok, I.os, I.bare, I.base, I.loc, I.cell, I.free, I.freeC, I.pin, I.hok, I.len⟩
theorem Inv.track {o : HO} (I : Inv X pins σ H s) (hn : H e = none) (h0 : X.s₀.heap.get? e = none) (hL : e ≠ X.env.locals) (hC : ∀ x c, X.env.cells.lookup x = some c → c ≠ e) (hp : ∀ p ∈ X.pn ++ pins, p.1 ≠ e)
    (new : ObjOk X.prog X.w (upd H e o) s.heap e o) : Inv X pins σ (upd H e o) s := by
  refine ⟨I.ok, I.os, I.bare, ⟨I.base.keep, I.base.slot, fun b u q n hx => ?_, I.base.there, fun b xs q => ?_, fun b u v q => ?_, fun b ps q => ?_⟩, I.loc, I.cell, ?_, fun x c q => ?_, fun p q => ?_, fun b u q => ?_, I.len⟩
  · rw [upd_ne (fun z => by rw [z, h0] at q; cases q)]
    exact I.base.free b u q n hx
  · have z := I.base.tups b xs q
    rw [upd_ne (ne_of_none z hn)]; exact z
  · have z := I.base.frzs b u v q
    rw [upd_ne (ne_of_none z hn)]; exact z
  · obtain ⟨more, z⟩ := I.base.tbls b ps q
    exact ⟨more, by rw [upd_ne (ne_of_none z hn)]; exact z⟩
  · rw [upd_ne (Ne.symm hL)]; exact I.free
  · rw [upd_ne (hC x c q)]; exact I.freeC x c q
  · obtain ⟨a, b, c, d, f⟩ := I.pin p q
    exact ⟨a, by rw [upd_ne (hp p q)]; exact b, c, d, f⟩
  · by_cases hb : b = e
    · subst hb
      rw [upd_same] at q; cases q
      exact new
    · rw [upd_ne hb] at q
      exact (I.hok b u q).stay (fun _ _ _ z => z) (fun c z => by rw [upd_ne (ne_of_none z hn)]; exact z) fun c xs z => by rw [upd_ne (ne_of_none z hn)]; exact z
theorem Inv.forgetLoc {h' : Heap} {m' : Str → Option Value} {t' : Nat} (I : Inv X pins σ H s) (hn : h'.Ns X.env.locals m') (hs : Heap.SameBut X.env.locals s.heap h') : Inv X pins (List.replicate X.N.length none) H { s with heap := h', toks := t' } := by
  have neL : ∀ b o, X.s₀.heap.get? b = some o → b ≠ X.env.locals := fun b o q => Nat.ne_of_lt (Nat.lt_of_lt_of_le (Heap.lt_size q) I.ok.above)
  refine ⟨I.ok, I.os, I.bare, ⟨fun b o q n hb hx => (hs.2 b (neL b o q)).trans (I.base.keep b o q n hb hx), fun b o q n hb hx => ?_, I.base.free, fun b o q hx => ?_, I.base.tups, I.base.frzs, I.base.tbls⟩, ⟨m', hn, fun i x v e1 e2 e3 => ?_⟩, fun x c q => ?_, I.free, I.freeC, fun p hp => ?_, fun a o q => ?_, by rw [List.length_replicate]⟩
  · obtain ⟨sl, e1⟩ := I.base.slot b o q n hb hx
    exact ⟨sl, (hs.2 b (neL b o q)).trans e1⟩
  · obtain ⟨o', e1⟩ := I.base.there b o q hx
    exact ⟨o', (hs.2 b (neL b o q)).trans e1⟩
  · rw [List.getElem?_replicate] at e2
    split at e2 <;> cases e2
  · obtain ⟨v, o, ho, hd⟩ := I.cell x c q
    exact ⟨v, o, (hs.2 c (I.cne x c q)).trans ho, hd⟩
  · obtain ⟨a, b, c, d, f⟩ := I.pin p hp
    exact ⟨(hs.2 p.1 c).trans a, b, c, d, f⟩
  · refine (I.hok a o q).stay (fun b u hb r => (hs.2 b ?_).trans r) (fun _ z => z) fun _ _ z => z
    intro z
    have t : H b ≠ none := by
      rcases hb with rfl | hb
      · rw [q]; exact fun z => nomatch z
      · rw [hb]; exact fun z => nomatch z
    exact t (by rw [z]; exact I.free)
end
def tTry (K : PySem.W.Frag) (Cx : Addr) (i j : Nat) (ta : TA) (sp : Sp) (th : TS) : TS := fun D σ H => ta σ H fun vs H1 => sp vs H1 (fun v H2 => D.nx (σ.set i (some v)) H2) fun C _ H2 =>
  ∃ c, C = .ref c ∧ PySem.W.exmOne K (.ref c) (.ref Cx) = some true ∧ ∀ e, H2 e = none → th { nx := fun _ _ => False, rt := D.rt } (σ.set j (some (.ref e))) (upd H2 e (ExcO e (.ref c)))
theorem ps_try {X : Cx} {fn y n x : Str} {i j lv k : Nat} {ps : List Str} {sp : Sp} {e0 : Expr} {es : List Expr} {ta : TA} {pf pc py pst np hpos pos : Pos} {b₀ : Stmt} {suite : List Stmt} {th : TS}
    (Df : DefX X.prog X.w X.K X.mg X.base lv fn ps sp) (hr : Room k X.A) (hN : X.N.Nodup) (hi : X.N[i]? = some y) (hy : X.env.scope.names.lookup y = some .local) (hj : X.N[j]? = some n) (hn : X.env.scope.names.lookup n = some .local)
    (hcx : X.mg x = some (.ref (cA X.K x))) (ha : PA X.nox (e0 :: es) ta) (hs : ∀ e, PSs (X.held e) (b₀ :: suite) th)
    (hlv : lv ≤ k := by decide) (hg : Gl X fn := by rfl) (hgx : Gl X x := by rfl) (hst : X.stack = X.env :: X.outer := by rfl) (hfr : X.env.frame = some X.env.locals := by rfl) (hex : X.ex = [] := by rfl) (hdb : (fn == ("__debug__" : Str)) = false := by decide) (hdx : (x == ("__debug__" : Str)) = false := by decide)
    (he : starEach (e0 :: es) X.env = (false, eval e0 X.env) :: starEach es X.env := by rfl) (hpl : (backTo pc (starEach es X.env)).any (·.1) = false := by rfl)
    (hsw : swapsWith (.Call (.Name fn pf) (e0 :: es) [] pc) (some (.Name y py)) pst.line X.env = pure false := by rfl) :
    PS X (.Try [.Assign [.Name y py] (.Call (.Name fn pf) (e0 :: es) [] pc) pst] [.ExceptHandler (some (.Name x np)) (some n) (b₀ :: suite) hpos] [] [] pos) (tTry X.K (cA X.K x) i j ta sp th) := by
  intro pins s σ H D I h
  obtain ⟨f, fd, F, hm, hk, hb⟩ := Df.ex
  refine wpAny_Try_except (wpAny_execs_cons (wpAny_Assign_Name (wpAny_Call_Name_kw (ld_glob I hg hm (PySem.W.callWith_K (h₀ := X.base) I.ok.mod.kin hk ?_ he hpl) hdb)) hsw))
  refine wpAny_mono (ha pc pins s σ H _ (I.wish _) h) (fun us s1 hq1 => ?_) fun _ _ z => False.elim z
  obtain ⟨vs, H1, J1, r, q⟩ := hq1
  have I1 := J1.unwish
  refine ⟨I1.kIn, ?_⟩
  have hl : us.length = ps.length := by rw [← r.length]; exact F.len _ _ _ _ q
  have bd := (Binds.all (K := X.K) hb) s1 us I1.kIn (by rw [List.append_nil]; exact hl)
  rw [List.append_nil] at bd
  refine wpAny_call (codeAny_mono (F.run X.A X.stack s1 H1 ⟨us, []⟩ us vs _ _ (hr.mono hlv) I1.env0 bd r q) fun rs s2 hq => ?_)
  cases rs with
  | ok fl =>
    cases fl with
    | ret u =>
      obtain ⟨v, H2, I2, rv, q2⟩ := I1.after hq
      exact store_ok I2 hN hi (.inl hy) rv (fun s3 I3 => wpAny_execs_nil (wpAny_execs_nil ⟨_, H2, I3, q2⟩)) (.inr hy)
    | next => exact False.elim hq
    | brk => exact False.elim hq
    | cont => exact False.elim hq
  | error ev =>
    obtain ⟨e, C, H2, rfl, hE, os, bare, un, hok, new, free, oe, vs', T, oT, ts, a0, h1, h2, h3, h4, h5, h6, h7, h8, h9⟩ := hq
    obtain ⟨c, rfl, hsub, hth⟩ := hE
    have I2 : Inv X pins σ H2 s2 := I1.call' os un hok bare (fun b z => absurd z (by simp))
    have fresh : ∀ b, s1.heap.get? b = none → X.s₀.heap.get? b = none := fun b z => by
      cases q : X.s₀.heap.get? b with
      | none => rfl
      | some o =>
        obtain ⟨o', e1⟩ := I1.base.there b o q (by rw [hex]; simp)
        rw [z] at e1; cases e1
    have pnn : ∀ b, s1.heap.get? b = none → ∀ p ∈ X.pn ++ pins, p.1 ≠ b := fun b z p hp y => by
      have := (I1.pin p hp).1
      rw [y, z] at this; cases this
    have me : e ∈ e :: T :: frs X.stack := List.mem_cons_self
    have mT : T ∈ e :: T :: frs X.stack := List.mem_cons_of_mem _ List.mem_cons_self
    have nm : ∀ b, b ∉ frs X.stack → b ∉ [e, T] → b ∉ e :: T :: frs X.stack := fun b n m z => by
      rcases List.mem_cons.mp z with z | z
      · exact m (by rw [z]; simp)
      · rcases List.mem_cons.mp z with z | z
        · exact m (by rw [z]; simp)
        · exact n z
    have hh : ∀ b ∈ [e, T], X.s₀.heap.get? b = none ∧ H2 b = none ∧ ∀ p ∈ X.pn ++ pins, p.1 ≠ b := fun b z => by
      rcases List.mem_cons.mp z with z | z
      · subst z; exact ⟨fresh _ new, free, pnn _ new⟩
      · have z' : b = T := by simpa using z
        subst z'; exact ⟨fresh _ h5.1, h5.2, pnn _ h5.1⟩
    refine wpAny_looks_onW (base := PySem.W.hideAll s2.heap (e :: T :: frs X.stack)) (outer := X.outer) (L := X.env.locals) (cls := .ref c) (a0 := a0) (by rw [I.ok.frames, hst]) hfr
      ⟨fun b o q => PySem.W.of_hideAll _ q, PySem.W.hideAll_none _ me, by rw [← hst]; exact PySem.W.funFrames_hide I2.stack (fun env he a ha => List.mem_cons_of_mem _ (List.mem_cons_of_mem _ (List.mem_filterMap.mpr ⟨env, he, ha⟩))),
        oe, vs', T, oT, ts, h1, h2, h3, h4, PySem.W.hideAll_none _ mT, h6, h7, h8, h9⟩ fun h₄ held u4 => ?_
    refine wpAny_landsW held fun h₅ fly u5 => ?_
    have F5 : Flew X [e, T] s2.heap h₅ := ⟨fun b o q n m => fly.1 b o (PySem.W.hideAll_get _ q (nm b n m)), u4.trans u5⟩
    have I5 := I2.flew F5 hh
    obtain ⟨ob, hob, hobc⟩ := fly.there
    refine wpAny_handleBy_cons (codeAny_handlers_test (ld_glob (I5.held e) hgx hcx ?_ hdx)) (by intro q; cases q)
    refine (PySem.W.exm_one (K := X.K) I5.kIn (xtype hob hobc) hsub).here ?_
    refine codeAny_handlers_suite_as (lands_againW fly fun h₆ fly6 u6 => ?_)
    have F6 : Flew X [e, T] s2.heap h₆ := ⟨fun b o q n m => fly6.1 b o (PySem.W.hideAll_get _ q (nm b n m)), (u4.trans u5).trans u6⟩
    have I6 := I2.flew F6 hh
    obtain ⟨oe6, vs6, he6, hc6, hd6, _⟩ := fly6.first
    have I7 : Inv X pins σ (upd H2 e (ExcO e (.ref c))) { s2 with heap := h₆ } := by
      refine I6.track free (fresh e new) (fun z => ?_) (fun x c' q z => ?_) (pnn e new) ⟨⟨oe6, vs6, he6, hc6, hd6⟩, ⟨oe6, he6⟩, fun g1 g2 p k => ?_⟩
      · obtain ⟨m, ⟨o, es, ep, ho, hd, _⟩, _⟩ := I6.loc
        rw [← z] at ho
        have y := ho.symm.trans he6
        cases y
        rw [hd6] at hd; cases hd
      · obtain ⟨v, o, ho, hd⟩ := I6.cell x c' q
        rw [z] at ho
        have y := ho.symm.trans he6
        cases y
        rw [hd6] at hd; cases hd
      · obtain ⟨o, vs, a, b, d⟩ := p
        exact ⟨o, vs, k o a, b, d⟩
    refine store_ok I7 hN hj (.inl hn) (v := .ref e) rfl (fun s7 I8 => ?_) (.inr hn)
    refine wpAny_mono (hs e pins s7 _ _ _ (I8.held e) (hth e free)) (fun fl s8 q8 => ?_) fun _ _ z => False.elim z
    cases fl with
    | ret u =>
      obtain ⟨v, σ', H8, I9, rv, qv⟩ := q8
      have I9 := I9.unheld I.ok
      obtain ⟨m, hm', _⟩ := id I9.loc
      exact wpAny_nameGoes hn hm' (by rw [I.ok.kind]; rfl) fun h₉ m₉ hn₉ hs₉ => ⟨v, _, H8, I9.forgetLoc hn₉ hs₉, rv, qv⟩
    | next => obtain ⟨_, _, _, z⟩ := q8; exact False.elim z
    | brk => obtain ⟨_, _, _, z⟩ := q8; exact False.elim z
    | cont => obtain ⟨_, _, _, z⟩ := q8; exact False.elim z
end L2
namespace L2
open PySem PySem.Spec PyProof.Rows
/-! ### the facts of classes, as they stand behind the top -/
section
variable {K : PySem.W.Frag} {h : Heap} {mg : Str → Option Value} {x y : Str} {C D : Addr} {v : Bool} {n : String}
theorem nsHave (X : K.In h) (a : PySem.W.nsIn K mainGlobals x = some (some (.ref C))) : PySem.W.nsIn K mainGlobals x = some (some (.ref C)) := a
theorem m_mk (X : K.In h) (G : h.Ns mainGlobals mg) (a : PySem.W.nsIn K mainGlobals x = some (some (.ref C))) : mg x = some (.ref (cA K x)) := by
  rw [cA_of a]; exact PySem.W.mg_of X G a
theorem x2_mk (a : PySem.W.nsIn K mainGlobals x = some (some (.ref C))) (q : PySem.W.excIn K C [.type "ValueError", .type "Exception", .type "BaseException", .type "object"] "ValueError.__new__" = true) : XK2 K (cA K x) := by
  rw [cA_of a]; exact ⟨q⟩
theorem x1_mk (a : PySem.W.nsIn K mainGlobals x = some (some (.ref C))) (q1 : PySem.W.findIn K (.ref C) "__getattribute__" = some (some (.builtin "BaseException.__getattribute__"))) (q2 : PySem.W.findIn K (.ref C) "__getattr__" = some none)
    (q3 : PySem.W.findIn K (.ref C) "__class__" = some (some (.builtin "object.__class__"))) (q4 : PySem.W.specialIn K (.builtin "object.__class__") "__get__" = some (some (.builtin "getset_descriptor.__get__")))
    (q5 : PySem.W.takesIn K (.builtin "object.__class__") = some true) (q6 : PySem.W.mroIn K C (.type "object") = some true) (q7 : PySem.W.subIn K (.ref C) (.type "BaseException") = some true) : XK1 K (cA K x) := by
  rw [cA_of a]; exact ⟨q1, q2, q3, q4, q5, q6, q7⟩
theorem kit_mk (a : PySem.W.nsIn K mainGlobals x = some (some (.ref C))) (b : PySem.W.nsIn K mainGlobals y = some (some (.ref D))) (q : PySem.W.kitOne K (.ref C) (.ref D) = some v) : PySem.W.kitOne K (.ref (cA K x)) (.ref (cA K y)) = some v := by
  rw [cA_of a, cA_of b]; exact q
theorem exm_mk (a : PySem.W.nsIn K mainGlobals x = some (some (.ref C))) (b : PySem.W.nsIn K mainGlobals y = some (some (.ref D))) (q1 : PySem.W.subIn K (.ref D) (.type "BaseException") = some true)
    (q2 : PySem.W.isClsIn K D = true) (q3 : PySem.W.typeIn K (.ref D) = some (.type "type")) (q4 : PySem.W.subIn K (.ref C) (.ref D) = some true) : PySem.W.exmOne K (.ref (cA K x)) (.ref (cA K y)) = some true := by
  rw [cA_of a, cA_of b]
  unfold PySem.W.exmOne PySem.W.kitCls
  unfold PySem.W.isClsIn at q2
  rw [q1, if_pos (by decide)]
  dsimp only
  rw [q2, q3, if_pos (by decide)]
  exact q4
end
end L2
namespace L2
open PySem PySem.Spec PyProof.Rows
section
variable {P : Program} {w : World} {K : PySem.W.Frag} {mg : Str → Option Value} {base : Heap} {x : Str} {st : Stmt} {N ps : List Str} {k : Nat} {sp : Sp}
end
section
variable {X : Cx} {x : Str} {p pos : Pos} {e : Expr} {es : List Expr} {t : TA} {j k : Nat} {ps : List Str} {sp : Sp}
end
/-! ### lists by what is true of each item -/
theorem at_mem {xs : List V} {k : Int} (h0 : 0 ≤ k) (h : k < (xs.length : Int)) : ∃ v, atI xs k = some v ∧ v ∈ xs := by
  have hk : k.toNat < xs.length := by omega
  have q : atI xs ((k.toNat : Nat) : Int) = some xs[k.toNat] := atI_nat (List.getElem?_eq_getElem hk)
  rw [show ((k.toNat : Nat) : Int) = k by omega] at q
  exact ⟨_, q, List.getElem_mem hk⟩
theorem mem1 {v : V} {xs : List V} {p : V → Prop} (h : p v) (t : ∀ x ∈ xs, p x) : ∀ x ∈ v :: xs, p x := fun x hx => by
  rcases List.mem_cons.mp hx with rfl | hx
  · exact h
  · exact t x hx
theorem mem0 {p : V → Prop} : ∀ x ∈ ([] : List V), p x := fun x hx => by cases hx
theorem same_gone {H H' : Hp} {a : Addr} (s : Same H H') (h : H' a = none) : H a = none := by
  cases q : H a with
  | none => rfl
  | some o => rw [s a o q] at h; cases h
/-- a list that is newer than H is changed -/
theorem same_put {H H' : Hp} {l : Addr} {o : HO} (s : Same H H') (h : H l = none) : Same H (upd H' l o) := fun b u q => by
  rw [upd_ne (ne_of_none q h)]; exact s b u q
end L2
namespace L2
open PySem PySem.W PyProof.Rows
def tSeqN (t u : TS) : TS := tSeq t u
theorem pss_consN {X : Cx} {st : Stmt} {rest : List Stmt} {t u : TS} (h1 : PS X st t) (h2 : PSs X rest u) : PSs X (st :: rest) (tSeqN t u) := pss_cons h1 h2
def Mkd (p : Prop) : Prop := p
variable {t1 t2 t3 t4 t5 t6 t7 t8 t9 t10 : TS} {D : Ends} {σ : St} {H : Hp}
theorem sqG (h : Mkd (tSeqN t1 t2 D σ H)) : tSeqN t1 t2 D σ H := h
theorem sqN2 (h : let v1 := t2; tSeq t1 v1 D σ H) : Mkd ((tSeqN t1 t2) D σ H) := h
theorem sqN3 (h : let v2 := t3; let v1 := tSeq t2 v2; tSeq t1 v1 D σ H) : Mkd ((tSeqN t1 (tSeqN t2 t3)) D σ H) := h
theorem sqN4 (h : let v3 := t4; let v2 := tSeq t3 v3; let v1 := tSeq t2 v2; tSeq t1 v1 D σ H) : Mkd ((tSeqN t1 (tSeqN t2 (tSeqN t3 t4))) D σ H) := h
theorem sqN5 (h : let v4 := t5; let v3 := tSeq t4 v4; let v2 := tSeq t3 v3; let v1 := tSeq t2 v2; tSeq t1 v1 D σ H) : Mkd ((tSeqN t1 (tSeqN t2 (tSeqN t3 (tSeqN t4 t5)))) D σ H) := h
theorem sqN6 (h : let v5 := t6; let v4 := tSeq t5 v5; let v3 := tSeq t4 v4; let v2 := tSeq t3 v3; let v1 := tSeq t2 v2; tSeq t1 v1 D σ H) : Mkd ((tSeqN t1 (tSeqN t2 (tSeqN t3 (tSeqN t4 (tSeqN t5 t6))))) D σ H) := h
theorem sqN7 (h : let v6 := t7; let v5 := tSeq t6 v6; let v4 := tSeq t5 v5; let v3 := tSeq t4 v4; let v2 := tSeq t3 v3; let v1 := tSeq t2 v2; tSeq t1 v1 D σ H) : Mkd ((tSeqN t1 (tSeqN t2 (tSeqN t3 (tSeqN t4 (tSeqN t5 (tSeqN t6 t7)))))) D σ H) := h
theorem sqN8 (h : let v7 := t8; let v6 := tSeq t7 v7; let v5 := tSeq t6 v6; let v4 := tSeq t5 v5; let v3 := tSeq t4 v4; let v2 := tSeq t3 v3; let v1 := tSeq t2 v2; tSeq t1 v1 D σ H) : Mkd ((tSeqN t1 (tSeqN t2 (tSeqN t3 (tSeqN t4 (tSeqN t5 (tSeqN t6 (tSeqN t7 t8))))))) D σ H) := h
theorem sqN9 (h : let v8 := t9; let v7 := tSeq t8 v8; let v6 := tSeq t7 v7; let v5 := tSeq t6 v6; let v4 := tSeq t5 v5; let v3 := tSeq t4 v4; let v2 := tSeq t3 v3; let v1 := tSeq t2 v2; tSeq t1 v1 D σ H) : Mkd ((tSeqN t1 (tSeqN t2 (tSeqN t3 (tSeqN t4 (tSeqN t5 (tSeqN t6 (tSeqN t7 (tSeqN t8 t9)))))))) D σ H) := h
theorem sqN10 (h : let v9 := t10; let v8 := tSeq t9 v9; let v7 := tSeq t8 v8; let v6 := tSeq t7 v7; let v5 := tSeq t6 v6; let v4 := tSeq t5 v5; let v3 := tSeq t4 v4; let v2 := tSeq t3 v3; let v1 := tSeq t2 v2; tSeq t1 v1 D σ H) : Mkd ((tSeqN t1 (tSeqN t2 (tSeqN t3 (tSeqN t4 (tSeqN t5 (tSeqN t6 (tSeqN t7 (tSeqN t8 (tSeqN t9 t10))))))))) D σ H) := h
inductive Ee4 {α0 α1 α2 α3 : Type} (p : α0 → α1 → α2 → α3 → Prop) : Prop | mk (x0 : α0) (x1 : α1) (x2 : α2) (x3 : α3) (h : p x0 x1 x2 x3) : Ee4 p
inductive Ee5 {α0 α1 α2 α3 α4 : Type} (p : α0 → α1 → α2 → α3 → α4 → Prop) : Prop | mk (x0 : α0) (x1 : α1) (x2 : α2) (x3 : α3) (x4 : α4) (h : p x0 x1 x2 x3 x4) : Ee5 p
inductive Ee6 {α0 α1 α2 α3 α4 α5 : Type} (p : α0 → α1 → α2 → α3 → α4 → α5 → Prop) : Prop | mk (x0 : α0) (x1 : α1) (x2 : α2) (x3 : α3) (x4 : α4) (x5 : α5) (h : p x0 x1 x2 x3 x4 x5) : Ee6 p
inductive Ee10 {α0 α1 α2 α3 α4 α5 α6 α7 α8 α9 : Type} (p : α0 → α1 → α2 → α3 → α4 → α5 → α6 → α7 → α8 → α9 → Prop) : Prop | mk (x0 : α0) (x1 : α1) (x2 : α2) (x3 : α3) (x4 : α4) (x5 : α5) (x6 : α6) (x7 : α7) (x8 : α8) (x9 : α9) (h : p x0 x1 x2 x3 x4 x5 x6 x7 x8 x9) : Ee10 p
inductive Aa3 (a0 a1 a2 : Prop) : Prop | mk (h0 : a0) (h1 : a1) (h2 : a2) : Aa3 a0 a1 a2
inductive Aa4 (a0 a1 a2 a3 : Prop) : Prop | mk (h0 : a0) (h1 : a1) (h2 : a2) (h3 : a3) : Aa4 a0 a1 a2 a3
inductive Aa5 (a0 a1 a2 a3 a4 : Prop) : Prop | mk (h0 : a0) (h1 : a1) (h2 : a2) (h3 : a3) (h4 : a4) : Aa5 a0 a1 a2 a3 a4
inductive Aa6 (a0 a1 a2 a3 a4 a5 : Prop) : Prop | mk (h0 : a0) (h1 : a1) (h2 : a2) (h3 : a3) (h4 : a4) (h5 : a5) : Aa6 a0 a1 a2 a3 a4 a5
inductive Aa7 (a0 a1 a2 a3 a4 a5 a6 : Prop) : Prop | mk (h0 : a0) (h1 : a1) (h2 : a2) (h3 : a3) (h4 : a4) (h5 : a5) (h6 : a6) : Aa7 a0 a1 a2 a3 a4 a5 a6
inductive Aa11 (a0 a1 a2 a3 a4 a5 a6 a7 a8 a9 a10 : Prop) : Prop | mk (h0 : a0) (h1 : a1) (h2 : a2) (h3 : a3) (h4 : a4) (h5 : a5) (h6 : a6) (h7 : a7) (h8 : a8) (h9 : a9) (h10 : a10) : Aa11 a0 a1 a2 a3 a4 a5 a6 a7 a8 a9 a10
end L2
namespace L2
open PySem PySem.Spec PyProof.Rows
/-! ### an own class of exceptions with an __init__ of its own, right under one without -/
structure XK3 (K : PySem.W.Frag) (C f : Addr) : Prop where
  ob : ∃ D nm q N bs sn sub ab col dd k0 k1 k2 k3 k5, K.lookup C = some (excClassObj nm q C N bs (.ref D :: bmV) true sn sub ab col dd k0 k1 k2 k3 k5 "ValueError.__new__") ∧ PySem.W.excIn K D bmV "ValueError.__new__" = true
  init : PySem.W.findIn K (.ref C) "__init__" = some (some (.ref f))
  fn : PySem.W.typeIn K (.ref f) = some (.type "function")
  sa : PySem.W.findIn K (.ref C) "__setattr__" = some (some (.builtin "object.__setattr__"))
  kp : PySem.W.keepIn K (.ref C) = true
  z : XK1 K C
section
variable {prog : Program} {w : World} {A : Around} {E : Value → Shared → Prop} {s : Shared} {K : PySem.W.Frag} {e C f : Addr} {oe : Obj}
theorem xmake_init {Q : Value → Shared → Prop} {rest : List Value} (X : K.In s.heap) (Z : XK3 K C f)
    (hq : ∀ h' e, Heap.MadeExcOf s.heap h' e (.ref C) rest → wpAny (model prog w) (A.under (.builtin "type.__call__" ⟨.ref C :: rest, []⟩)) (call (.ref f) (.ref e :: rest)) (fun r s' => r = .none ∧ Q (.ref e) s') E { s with heap := h' })
    (hrest : rest.length ≤ sizeLine) : wpAny (model prog w) A (call (.ref C) rest) Q E s := by
  obtain ⟨h, g, d, t, os⟩ := s
  obtain ⟨D, nm, q, N, bs, sn, sub, ab, col, dd, k0, k1, k2, k3, k5, lk, qD⟩ := Z.ob
  have hC := X _ _ lk
  obtain ⟨bm', N', nm', qn', bs', hd', sn', sub', ab', col', dd', j0, j1, j2, j3, j5, mN', hD, hN', hni', T'⟩ := exc_obj X qD
  have T : OwnTail h bmV (.ref D :: bmV) := .own hD hN' hni' .base
  have F := PySem.F.excBase_ValueError
  have f1 := tc_lookup
  have f2 := tc_bind (.ref C)
  have hT : (⟨h, g, d, t, os⟩ : Shared).TypeIs (.ref C) "type" := ⟨_, hC, rfl⟩
  refine wpAny_call (codeAny_of_tree ?_)
  show wpAny _ _ (callAny (.ref C) _) _ _ _
  repeat (any_goals (first | assumption | with_reducible refine wpAny_loadPart_at hC ?_ | wp_step))
  refine ⟨rfl, codeAny_call_builtin_at (Code.quiet_builtin _ (by decide +kernel)) entry_typeCall (wpAny_check_type_call_sub hC ?_)⟩
  repeat (first | with_reducible refine wpAny_loadPart_at hC ?_ | with_reducible refine wpAny_madeBy_exc hC ?_ | wp_step)
  refine codeAny_call_builtin_code (Code.quiet_builtin _ F.quiet) (wpAny_check_new_subT F T hC (codeAny_exc_new_subT F T hC ?_ hrest))
  show wpAny _ _ _ _ _ _
  have kp : ∀ b o, h.get? b = some o → ((h.push { cls := .type "tuple", data := .seq rest.toArray }).push { cls := .ref C, data := .fields #[.ref h.objs.size, .none, .none, .none, .bool false, .none] }).get? b = some o := fun b o e => Heap.get?_push_of_some _ (Heap.get?_push_of_some _ e)
  have hC₁ := kp _ _ hC
  have X₁ := X.keeps kp
  have hget : ((h.push { cls := .type "tuple", data := .seq rest.toArray }).push { cls := .ref C, data := .fields #[.ref h.objs.size, .none, .none, .none, .bool false, .none] }).get? (h.objs.size + 1) = some { cls := .ref C, data := .fields #[.ref h.objs.size, .none, .none, .none, .bool false, .none] } := by heap_get
  have hcC : (Value.ref C :: (.ref D :: bmV)).contains (.ref C) = true := by simp
  have L1 := PySem.W.looks_findIn (M := model prog w) X₁ Z.init
  have L2 := PySem.W.looks_typeIn (M := model prog w) X₁ Z.fn
  unfold isInstance
  repeat (first | with_reducible refine wpAny_loadPart_at hget ?_ | (refine wpAny_isSubtype_exc hC₁ ?_; rw [hcC]) | wp_step)
  show wpAny _ _ (typeLookup (.ref C) _) _ _ _
  refine L1.at (wpAny_holding (wpAny_bind ?_))
  unfold bindSpecial
  refine wpAny_bind (L2.at ?_)
  rw [if_pos (by decide)]
  refine wpAny_pure (wpAny_bind (wpAny_mono (hq _ (h.objs.size + 1) ⟨kp, Heap.get?_none_of_le (Nat.le_succ _), h.objs.size, hget, Heap.get?_none_of_le (Nat.le_refl _), Heap.get?_push_of_some _ (Heap.get?_push_at rfl rfl)⟩) (fun r s' hr => ?_) fun _ _ x => x))
  obtain ⟨rfl, hQ⟩ := hr
  wp_walk
  exact hQ
end
section
open PySem.Builtin PySem.Builtin.ObjectAttr
variable {prog : Program} {w : World} {A : Around} {E : Value → Shared → Prop} {s : Shared} {K : PySem.W.Frag} {e C f dx : Addr} {oe : Obj} {vs : Array Value} {mA : Str → Option Value} {name : Str} {v : Value}
end
section
open PySem.Builtin PySem.Builtin.ObjectAttr
variable {prog : Program} {w : World} {A : Around} {E : Value → Shared → Prop} {s : Shared} {K : PySem.W.Frag} {x C f dx : Addr} {o : Obj} {vs : Array Value} {mA : Str → Option Value} {name : Str} {v : Value}
set_option maxHeartbeats 2000000 in
theorem xset_entry {tk : Tok} {Q : Fin → Shared → Prop} (X : K.In s.heap) (Z : XK3 K C f) (np : PySem.W.findIn K (.ref C) name = some none) (hx : s.heap.get? x = some o) (hc : o.cls = .ref C) (hdt : o.data = .fields vs) (hdn : o.dict = none)
    (hq : ∀ h' tk', h'.get? x = some { o with dict := some s.heap.objs.size } → h'.Ns1 s.heap.objs.size (fun y => if y = name then some v else none) → (∀ b ob, b ≠ x → s.heap.get? b = some ob → h'.get? b = some ob) →
      Q (.done (.ret .none)) { s with heap := h', toks := tk' }) :
    wpAny (model prog w) A (Builtin.«object.__setattr__» ⟨[.ref x, .str name tk, v], []⟩) Q E s := by
  obtain ⟨D, nm, qn, N, bs, sn, sub, ab, col, dd, k0, k1, k2, k3, k5, lk, qD⟩ := Z.ob
  have hC := X _ _ lk
  obtain ⟨h, g, d, t, os⟩ := s
  obtain ⟨oc, od, odt, osl⟩ := o
  dsimp only at hc hdt hdn
  subst hc hdt hdn
  have L1 := PySem.W.looks_findIn (M := model prog w) X np
  have hpass := PySem.F.store_ValueError.passes (.ref x)
  have hpass' : refuseLoop (.ref x) "__setattr__" bmV = pure () := hpass
  have hx₀ : h.get? x = some { cls := .ref C, data := .fields vs, slots := osl } := hx
  have hx₁ : (h.push { cls := .type "dict", data := .dict #[] }).get? x = some { cls := .ref C, data := .fields vs, slots := osl } := Heap.get?_push_of_some _ hx₀
  have hxs : x ≠ h.objs.size := Nat.ne_of_lt (Heap.lt_size hx₀)
  have hgd : ((h.push { cls := .type "dict", data := .dict #[] }).update x fun o => { cls := o.cls, dict := some h.objs.size, data := o.data, slots := o.slots }).get? h.objs.size = some { cls := .type "dict", data := .dict #[] } :=
    (Heap.get?_update_ne _ _ _ _ hxs.symm).trans (Heap.get?_push_at rfl rfl)
  have hnd : ((h.push { cls := .type "dict", data := .dict #[] }).update x fun o => { cls := o.cls, dict := some h.objs.size, data := o.data, slots := o.slots }).Ns h.objs.size (fun _ => none) :=
    ⟨_, #[], _, hgd, rfl, fun e he => absurd he (by simp), fun _ => rfl⟩
  unfold Builtin.«object.__setattr__»
  repeat (first | rw [refuse_eq] | (rw [refuseLoop_ref, refuseLoop_ref, hpass']) | with_reducible refine wpAny_loadPart_at hx ?_ | with_reducible refine wpAny_mroOf_exc hC ?_ | with_reducible refine PySem.W.Looks.at L1 ?_ | (with_reducible refine wpAny_nsSet1 (Heap.Ns1.of_empty hnd) fun h' hn' hs => ?_; obtain ⟨oD, esD, epD, hoD, hdD, hcD⟩ := hn'.count (Within.cons name v Within.nil)) | wp_step)
  rw [show oD.data.pastItsLine = none from by rw [hdD]; exact pastItsLine_dict (Nat.le_trans hcD (by rw [List.length_cons, List.length_nil, sizeLine_eq]; omega))]
  wp_walk
  refine hq h' _ ((hs.2 x hxs).trans (Heap.get?_update_self _ hx₁ rfl)) hn' fun b ob hbx hb => ?_
  exact (hs.2 b (Nat.ne_of_lt (Heap.lt_size hb))).trans ((Heap.get?_update_ne _ _ _ _ hbx).trans (Heap.get?_push_of_some _ hb))
theorem xset {Q : Unit → Shared → Prop} (X : K.In s.heap) (Z : XK3 K C f) (np : PySem.W.findIn K (.ref C) name = some none) (hx : s.heap.get? x = some o) (hc : o.cls = .ref C) (hdt : o.data = .fields vs) (hdn : o.dict = none)
    (hq : ∀ h' tk', h'.get? x = some { o with dict := some s.heap.objs.size } → h'.Ns1 s.heap.objs.size (fun y => if y = name then some v else none) → (∀ b ob, b ≠ x → s.heap.get? b = some ob → h'.get? b = some ob) →
      Q () { s with heap := h', toks := tk' }) :
    wpAny (model prog w) A (setAttr (.ref x) name v) Q E s := by
  have I : PySem.W.InstAt s.heap x o C none := ⟨hx, hc, by unfold PySem.W.notCls; rw [hdt], by rw [hdn]; exact True.intro⟩
  have sub : PySem.W.Looks (model prog w) s.heap (isInstance (.ref x) (.type "object")) true := I.type.andThen (PySem.W.looks_mroIn X Z.z.ob)
  refine PySem.W.set_plain X I Z.sa ?_
  have SF := PySem.F.store_object
  refine codeAny_call_builtin SF.slot.plain SF.entry (@PySem.W.check_slot (model prog w) _ _ _ "object.__setattr__" "object" "__setattr__" (.ref x) [.str name s.toks, v] [] _ SF.kind SF.split sub (SF.args (.ref x) (.str name s.toks) v) ?_)
  exact xset_entry (s := { s with toks := s.toks + 1 }) X Z np hx hc hdt hdn hq
end
/-! ### exceptions as things that are made and read -/
def ExcN (e : Addr) (C : Value) : HO := .ext fun h => ∃ o vs, h.get? e = some o ∧ o.cls = C ∧ o.data = .fields vs ∧ o.dict = none ∧ (∃ a0, vs[0]? = some a0) ∧ vs[1]? = some .none ∧ vs[2]? = some .none
def ExcD (e : Addr) (C : Value) (d : Addr) : HO := .ext fun h => ∃ o vs, h.get? e = some o ∧ o.cls = C ∧ o.data = .fields vs ∧ o.dict = some d ∧ (∃ a0, vs[0]? = some a0) ∧ vs[1]? = some .none ∧ vs[2]? = some .none
section
variable {X : Cx} {pins : List (Addr × Obj)} {σ : St} {H : Hp} {s : Shared} {e : Addr}
theorem Inv.freshX (I : Inv X pins σ H s) (hn : s.heap.get? e = none) (hex : X.ex = []) : X.s₀.heap.get? e = none ∧ e ≠ X.env.locals ∧ (∀ x c, X.env.cells.lookup x = some c → c ≠ e) ∧ ∀ p ∈ X.pn ++ pins, p.1 ≠ e := by
  refine ⟨?_, fun z => ?_, fun x c q z => ?_, fun p hp z => ?_⟩
  · cases q : X.s₀.heap.get? e with
    | none => rfl
    | some o =>
      obtain ⟨o', e1⟩ := I.base.there e o q (by rw [hex]; simp)
      rw [hn] at e1; cases e1
  · obtain ⟨m, ⟨o, es, ep, ho, _⟩, _⟩ := I.loc
    rw [← z, hn] at ho; cases ho
  · obtain ⟨v, o, ho, hd⟩ := I.cell x c q
    rw [z, hn] at ho; cases ho
  · have := (I.pin p hp).1
    rw [z, hn] at this; cases this
theorem Inv.trackNew {o : HO} {h' : Heap} {t' : Nat} (I : Inv X pins σ H s) (k : ∀ b u, s.heap.get? b = some u → h'.get? b = some u) (hn : s.heap.get? e = none) (hex : X.ex = []) (new : ObjOk X.prog X.w (upd H e o) h' e o) :
    Inv X pins σ (upd H e o) { s with heap := h', toks := t' } :=
  let ⟨a, b, c, d⟩ := I.freshX hn hex
  (I.kept (t' := t') k).track (I.hok.gone hn) a b c d new
end
section
variable {X : Cx} {x : Str} {np pos : Pos} {e0 : Expr} {rest : List Expr} {t : TA}
end
section
variable {X : Cx} {o value : Expr} {name : Str} {pos pos' : Pos} {ta tv : TE} {C f : Addr}
/-- e.name = value, e an exception that has no dict yet -/
def sXFld (C : Addr) (ta tv : TE) (name : Str) : TS := fun D σ H => tv σ H fun y H1 => ta σ H1 fun x H2 => ∃ e, x = .ref e ∧ H2 e = some (ExcN e (.ref C)) ∧ ∀ d, d ≠ e → H2 d = none → D.nx σ (upd (upd H2 e (ExcD e (.ref C) d)) d (.xd [(name, y)]))
theorem ps_xfld (Z : XK3 X.K C f) (hnm : PySem.W.findIn X.K (.ref C) name = some none) (ha : PE X o ta) (hv : PE X value tv) (hs : swapsWith value (some (.Attribute o name pos')) pos.line X.env = pure false := by rfl) (hex : X.ex = [] := by rfl) :
    PS X (.Assign [.Attribute o name pos'] value pos) (sXFld C ta tv name) := by
  intro pins s σ H D I h
  refine plainObj_wpAny_Assign_Attribute (thn (hv pins s σ H _ I h) fun u s1 ⟨y, H1, I1, ry, q⟩ => thn (ha pins s1 σ H1 _ I1 q) fun ov s2 ⟨x, H2, I2, rx, e, ex, ea, q2⟩ => ?_) hs
  subst ex
  obtain rfl : ov = Value.ref e := rx
  obtain ⟨ob, vs, h1, h2, h3, h4, h5⟩ := (I2.hok e _ ea).1
  refine xset I2.kIn Z hnm h1 h2 h3 h4 fun h' tk' g1 g2 g3 => ?_
  have hfr : s2.heap.get? s2.heap.objs.size = none := Heap.get?_none_of_le (Nat.le_refl _)
  have hde : s2.heap.objs.size ≠ e := fun z => by rw [z, h1] at hfr; cases hfr
  have I3 : Inv X pins σ (upd H2 e (ExcD e (.ref C) s2.heap.objs.size)) { s2 with heap := h', toks := tk' } :=
    I2.write (x := e) (e := e) (by rw [ea]; exact True.intro) (.inl rfl) (fun b u hb z => g3 b u hb z) ⟨_, g1⟩ ⟨⟨_, vs, g1, h2, h3, rfl, h5⟩, ⟨_, g1⟩, fun g1 g2 p k => by
      obtain ⟨o, vs, a, b, c, d⟩ := p
      exact ⟨o, vs, k o a, b, c, d⟩⟩
  obtain ⟨a, b, c, d⟩ := I2.freshX hfr hex
  have hn := I2.hok.gone hfr
  refine ⟨σ, _, I3.track (e := s2.heap.objs.size) (o := .xd [(name, y)]) (by rw [upd_ne hde]; exact hn) a b c d ⟨_, g2, fun z => ?_⟩, q2 _ hde hn⟩
  by_cases hz : z = name
  · subst hz
    simp only [List.lookup, beq_self_eq_true, if_true]
    exact ry
  · rw [if_neg hz]
    simp only [List.lookup, beq_false_of_ne hz]
    exact True.intro
end
section
variable {X : Cx} {x : Str} {np pos : Pos} {e0 : Expr} {t : TA} {C f : Addr} {fd : FuncData} {ps : List Str} {name : Str} {j k : Nat}
/-- what the __init__ of such a class does: one name in the new dict -/
def sp_xinit (C : Addr) (name : Str) : Sp := fun vs H Q _ => ∃ e v, vs = [.ref e, v] ∧ H e = some (ExcN e (.ref C)) ∧ ∀ d, d ≠ e → H d = none → Q .non (upd (upd H e (ExcD e (.ref C) d)) d (.xd [(name, v)]))
structure InitX (P : Program) (w : World) (K : PySem.W.Frag) (mg : Str → Option Value) (base : Heap) (k : Nat) (C : Addr) (name : Str) : Prop where
  ex : ∃ f fd ps, FnOk P w K mg base CX0 k f fd ps (sp_xinit C name) ∧ XK3 K C f ∧ ps.length = 2 ∧ ∀ us : List Value, us.length = ps.length → bindArgs fd ⟨us, []⟩ = pure (ps.zip us)
end
/-! ### the facts, as they stand behind the top -/
section
variable {X : Cx} {o : Expr} {name : Str} {pos : Pos} {ta : TE} {C : Addr}
end
section
variable {K : PySem.W.Frag} {h : Heap} {mg : Str → Option Value} {x : Str} {C f D : Addr}
structure InitS (K : PySem.W.Frag) (C : Addr) (x qual : Str) (st : Stmt) (ps : List Str) : Prop where
  ex : ∃ f fd, Fun K x qual st f fd ∧ XK3 K C f ∧ ∀ us : List Value, us.length = ps.length → bindArgs fd ⟨us, []⟩ = pure (ps.zip us)
theorem fi_mk {name : Str} (a : PySem.W.nsIn K mainGlobals x = some (some (.ref C))) (q : PySem.W.findIn K (.ref C) name = some none) : PySem.W.findIn K (.ref (cA K x)) name = some none := by rw [cA_of a]; exact q
theorem x3_mk {nm qn : Str} {N : Addr} {bs : List Value} {sn : List Str} {sub : List Value} {ab : Bool} {col : Option Bool} {dd : Option Addr} {k0 k1 k2 k3 k5 : Option Value} {qual : Str} {st : Stmt} {ps : List Str} {oc : Value} {od an : Option Addr} {osl : Array (Option Value)} {kV doc pm cdv ct : Value}
    (a : PySem.W.nsIn K mainGlobals x = some (some (.ref C))) (z : XK1 K (cA K x)) (l : K.lookup C = some (excClassObj nm qn C N bs [.ref D, .type "ValueError", .type "Exception", .type "BaseException", .type "object"] true sn sub ab col dd k0 k1 k2 k3 k5 "ValueError.__new__"))
    (qD : PySem.W.excIn K D [.type "ValueError", .type "Exception", .type "BaseException", .type "object"] "ValueError.__new__" = true)
    (hi : PySem.W.findIn K (.ref C) "__init__" = some (some (.ref f))) (hf : PySem.W.typeIn K (.ref f) = some (.type "function")) (hs : PySem.W.findIn K (.ref C) "__setattr__" = some (some (.builtin "object.__setattr__"))) (kp : PySem.W.keepIn K (.ref C) = true)
    (fl : K.lookup f = some ⟨oc, od, .func (PySem.W.fnOf "__init__" qual (defArgs st) (defBody st) (defScope st) .none kV doc pm an cdv ct), osl⟩) (fc : PySem.W.codeIn K cdv qual = true) (fk : PySem.W.keepIn K (.ref f) = true)
    (hb : ∀ us : List Value, us.length = ps.length → bindArgs (PySem.W.fnOf "__init__" qual (defArgs st) (defBody st) (defScope st) .none kV doc pm an cdv ct) ⟨us, []⟩ = pure (ps.zip us)) : InitS K (cA K x) "__init__" qual st ps := by
  have e := cA_of a
  rw [e] at z ⊢
  exact ⟨f, _, fun_mk fl fc fk, ⟨⟨D, nm, qn, N, bs, sn, sub, ab, col, dd, k0, k1, k2, k3, k5, l, qD⟩, hi, hf, hs, kp, z⟩, hb⟩
end
end L2
namespace L2
open PySem PySem.Spec PyProof.Rows
/-! ### sets of whole numbers: what stands in the table, and how it is walked -/
namespace SetL
end SetL
end L2
namespace L2
open PySem PySem.Spec PyProof.Rows
namespace SetL
section
variable {prog : Program} {w : World} {A : Around} {E : Value → Shared → Prop} {s : Shared} {a : Addr} {ms : List Int} {k : Int} {tk : Tok}
end
end SetL
end L2
namespace L2
open PySem PySem.Spec PyProof.Rows
namespace SetL
section
variable {prog : Program} {w : World} {A : Around} {R : Result → Shared → Prop} {I a : Addr} {fp wr : List Addr} {G : Array GenState → Array GenState → Prop} {n : Nat} {P : Nat → Value → Prop} {St : Nat → Shared → Prop} {val : Nat → Int}
end
section
variable {prog : Program} {w : World} {A : Around} {E : Value → Shared → Prop} {s : Shared}
end
end SetL
end L2
namespace L2
open PySem PySem.Spec PyProof.Rows
namespace SetL
section
variable {prog : Program} {w : World} {A : Around} {E : Value → Shared → Prop} {s : Shared}
set_option maxHeartbeats 3200000 in
end
end SetL
end L2
namespace L2
open PySem PySem.Spec PyProof.Rows
namespace SetL
section
variable {prog : Program} {w : World} {A : Around} {E : Value → Shared → Prop} {s : Shared} {I a : Addr} {es : Array (Int × Value)} {ep : Nat} {t : SetTable}
end
end SetL
end L2
namespace L2
open PySem PySem.Spec PyProof.Rows
namespace SetL
section
variable {prog : Program} {w : World} {A : Around} {E : Value → Shared → Prop} {s : Shared} {I a : Addr} {es : Array (Int × Value)} {ep : Nat} {t : SetTable}
end
end SetL
end L2
namespace L2
open PySem PySem.Spec PyProof.Rows
namespace SetL
section
variable {prog : Program} {w : World} {A : Around} {E : Value → Shared → Prop} {s : Shared} {I a T : Addr} {es : Array (Int × Value)} {ep : Nat} {t : SetTable} {ps : Array Value}
end
end SetL
end L2
namespace L2
open PySem PySem.Spec PyProof.Rows
namespace SetL
section
variable {prog : Program} {w : World} {a : Addr} {es : Array (Int × Value)} {ep : Nat} {t : SetTable}
end
end SetL
end L2
namespace L2
open PySem PySem.Spec PyProof.Rows
namespace SetL
section
variable {prog : Program} {w : World} {A : Around} {E : Value → Shared → Prop}
end
section
variable {prog : Program} {w : World} {A : Around} {E : Value → Shared → Prop} {s : Shared} {a : Addr} {es : Array (Int × Value)} {ep : Nat} {t : SetTable}
end
end SetL
end L2
namespace L2
open PySem PySem.Spec PyProof.Rows
namespace SetL
section
variable {prog : Program} {w : World} {A : Around} {E : Value → Shared → Prop} {s : Shared} {a : Addr} {es : Array (Int × Value)} {ep : Nat} {t : SetTable}
end
end SetL
end L2
namespace L2
open PySem PySem.Spec PyProof.Rows
namespace SetL
section
variable {prog : Program} {w : World} {A : Around} {E : Value → Shared → Prop} {s : Shared} {a : Addr} {ms : List Int}
end
end SetL
end L2
namespace L2
open PySem PySem.Spec PyProof.Rows
section
variable {X : Cx} {pins : List (Addr × Obj)} {σ : St} {H : Hp} {s : Shared}
end
end L2
namespace L2
open PySem PySem.Spec PyProof.Rows
/-! ### for a, b in zip(xs, ys): two lists -/
section
variable {X : Cx} {pins : List (Addr × Obj)} {σ : St} {H : Hp} {s : Shared} {h' : Heap}
end
end L2
namespace L2
open PySem PySem.Spec PyProof.Rows
/-! ### within a comprehension's block: the written part is named -/
theorem ix_tupK {X : Cx} (K : PySem.W.Frag) (h : X.K = K := by rfl) : IxR X (rIxT K) := by subst h; exact ix_tup
theorem ix_listK {X : Cx} (K : PySem.W.Frag) (h : X.K = K := by rfl) : IxR X (rIxL K) := by subst h; exact ix_list
section
variable {K : PySem.W.Frag} {H H' : Hp} {xs ys zs : List V} {l : List (Int × Int)} {p : Addr} {s : Int × Int}
end
end L2
namespace L2
open PySem PySem.Spec PyProof.Rows
/-! ### comprehensions, whatever is walked -/
/-- what is walked has just these items, however the heap grows -/
structure WalkOf (J : It) (H : Hp) (xs : List V) : Prop where
  go : ∀ i H', Same H H' → i < xs.length → J.go i H'
  yld : ∀ i H' x H2, Same H H' → J.yld i H' x H2 → H2 = H' ∧ xs[i]? = some x
  stop : ∀ i H', Same H H' → xs.length ≤ i → J.stop i H'
theorem walk_list {K : PySem.W.Frag} {H : Hp} {a : Addr} {xs : List V} (h : SqL K H a xs) : WalkOf (Itl K a) H xs :=
  ⟨fun i H' s hi => ⟨xs, _, s.seq h, List.getElem?_eq_getElem hi⟩, fun i H' x H2 s y => ⟨y.1, y.2 xs (s.seq h)⟩, fun i H' s hi => ⟨xs, s.seq h, hi⟩⟩
theorem walk_tup {K : PySem.W.Frag} {H : Hp} {a : Addr} {xs : List V} (h : H a = some (.tup xs)) : WalkOf (Itt K a) H xs :=
  ⟨fun i H' s hi => ⟨xs, _, SqT.of (s _ _ h), List.getElem?_eq_getElem hi⟩, fun i H' x H2 s y => ⟨y.1, y.2 xs (SqT.of (s _ _ h))⟩, fun i H' s hi => ⟨xs, SqT.of (s _ _ h), hi⟩⟩
/-- each item by a word of it that new objects don't touch -/
theorem comp_any {J : It} {ix : List Nat} {te : TE} {σ : St} {l : Addr} {xs : List V} {H : Hp} {R : Hp → Prop} (Y : WalkOf J H xs) (hl : H l = none) (hz : xs.length ≤ sizeLine) (P : Nat → V → Hp → Prop)
    (mono : ∀ i v H1 H2, Same H1 H2 → P i v H1 → P i v H2) (put : ∀ i v H1 ys zs, H1 l = some (.lst ys) → P i v H1 → P i v (upd H1 l (.lst zs)))
    (hel : ∀ i x H' Q', xs[i]? = some x → Same H H' → (∀ v H2, Same H' H2 → P i v H2 → Q' v H2) → te (some x :: capts σ ix) H' Q')
    (fin : ∀ ys H', Same H H' → H' l = some (.lst ys) → ys.length = xs.length → (∀ j v, ys[j]? = some v → P j v H') → R H') :
    ∃ W : Nat → Nat → List V → Hp → Prop, (∃ m, W 0 m [] (upd H l (.lst []))) ∧ Turns ix te σ J l R W := by
  refine ⟨fun i m ys H' => m = xs.length - i ∧ i ≤ xs.length ∧ ys.length = i ∧ (∀ j v, ys[j]? = some v → P j v H') ∧ Same H H' ∧ H' l = some (.lst ys), ⟨xs.length, by simp, Nat.zero_le _, rfl, (fun j v e => by simp at e), same_new hl _, upd_same⟩, ?_⟩
  rintro i m ys H' ⟨rfl, hi, hx, hp, sH, hL⟩
  refine ⟨hL, ?_⟩
  by_cases hlt : i < xs.length
  · refine .inr ⟨Y.go i H' sH hlt, by omega, fun x H2 y => ?_⟩
    obtain ⟨rfl, e2⟩ := Y.yld i H' x H2 sH y
    refine hel i x _ _ e2 sH fun v H3 s3 hv => ⟨s3 _ _ hL, xs.length - (i + 1), by omega, rfl, hlt, by rw [List.length_append, hx]; rfl, fun j w e => ?_, same_put (sH.trans s3) hl, upd_same⟩
    by_cases hj : j < ys.length
    · rw [List.getElem?_append_left hj] at e
      exact put _ _ _ _ _ (s3 _ _ hL) (mono _ _ _ _ s3 (hp j w e))
    · by_cases hj2 : j = ys.length
      · subst hj2
        rw [List.getElem?_append_right (Nat.le_refl _), Nat.sub_self] at e
        cases e
        rw [hx]
        exact put _ _ _ _ _ (s3 _ _ hL) hv
      · rw [List.getElem?_eq_none (by rw [List.length_append, List.length_singleton]; omega)] at e
        cases e
  · exact .inl ⟨Y.stop i H' sH (by omega), fin ys H' sH hL (by omega) hp⟩
theorem sIx_nat (n d k : Nat) : HT.sIx n d (some (k : Int)) = min k n := by
  show (if (k : Int) < 0 then ((k : Int) + (n : Int)).toNat else min (k : Int).toNat n) = min k n
  rw [if_neg (by omega)]
  rfl
theorem cutV_lo (xs : List V) (k : Nat) : cutV xs (some (k : Int)) none = xs.drop k := by
  unfold cutV
  rw [sIx_nat, show HT.sIx xs.length xs.length none = xs.length from rfl]
  by_cases h : k ≤ xs.length
  · rw [Nat.min_eq_left h, List.take_of_length_le (by rw [List.length_drop]; exact Nat.le_refl _)]
  · rw [Nat.min_eq_right (by omega), List.drop_of_length_le (Nat.le_refl _), List.drop_of_length_le (by omega), List.take_nil]
theorem cutV_hi (xs : List V) (k : Nat) : cutV xs none (some (k : Int)) = xs.take k := by
  unfold cutV
  rw [sIx_nat, show HT.sIx xs.length 0 none = 0 from rfl, List.drop_zero, Nat.sub_zero]
  by_cases h : k ≤ xs.length
  · rw [Nat.min_eq_left h]
  · rw [Nat.min_eq_right (by omega), List.take_of_length_le (Nat.le_refl _), List.take_of_length_le (by omega)]
end L2
namespace L2
open PySem
end L2
namespace L2
open PySem PySem.Spec PyProof.Rows
section
variable {X : Cx} {pins : List (Addr × Obj)} {σ : St} {H : Hp} {s : Shared} {sc : Scope} {x : Str} {ix : List Nat} {fp : List Addr} {elt iter c : Expr} {te : TE} {tt : TT} {wi : TI} {px pos : Pos}
end
end L2
namespace L2
open PySem PySem.Spec PyProof.Rows
section
variable {X : Cx} {C : Addr} {x m : Str} {p pos apos : Pos} {e o : Expr} {es : List Expr} {ta : TE} {t : TA} {j k : Nat} {ps : List Str}
/-- a method of the text, as it is found from a class -/
structure MethS (K : PySem.W.Frag) (C : Addr) (m qual : Str) (st : Stmt) (ps : List Str) : Prop where
  ex : ∃ (f : Addr) (fd : FuncData), Fun K m qual st f fd ∧ Meth K C m f ∧ ∀ us : List Value, us.length = ps.length → bindArgs fd ⟨us, []⟩ = pure (ps.zip us)
structure DefM (P : Program) (w : World) (K : PySem.W.Frag) (mg : Str → Option Value) (base : Heap) (k : Nat) (C : Addr) (m : Str) (ps : List Str) (sp : Sp) : Prop where
  ex : ∃ (f : Addr) (fd : FuncData), FnOk P w K mg base CX0 k f fd ps sp ∧ Meth K C m f ∧ ∀ us : List Value, us.length = ps.length → bindArgs fd ⟨us, []⟩ = pure (ps.zip us)
theorem MethS.ok {P : Program} {w : World} {K : PySem.W.Frag} {mg : Str → Option Value} {base : Heap} {C : Addr} {m qual : Str} {st : Stmt} {N ps : List Str} {k : Nat} {sp : Sp} (S : MethS K C m qual st ps) (sc : FnScope N ps (defScope st)) (len : ∀ vs H Q E, sp vs H Q E → vs.length = ps.length)
    (hbody : ∀ (f : Addr) (cdv : Value) (A : Around) (outer : List Env) (s : Shared) (H : Hp) (vs : List V) (Q : VK) (E : XK), Room k (A.deeper (envOfC qual (defScope st) s.heap.objs.size f cdv)) → sp vs H Q E →
      ∃ t, PSs (cxOf CX0 P w K mg base N qual (defScope st) f cdv A outer s H E).nox (defBody st) t ∧ t { nx := fun _ H' => Q .non H', rt := Q } (start N vs) H) : DefM P w K mg base (k + 1) C m ps sp := by
  obtain ⟨f, fd, F, hm, hb⟩ := S.ex
  exact ⟨f, fd, F.ok sc len (fun cdv => hbody f cdv), hm, hb⟩
end
/-! ### the facts, by the class's name -/
section
variable {K : PySem.W.Frag} {x : Str} {C f : Addr}
theorem cls_mk (a : PySem.W.nsIn K mainGlobals x = some (some (.ref C))) (h1 : PySem.W.plainGet K C Str.empty = true) (h2 : PySem.W.hasDictIn K C = true) (h3 : PySem.W.plainOver K C = true) (h4 : PySem.W.findIn K (.ref C) "__setattr__" = some (some (.builtin "object.__setattr__"))) : Cls K (cA K x) := by
  rw [cA_of a]; exact ⟨h1, h2, h3, h4⟩
theorem meth_mk {m qual : Str} {st : Stmt} {ps : List Str} {oc : Value} {od an : Option Addr} {osl : Array (Option Value)} {kV doc pm cdv ct : Value} (a : PySem.W.nsIn K mainGlobals x = some (some (.ref C))) (hi : PySem.W.findIn K (.ref C) m = some (some (.ref f))) (hf : PySem.W.isFn K (.ref f) = true)
    (fk : PySem.W.keepIn K (.ref f) = true) (fl : K.lookup f = some ⟨oc, od, .func (PySem.W.fnOf m qual (defArgs st) (defBody st) (defScope st) .none kV doc pm an cdv ct), osl⟩) (fc : PySem.W.codeIn K cdv qual = true)
    (hb : ∀ us : List Value, us.length = ps.length → bindArgs (PySem.W.fnOf m qual (defArgs st) (defBody st) (defScope st) .none kV doc pm an cdv ct) ⟨us, []⟩ = pure (ps.zip us)) : MethS K (cA K x) m qual st ps := by
  rw [cA_of a]; exact ⟨f, _, fun_mk fl fc fk, ⟨hi, hf, fk⟩, hb⟩
end
end L2
namespace L2
open PySem
end L2
namespace L2
end L2
/-! a debt: its principal m and its units n, and what a deed makes of them; no Python -/
namespace Dbt
inductive Wd where
  | lend | fee | turn | take | grow
/-- what is charged or lent, less what is taken, in cents -/
def cents : Wd → Int → Int
  | .lend, x => x
  | .fee, x => x
  | .take, x => -x
  | _, _ => 0
variable {u s0 s1 m1 n1 m2 n2 x y : Int}
def t1 (s1 : Int) : Option (Wd × Int) → Wd × Int → Int
  | some (.fee, x), (.fee, y) => s1 + y - x
  | _, _ => s1
end Dbt
namespace L2
open PySem PySem.Spec PyProof.Rows
/-! ### greater divisors and factors -/
def CDivW (i j : Int) : Prop := 0 < j ∧ j < 1152921504606846976
section
variable {X : Cx}
theorem op_fdivW : OpR X (binaryOp .FloorDiv) (rI CDivW fun i j => .int (i / j)) := opI fun i j _ _ _ _ _ hc q => by
  have h1 : (0 : Int) < j := hc.1
  have h2 : j < 1152921504606846976 := hc.2
  refine floordiv_int (by omega) (by rw [Int.fdiv_eq_ediv_of_nonneg i (by omega)]; exact q) (.inl (PyProof.noPylong_of_log2 ?_))
  have h0 : j.natAbs ≠ 0 := by omega
  have : j.natAbs.log2 < 60 := (Nat.log2_lt h0).mpr (show j.natAbs < 1152921504606846976 by omega)
  omega
end
/-! ### a class of one's own with fields: C(..), o.f, o.f = e, o.m(..) -/
structure MkI (K : PySem.W.Frag) (C : Addr) : Prop where
  makes : PySem.W.makesIn K C = true
  kp : PySem.W.keepIn K (.ref C) = true
section
variable {X : Cx} {C : Addr} {x m f : Str} {p pos pos' apos : Pos} {e o value : Expr} {es : List Expr} {ta tv : TE} {t : TA} {j k : Nat} {ps : List Str} {sp : Sp}
theorem pe_makeC (M : MkI X.K C) (D : DefM X.prog X.w X.K X.mg X.base j C "__init__" ps sp) (hr : Room k X.A) (hm : X.mg x = some (.ref C)) (ha : PA X (e :: es) t) (hj : j + 1 ≤ k := by decide) (hg : Gl X x := by rfl)
    (hdb : (x == ("__debug__" : Str)) = false := by decide) (he : starEach (e :: es) X.env = (false, eval e X.env) :: starEach es X.env := by rfl) (hpl : (backTo pos (starEach es X.env)).any (·.1) = false := by rfl) :
    PE X (.Call (.Name x p) (e :: es) [] pos) (tMake C sp [] E0 t) := by
  obtain ⟨f, fd, F, hme, hb⟩ := D.ex
  exact pe_make ⟨M.makes, hme.at_, hme.fn, M.kp⟩ F (hr.mono hj) hg hm (.all hb) .nil pass0 ha hdb he hpl
end
section
variable {K : PySem.W.Frag} {x : Str} {C f : Addr}
theorem mki_mk (a : PySem.W.nsIn K mainGlobals x = some (some (.ref C))) (h1 : PySem.W.makesIn K C = true) (h3 : PySem.W.keepIn K (.ref C) = true) : MkI K (cA K x) := by
  rw [cA_of a]; exact ⟨h1, h3⟩
end
theorem at_new {H : Hp} {p : Addr} (o : HO) (_h : H p = none) : (upd H p o) p = some o := upd_same
section
variable {H H' : Hp} {xs ys zs : List V} {l r : List (Dbt.Wd × Int)} {p : Addr} {d : Dbt.Wd × Int}
/-- all but what is grown -/
def kept : Dbt.Wd → Bool
  | .grow => false
  | _ => true
def pkD : List V → List (Dbt.Wd × Int) → List (Bool × V)
  | x :: xs, d :: l => (kept d.1, x) :: pkD xs l
  | _, _ => []
end
/-! ### tests of texts -/
theorem ifST {s : Str} {A B : Prop} (h : A) : if decide (V.str s = V.str s) = true then A else B := by rw [if_pos (by simp)]; exact h
theorem ifSF {s t : Str} {A B : Prop} (ne : s ≠ t) (h : B) : if decide (V.str s = V.str t) = true then A else B := by rw [if_neg (by simpa using ne)]; exact h
theorem ifSNT {s : Str} {A B : Prop} (h : B) : if (!decide (V.str s = V.str s)) = true then A else B := by rw [if_neg (by simp)]; exact h
end L2
namespace L2
open PySem PySem.Spec PyProof.Rows
/-! ### texts: slices, upper; a call in a try whose value is dropped -/
section
variable {X : Cx}
end
end L2
namespace L2
open PySem
end L2
namespace L2
end L2
namespace L2
open PySem PySem.Spec PyProof.Rows
/-! ### texts as they are: slices, find, startswith, zfill, int(text); a text walked sign by sign -/
section
variable {X : Cx}
/-- a slice of a text, as it is -/
def rSlE : V → Option Int → Option Int → Hp → VK → Prop := fun x lo hi H Q => ∃ z, x = .str z ∧ z.length ≤ 1000 ∧ Q (.str (Txt.slice z lo hi)) H
theorem sl_strE : SlR X rSlE := by
  intro pins s σ H x v vl vu lo hi sl Q I rx hs pl pu h
  obtain ⟨z, rfl, hz, q⟩ := h
  obtain ⟨t, rfl⟩ := rx
  obtain ⟨o, ho, hc, hd⟩ := hs
  have hsz : z.length ≤ sizeLine := by have := sizeLine_eq; omega
  refine ⟨"str", _, F.slot_str_getitem.lookup, typeIs_str _ _ _, ?_⟩
  cases pl with
  | none =>
    cases pu with
    | none => exact wpAny_getItem_str_slice (l := none) (u := none) (st := none) ⟨o, ho, hc, hd⟩ rfl (post_val_or_str ⟨Nat.le_trans (Txt.slice_le z _ _) hsz, fun t' k => ⟨.str _, H, I.tok k, ⟨_, rfl⟩, q⟩⟩)
    | int j uj => exact wpAny_getItem_str_slice (l := none) (u := some (j, uj)) (st := none) ⟨o, ho, hc, hd⟩ rfl (post_val_or_str ⟨Nat.le_trans (Txt.slice_le z _ _) hsz, fun t' k => ⟨.str _, H, I.tok k, ⟨_, rfl⟩, q⟩⟩)
  | int i ui =>
    cases pu with
    | none => exact wpAny_getItem_str_slice (l := some (i, ui)) (u := none) (st := none) ⟨o, ho, hc, hd⟩ rfl (post_val_or_str ⟨Nat.le_trans (Txt.slice_le z _ _) hsz, fun t' k => ⟨.str _, H, I.tok k, ⟨_, rfl⟩, q⟩⟩)
    | int j uj => exact wpAny_getItem_str_slice (l := some (i, ui)) (u := some (j, uj)) (st := none) ⟨o, ho, hc, hd⟩ rfl (post_val_or_str ⟨Nat.le_trans (Txt.slice_le z _ _) hsz, fun t' k => ⟨.str _, H, I.tok k, ⟨_, rfl⟩, q⟩⟩)
def rStarts : V → List V → Hp → VK → Prop := fun x vs H Q => ∃ z y, x = .str z ∧ vs = [.str y] ∧ Q (.bl (Txt.startswith z y)) H
theorem mt_startswith : MtR X "str.startswith" rStarts := by
  intro pins s σ H x vs v us Q I rx rv h
  obtain ⟨z, y, rfl, rfl, q⟩ := h
  obtain ⟨t, rfl⟩ := rx
  obtain ⟨u, rfl, ru⟩ := vals1 rv
  obtain ⟨t2, rfl⟩ := ru
  exact SC.startswith ⟨.bl _, H, I, rfl, q⟩
def rZfill : V → List V → Hp → VK → Prop := fun x vs H Q => ∃ z i, x = .str z ∧ vs = [.int i] ∧ (0 ≤ i ∧ i ≤ 1000) ∧ Q (.str (Txt.zfill z i)) H
theorem mt_zfill : MtR X "str.zfill" rZfill := by
  intro pins s σ H x vs v us Q I rx rv h
  obtain ⟨z, i, rfl, rfl, ⟨h0, h1⟩, q⟩ := h
  obtain ⟨t, rfl⟩ := rx
  obtain ⟨u, rfl, ru⟩ := vals1 rv
  obtain ⟨t2, rfl⟩ := ru
  exact SC.zfill (padOk_of (by omega) (by omega)) fun t' k => ⟨.str _, H, I.tok _, ⟨_, rfl⟩, q⟩
def rIntT : List V → Hp → VK → Prop := fun xs H Q => ∃ z n, xs = [.str z] ∧ z.length ≤ 640 ∧ PySem.intText? z = some n ∧ Q (.int n) H
theorem call_intT : CallR X (.type "int") rIntT := by
  intro pins s σ H xs us Q I r h
  obtain ⟨z, n, rfl, hl, hn, q⟩ := h
  obtain ⟨u, rfl, ru⟩ := vals1 r
  obtain ⟨t, rfl⟩ := ru
  exact PySem.W.KIN.call_text hn hl ⟨.int _, H, I.tok _, ⟨_, rfl⟩, q⟩
end
theorem gstr_mk {K : PySem.W.Frag} {mg : Str → Option Value} {x : Str} {h : Heap} {i : Str} {t : Tok} (X : K.In h) (G : h.Ns mainGlobals mg) (a : PySem.W.nsIn K mainGlobals x = some (some (.str i t))) : ∃ t, mg x = some (.str i t) := ⟨t, PySem.W.mg_of X G a⟩
theorem pe_gstr {X : Cx} {x : Str} {pos : Pos} {i : Str} (h : ∃ t, X.mg x = some (.str i t)) (hg : Gl X x := by rfl) (hd : (x == ("__debug__" : Str)) = false := by decide) : PE X (.Name x pos) (tC (.str i)) := by
  obtain ⟨t, h⟩ := h
  exact pe_glob hg h ⟨t, rfl⟩ hd
/-- the signs of a text, one by one -/
def Itx (x : Str) : It := ⟨fun i _ => i < x.cps.size, fun i H v H' => H' = H ∧ ∃ c, x.cps[i]? = some c ∧ v = .str ⟨#[c]⟩, fun i _ => x.cps.size ≤ i⟩
theorem walks_str {P : Program} {w : World} {A : Around} (h : A.handled = none) (it : Addr) (x : Str) (t : Tok) : Walks P w A it [it] [it] x.cps.size (SignAt x) fun i h => h.IsStrIter it (strIterType x) x t i := by
  unfold strIterType
  split
  · exact Walks.strAscii h it x t
  · exact Walks.strWide h it x t
theorem turn_str {P : Program} {w : World} {K : PySem.W.Frag} {tg : Expr} (it : Addr) (x : Str) (t : Tok) : Turn P w K tg (Itx x) [it] it (fun i h => i ≤ x.cps.size ∧ h.IsStrIter it (strIterType x) x t i) where
  mem := by simp
  obj := fun i h st b hb => by
    have e : b = it := by simpa using hb
    subst e
    obtain ⟨_, o, e, c, d⟩ := st
    exact ⟨o, e, fun v z => by rw [d] at z; cases z⟩
  keep := fun i h h' st k => by
    obtain ⟨l, o, e, c, d⟩ := st
    exact ⟨l, o, k it (by simp) o e, c, d⟩
  item := by
    intro X hP hw hK hc i pins s σ H E I hf st hg
    subst hP hw hK
    obtain ⟨f0, f1, f2, f3, f4, f5⟩ := hf it (by simp)
    refine (walks_str (I.ok.hd hc) it x t).item i s _ E hg st.2 fun v h' tk hv st' kp => ?_
    have I1 : Inv X pins σ H { s with heap := h', toks := tk } := I.turned (t' := tk) (fun b o hb e => kp b o (by simpa using hb) e) f0 f1 f3 f4 f5
    obtain ⟨c, u, hc1, rfl⟩ := hv
    obtain ⟨o, e, cl, d⟩ := id st'
    exact ⟨_, rfl, go_of (s := { s with heap := h', toks := tk }) e cl d (by unfold strIterType; split <;> decide) ⟨.str ⟨#[c]⟩, H, I1, ⟨u, rfl⟩, ⟨rfl, c, hc1, rfl⟩, ⟨hg, st'⟩, fun b hb => (hf b hb).1⟩⟩
  done := by
    intro X hP hw hK hc i pins s σ H E I hf st hg
    subst hP hw hK
    obtain ⟨f0, f1, f2, f3, f4, f5⟩ := hf it (by simp)
    have e : i = x.cps.size := Nat.le_antisymm st.1 hg
    subst e
    exact (walks_str (I.ok.hd hc) it x t).done s _ E st.2 fun h' tk kp => ⟨rfl, I.turned (t' := tk) (fun b o hb e => kp b o (by simpa using hb) e) f0 f1 f3 f4 f5⟩
  self := fun A i s Q E st h => by
    obtain ⟨_, st⟩ := st
    unfold strIterType at st
    split at st
    · exact wpAny_pyIter_striter_ascii st h
    · exact wpAny_pyIter_striter_wide st h
def iTxt (tl : TE) : TI := fun σ H R => tl σ H fun x H1 => ∃ z, x = .str z ∧ R (Itx z) H1
theorem pi_str {X : Cx} {tg : Expr} {l : Expr} {tl : TE} (hl : PE X l tl) : PI X tg l (iTxt tl) := by
  intro pins s σ H R I h
  refine thn (hl pins s σ H _ I h) fun v s1 ⟨x, H1, I1, r1, q1⟩ => ?_
  obtain ⟨z, e, q⟩ := q1
  subst e
  obtain ⟨t, rfl⟩ := r1
  refine wpAny_pyIter_strU ?_
  refine ⟨s1.heap.objs.size, [s1.heap.objs.size], _, _, H1, rfl, I1.kept (t' := s1.toks) fun b o e => Heap.get?_push_of_some _ e, turn_str _ z t, ⟨Nat.zero_le _, _, Heap.get?_push_size _ rfl, rfl, rfl⟩, fun b hb => ?_, q⟩
  have e : b = s1.heap.objs.size := by simpa using hb
  subst e
  exact I1.fpOk (Nat.le_refl _) (I1.hok.fresh (Nat.le_refl _))
theorem walk_str {H : Hp} {x : Str} : WalkOf (Itx x) H (x.cps.toList.map fun c => V.str ⟨#[c]⟩) :=
  ⟨fun i H' s hi => by rw [List.length_map, Array.length_toList] at hi; exact hi, fun i H' v H2 s y => ⟨y.1, by
    obtain ⟨_, c, e, rfl⟩ := y
    rw [List.getElem?_map, Array.getElem?_toList, e]; rfl⟩, fun i H' s hi => by rw [List.length_map, Array.length_toList] at hi; exact hi⟩
section
variable {X : Cx}
theorem strs_are : ∀ {zs : List Str} {us : List Value}, Vals (zs.map V.str) us → StrsAre us zs
  | [], us, h => by cases h; exact .nil
  | z :: zs, us, h => by
    cases h with
    | cons r rs =>
      obtain ⟨t, rfl⟩ := r
      exact .cons _ _ (strs_are rs)
def rJoin (K : PySem.W.Frag) : V → List V → Hp → VK → Prop := fun x vs H Q => ∃ z a zs, x = .str z ∧ vs = [.ref a] ∧ SqL K H a (zs.map V.str) ∧ (zs.map (·.length)).sum + zs.length * z.length ≤ 16777216 ∧ Q (.str (Txt.join z zs)) H
theorem mt_join : MtR X "str.join" (rJoin X.K) := by
  intro pins s σ H x vs v us Q I rx rv h
  obtain ⟨z, a, zs, rfl, rfl, hq, hz, q⟩ := h
  obtain ⟨t, rfl⟩ := rx
  obtain ⟨u, rfl, ru⟩ := vals1 rv
  cases ru
  obtain ⟨its, r', pl, _⟩ := I.list hq
  exact join_list pl.isList (by simpa using strs_are r') hz fun t' k => ⟨.str _, H, I.tok _, ⟨_, rfl⟩, q⟩
def rPart : V → List V → Hp → VK → Prop := fun x vs H Q => ∃ z y, x = .str z ∧ vs = [.str y] ∧ 0 < y.length ∧ z.length ≤ 1000 ∧ ∀ l, H l = none → Q (.ref l) (upd H l (.tup [.str (Txt.partition z y).1, .str (Txt.partition z y).2.1, .str (Txt.partition z y).2.2]))
theorem mt_partition : MtR X "str.partition" rPart := by
  intro pins s σ H x vs v us Q I rx rv h
  obtain ⟨z, y, rfl, rfl, hy, hz, q⟩ := h
  obtain ⟨t, rfl⟩ := rx
  obtain ⟨u, rfl, ru⟩ := vals1 rv
  obtain ⟨t2, rfl⟩ := ru
  have sz := sizeLine_eq
  have lay : ∀ (a b c : Str) (ta tb tc : Tok) (k : Nat), Inv X pins σ (upd H s.heap.objs.size (.tup [.str a, .str b, .str c])) { s with heap := s.heap.push { cls := .type "tuple", data := .seq [Value.str a ta, .str b tb, .str c tc].toArray }, toks := k } := fun a b c ta tb tc k =>
    I.laid (t' := k) (fun b o e => Heap.get?_push_of_some _ e) (Nat.le_refl _) (show ObjOk X.prog X.w _ _ _ (.tup [.str a, .str b, .str c]) from ⟨by show 3 ≤ sizeLine; omega, _, .cons ⟨ta, rfl⟩ (.cons ⟨tb, rfl⟩ (.cons ⟨tc, rfl⟩ .nil)), IsTup.new _ _⟩)
  have q' := q _ (I.hok.fresh (Nat.le_refl _))
  refine call_meets F.slot_str_partition (typeIs_str _ _ _) F.entry_str_partition (F.args_str_partition_2 _ _) (meets_str_partition z y t t2 (by simp; omega) (by omega)) ?_
  unfold Txt.partition at q'
  revert q'
  cases Builtin.Str.occurrences z y 0 z.length 1 with
  | nil => intro q'; exact ⟨.ref _, _, lay _ _ _ _ _ _ _, rfl, q'⟩
  | cons i r => intro q'; exact ⟨.ref _, _, lay _ _ _ _ _ _ _, rfl, q'⟩
def rSplit : V → List V → Hp → VK → Prop := fun x vs H Q => ∃ z y, x = .str z ∧ vs = [.str y] ∧ 0 < y.length ∧ z.length ≤ 1000 ∧ ∀ l, H l = none → Q (.ref l) (upd H l (.lst ((Txt.split z y).map V.str)))
theorem vals_strs : ∀ l : List (Str × Tok), Vals ((l.map (·.1)).map V.str) (strValues l)
  | [] => .nil
  | (z, t) :: l => .cons ⟨t, rfl⟩ (vals_strs l)
theorem mt_split : MtR X "str.split" rSplit := by
  intro pins s σ H x vs v us Q I rx rv h
  obtain ⟨z, y, rfl, rfl, hy, hz, q⟩ := h
  obtain ⟨t, rfl⟩ := rx
  obtain ⟨u, rfl, ru⟩ := vals1 rv
  obtain ⟨t2, rfl⟩ := ru
  have sz := sizeLine_eq
  have hy' : (y.length == 0) = false := by simp; omega
  have q' := q _ (I.hok.fresh (Nat.le_refl _))
  have lay : ∀ (l : List (Str × Tok)) (k : Nat), l.map (·.1) = Txt.split z y → l.length ≤ sizeLine → Inv X pins σ (upd H s.heap.objs.size (.lst ((Txt.split z y).map V.str))) { s with heap := s.heap.push { cls := .type "list", data := .seq (strValues l).toArray }, toks := k } := fun l k e hl => by
    rw [← e]
    exact I.laid (t' := k) (fun b o e => Heap.get?_push_of_some _ e) (Nat.le_refl _) (show ObjOk X.prog X.w _ _ _ (.lst _) from ⟨by simpa using hl, _, _, vals_strs l, Heap.get?_push_size _ rfl⟩)
  have ol : (Builtin.Str.partsBetween z (Builtin.Str.occurrences z y 0 z.length (z.length + 1)) y.length).length ≤ sizeLine := by
    rw [length_partsBetween]
    have := PySem.StrLaws.occ_length_le z y 0 z.length (z.length + 1)
    omega
  cases h1 : (decide (z.length < y.length) || decide (Builtin.Str.strKind z < Builtin.Str.strKind y)) with
  | true => exact call_meets F.slot_str_split (typeIs_str _ _ _) F.entry_str_split (F.args_str_split_2 _ _) (meets_str_split_cannot_occur z y t t2 h1) ⟨.ref _, _, lay [(z, t)] _ (if_pos h1).symm (by simp; omega), rfl, q'⟩
  | false =>
    cases hf : (Builtin.Str.occurrences z y 0 z.length (z.length + 1)).isEmpty with
    | true => exact call_meets F.slot_str_split (typeIs_str _ _ _) F.entry_str_split (F.args_str_split_2 _ _) (meets_str_split_not_found z y t t2 h1 hy' hf) ⟨.ref _, _, lay [(z, t)] _ ((if_neg (ne_true_of_eq_false h1)).trans (if_pos hf)).symm (by simp; omega), rfl, q'⟩
    | false =>
      refine call_meets F.slot_str_split (typeIs_str _ _ _) F.entry_str_split (F.args_str_split_2 _ _) (meets_str_split_sep z y t t2 h1 hy' hf (by omega) ol) ?_
      rw [strsFrom_eq]
      exact ⟨.ref _, _, lay (numbered s.toks _) _ ((numbered_texts _ _).trans ((if_neg (ne_true_of_eq_false h1)).trans (if_neg (ne_true_of_eq_false hf))).symm) (by rw [← List.length_map (f := (·.1)), numbered_texts]; exact ol), rfl, q'⟩
end
end L2
namespace L2
open PySem PySem.Spec PyProof.Rows
end L2
namespace L2
open PySem PySem.Spec PyProof.Rows
/-! ### text[-k], texts with fields, texts joined from behind -/
section
variable {X : Cx} {a b : Expr} {ta tb : TE} {pos : Pos}
/-- the pieces of a text with fields, behind what stands so far -/
def PJ (X : Cx) (es : List Expr) (t : Str → St → Hp → (Str → Hp → Prop) → Prop) : Prop :=
  ∀ (pins : List (Addr × Obj)) (s : Shared) (σ : St) (H : Hp) (acc : Str) (Q : Str → Hp → Prop), Inv X pins σ H s → t acc σ H Q →
    Joins (model X.prog X.w) X.A X.xe (evalEach es X.env) acc (fun out s1 => ∃ H1, Inv X pins σ H1 s1 ∧ Q out H1) s
def jNil : Str → St → Hp → (Str → Hp → Prop) → Prop := fun acc _ H Q => Q acc H
def jCons (te : TE) (t : Str → St → Hp → (Str → Hp → Prop) → Prop) : Str → St → Hp → (Str → Hp → Prop) → Prop := fun acc σ H Q => te σ H fun x H1 => ∃ z, x = .str z ∧ acc.length + z.length ≤ 16777216 ∧ t (acc ++ z) σ H1 Q
variable {e : Expr} {es : List Expr} {te : TE} {t : Str → St → Hp → (Str → Hp → Prop) → Prop}
theorem pj_nil : PJ X [] jNil := fun _ _ _ H _ _ I h => ⟨H, I, h⟩
theorem pj_txt (he : PE X e te) (hr : PJ X es t) : PJ X (e :: es) (jCons te t) := by
  intro pins s σ H acc Q I h
  refine thn (he pins s σ H _ I h) fun v s1 ⟨x, H1, I1, r1, z, ex, hz, q⟩ => ?_
  subst ex
  obtain ⟨tk, rfl⟩ := r1
  exact ⟨z, tk, rfl, by rw [Str.length_append, sizeLine_eq]; exact hz, hr pins s1 σ H1 _ Q I1 q⟩
theorem pj_val (he : PE X e te) (hr : PJ X es t) : PJ X (.FormattedValue e (-1) none pos :: es) (jCons te t) := by
  intro pins s σ H acc Q I h
  refine wpAny_FormattedValue_plain (thn (he pins s σ H _ I h) fun v s1 ⟨x, H1, I1, r1, z, ex, hz, q⟩ => ?_)
  subst ex
  obtain ⟨tk, rfl⟩ := r1
  have sz := sizeLine_eq
  have lz : (acc ++ z).length ≤ sizeLine := by rw [Str.length_append, sz]; exact hz
  exact wpAny_formatField_str ⟨z, tk, rfl, lz, hr pins s1 σ H1 _ Q I1 q⟩ ⟨z, _, rfl, lz, hr pins _ σ H1 _ Q (I1.tok _) q⟩ (by omega)
def tFs (t : Str → St → Hp → (Str → Hp → Prop) → Prop) : TE := fun σ H Q => t Str.empty σ H fun out H1 => out.length ≤ 16777216 ∧ Q (.str out) H1
theorem pe_fstr {v1 v2 : Expr} {rest : List Expr} (h : PJ X (v1 :: v2 :: rest) t) : PE X (.JoinedStr (v1 :: v2 :: rest) pos) (tFs t) := by
  intro pins s σ H Q I q
  refine wpAny_JoinedStr ?_
  have J := h pins s σ H Str.empty _ I q
  have mono : ∀ (l : List (Sem Value)) (acc : Str) (R R' : Str → Shared → Prop) (s : Shared), (∀ o s, R o s → R' o s) → Joins (model X.prog X.w) X.A X.xe l acc R s → Joins (model X.prog X.w) X.A X.xe l acc R' s := by
    intro l
    induction l with
    | nil => exact fun acc R R' s g j => g _ _ j
    | cons m l ih => exact fun acc R R' s g j => thn j fun v s1 ⟨y, t1, e1, h1, j1⟩ => ⟨y, t1, e1, h1, ih _ _ _ _ g j1⟩
  refine mono _ _ _ _ _ (fun o s1 w1 => ?_) J
  obtain ⟨H1, I1, ho, hq⟩ := w1
  exact ⟨by rw [sizeLine_eq]; exact ho, .str o, H1, I1.tok _, ⟨_, rfl⟩, hq⟩
end
/-! .. joined from behind: what reversed gives is gathered first -/
theorem lri_nolen : typeLookup (.type "list_reverseiterator") "__len__" = pure none := by rw [typeLookup_type, builtinLookup_eq_fast]; kernel_rfl
theorem lri_hint : typeLookup (.type "list_reverseiterator") "__length_hint__" = pure (some (.builtin "list_reverseiterator.__length_hint__")) := by rw [typeLookup_type, builtinLookup_eq_fast]; kernel_rfl
theorem gather_rev {prog : Program} {w : World} {A : Around} {E : Value → Shared → Prop} {s : Shared} {it l : Addr} {xs : Array Value} {Q : List Value → Shared → Prop} (hh : A.handled = none) (ne : l ≠ it)
    (st : s.heap.IsRevIter it l ((xs.size : Int) - 1)) (li : s.heap.IsList l xs) (sz : xs.size ≤ sizeLine)
    (q : ∀ s' acc, Moved [it] (fun a b => b = a) s s' → ItemsOf (fun i v => xs[xs.size - 1 - i]? = some v) acc xs.size → Q acc.toList s') : wpAny (model prog w) A (collect (.ref it)) Q E s := by
  have W := (Walks.listRev (prog := prog) (w := w) (A := A.in1) hh it l ne xs).toS
  have hT : ∀ (i : Nat) (s : Shared), (i ≤ xs.size ∧ s.heap.IsRevIter it l ((xs.size : Int) - 1 - (i : Int)) ∧ s.heap.IsList l xs) → s.TypeIs (.ref it) "list_reverseiterator" := fun _ _ g => g.2.1.typeIs
  have st0 : 0 ≤ xs.size ∧ s.heap.IsRevIter it l ((xs.size : Int) - 1 - ((0 : Nat) : Int)) ∧ s.heap.IsList l xs := ⟨Nat.zero_le _, by rw [show (xs.size : Int) - 1 - ((0 : Nat) : Int) = (xs.size : Int) - 1 by omega]; exact st, li⟩
  have lt1 : it < s.heap.objs.size := by obtain ⟨o, ho, _⟩ := st; exact Heap.lt_size ho
  have lt2 : l < s.heap.objs.size := by obtain ⟨o, ho, _⟩ := li; exact Heap.lt_size ho
  have nf : s.heap.objs.size ∉ [it, l] := fun m => by
    rcases List.mem_cons.mp m with m | m
    · exact absurd (m ▸ lt1) (Nat.lt_irrefl _)
    · exact absurd (List.mem_singleton.mp m ▸ lt2) (Nat.lt_irrefl _)
  have n1 : s.heap.objs.size ≠ it := fun m => absurd (m ▸ lt1) (Nat.lt_irrefl _)
  unfold collect
  refine wpAny_bind (wpAny_runValue (codeAny_builtin F.entry_proto_collect ?_))
  rw [Around.under_plainId F.plain_proto_collect _]
  refine wpAny_bind (m := newList []) (wpAny_newObj_type ?_)
  refine wpAny_pure ⟨plainId_quiet F.plain_list_iadd _, codeAny_builtin F.entry_list_iadd ?_⟩
  rw [Around.under_plainId F.plain_list_iadd _]
  have st1 := W.frame 0 s (s.heap.push { cls := .type "list", data := .seq (([] : List Value)).toArray }) s.toks st0 (Nat.le_refl _) fun b _ o e => Heap.get?_push_of_some _ e
  have eL : (s.heap.push { cls := .type "list", data := .seq (([] : List Value)).toArray }).get? s.heap.objs.size = some { cls := .type "list", data := .seq (([] : List Value)).toArray } := Heap.get?_push_size _ rfl
  have same : Builtin.List.listSameRef (.ref s.heap.objs.size) (.ref it) = false := by simp [Builtin.List.listSameRef, n1]
  show wpAny _ A.in1 (Builtin.List.listExtendWith (.ref s.heap.objs.size) (.ref it) (.ref s.heap.objs.size)) _ _ _
  unfold Builtin.List.listExtendWith
  refine wpAny_bind (wpAny_typeOf (hT 0 _ st1) ?_)
  rw [if_neg (by rw [same]; decide)]
  refine wpAny_bind (W.self 0 _ _ _ st1 ?_)
  refine wpAny_bind (wpAny_holding ?_)
  unfold Builtin.List.listLengthHint
  refine wpAny_bind (wpAny_specialOf (hT 0 _ st1) lri_nolen ?_)
  refine wpAny_bind (m := specialOf (Value.ref it) (Str.ofString "__length_hint__")) (wpAny_specialOf (hT 0 _ st1) lri_hint ?_)
  generalize hid : ("list_reverseiterator.__length_hint__" : String) = id0
  fail_if_success (clear hid id0)
  wp_delta
  rw [show splitId id0 = some ("list_reverseiterator", "__length_hint__") from by subst hid; decide +kernel]
  subst hid
  refine wpAny_bind (wpAny_isInstance (b := true) (hT 0 _ st1) (by rw [isSubtype_type]; kernel_rfl) ?_)
  refine wpAny_pure ?_
  rw [if_neg (by decide)]
  refine wpAny_pure ⟨plainId_quiet F.plain_extend_loop _, codeAny_extend_loopS W sz _ nf _ xs.size 0 _ _ _ rfl (Nat.zero_le _) st1 eL (ItemsOf.nil _) fun s2 acc c2 mv e2 it2 => ?_⟩
  refine wpAny_bind (m := load s.heap.objs.size) (wpAny_load e2 ?_)
  exact wpAny_pure (q s2 acc (Moved.drop_new (o := { cls := .type "list", data := .seq (([] : List Value)).toArray }) (tk := s.toks) mv (Nat.le_refl _)) it2)
def tJoinRev (K : PySem.W.Frag) (to : TE) (ta : TA) : TE := fun σ H Q => to σ H fun x H1 => ∃ z, x = .str z ∧ ta σ H1 fun vs H2 => ∃ (a : Addr) (zs : List Str), vs = [.ref a] ∧ SqL K H2 a (zs.map V.str) ∧ (zs.reverse.map (·.length)).sum + zs.reverse.length * z.length ≤ 16777216 ∧ Q (.str (Txt.join z zs.reverse)) H2
theorem rev_strs {us acc : Array Value} {zs : List Str} (r : Vals (zs.map V.str) us.toList) (h : ItemsOf (fun i v => us[us.size - 1 - i]? = some v) acc us.size) : StrsAre acc.toList zs.reverse := by
  have e : acc.toList = us.toList.reverse := by
    apply List.ext_getElem?
    intro j
    by_cases hj : j < us.size
    · have g := h.2 j (acc[j]'(by rw [h.1]; exact hj)) (Array.getElem?_eq_getElem _)
      rw [Array.getElem?_toList, Array.getElem?_eq_getElem (by rw [h.1]; exact hj), List.getElem?_reverse (by simpa using hj), Array.length_toList, Array.getElem?_toList, g]
    · rw [List.getElem?_eq_none (by rw [Array.length_toList, h.1]; omega), List.getElem?_eq_none (by rw [List.length_reverse, Array.length_toList]; omega)]
  rw [e]
  have key : ∀ (us : List Value) (zs : List Str), StrsAre us zs → StrsAre us.reverse zs.reverse := by
    have snoc : ∀ (us : List Value) (zs : List Str) (z : Str) (t : Tok), StrsAre us zs → StrsAre (us ++ [.str z t]) (zs ++ [z]) := by
      intro us zs z t h
      induction h with
      | nil => exact .cons _ _ .nil
      | cons y u _ ih => exact .cons _ _ ih
    intro us zs h
    induction h with
    | nil => exact .nil
    | cons y u _ ih => rw [List.reverse_cons, List.reverse_cons]; exact snoc _ _ _ _ ih
  exact key _ _ (strs_are r)
theorem pe_joinRev {X : Cx} {o e1 : Expr} {to : TE} {ta : TA} {apos cpos rpos p : Pos} (hg : Gl X "reversed") (hm : X.mg "reversed" = none) (ho : PE X o to) (ha : PA X [e1] ta) (hc : X.calm = true := by rfl)
    (hbase : attributeBase o "join" X.env (eval o X.env) = eval o X.env := by rfl)
    (hfew : ((backTo cpos (starEach [.Call (.Name "reversed" p) [e1] [] rpos] X.env)).all (fun x => !x.1) && (backToKw cpos (keywordEach [] X.env)).all (fun x => x.1.isSome)
      && decide ([Expr.Call (.Name "reversed" p) [e1] [] rpos].length + ([] : List Keyword).length + (if ([] : List Keyword).isEmpty then 0 else 1) < 30)) = true := by rfl)
    (hline : (apos.endLine == cpos.line) = true := by rfl) (hs : starEach [.Call (.Name "reversed" p) [e1] [] rpos] X.env = [(false, eval (.Call (.Name "reversed" p) [e1] [] rpos) X.env)] := by rfl) (hs1 : starEach [e1] X.env = [(false, eval e1 X.env)] := by rfl) :
    PE X (.Call (.Attribute o "join" apos) [.Call (.Name "reversed" p) [e1] [] rpos] [] cpos) (tJoinRev X.K to ta) := by
  intro pins s σ H Q I h
  refine wpAny_Call_method_late hbase hfew hline rfl (thn (ho pins s σ H _ I h) fun v s1 ⟨x, H1, I1, r1, z, ex, q1⟩ => ?_)
  subst ex
  obtain ⟨tk, rfl⟩ := r1
  refine ⟨"str", "str.join", PySem.F.plainAttrs_str, PySem.F.slot_str_join, PySem.F.type_str_join, typeIs_str _ _ _, (fun _ e => nomatch e), ?_⟩
  rw [hs]
  refine Calls.callWith_builtin rfl (Calls.evalArgs_plain (Calls.spliced_cons ?_))
  refine Call_ (ld_blt I1 hg hm boot_reversed (PyProof.Rows.callWith_type1 (thn (ha rpos pins s1 σ H1 _ I1 q1) fun us s2 ⟨vs, H2, I2, r2, q2⟩ => ?_) hs1 rfl))
  obtain ⟨a, zs, ev, hq, hz, q⟩ := q2
  subst ev
  obtain ⟨u, rfl, rx⟩ := vals1 r2
  cases rx
  obtain ⟨its, rv, pl, lz⟩ := I2.list hq
  refine call_reversed_list pl.isList (Calls.spliced_nil ?_)
  have I3 : Inv X pins σ H2 { s2 with heap := s2.heap.push (revObj a ((its.toArray.size : Int) - 1)) } := I2.kept (t' := s2.toks) fun b o e => Heap.get?_push_of_some _ e
  have st : (s2.heap.push (revObj a ((its.toArray.size : Int) - 1))).IsRevIter s2.heap.objs.size a ((its.toArray.size : Int) - 1) := ⟨_, Heap.get?_push_size _ rfl, rfl, rfl⟩
  have li : (s2.heap.push (revObj a ((its.toArray.size : Int) - 1))).IsList a its.toArray := pl.isList.at fun o e => Heap.get?_push_of_some _ e
  have ne : a ≠ s2.heap.objs.size := by obtain ⟨o, e, _⟩ := pl.isList; exact fun m => absurd (m ▸ Heap.lt_size e) (Nat.lt_irrefl _)
  refine wpAny_call (codeAny_call_builtin F.slot_str_join.plain F.entry_str_join (F.slot_str_join.check _ _ _ _ _ _ _ _ (typeIs_str _ _ _) (F.args_str_join_2 _ _) ?_))
  show wpAny _ _ (Builtin.«str.join» ⟨[.str z tk, .ref s2.heap.objs.size], []⟩) _ _ _
  rw [join_tree_other]
  refine wpAny_bind (wpAny_typeOf st.typeIs ?_)
  rw [if_neg (by decide)]
  refine wpAny_bind (wpAny_tryCatch (wpAny_pyIter_revIter st ?_))
  have sl : its.toArray.size ≤ sizeLine := by rw [List.size_toArray, ← rv.length]; exact lz
  refine wpAny_bind (gather_rev (I3.ok.hd hc) ne st li sl fun s4 acc mv ia => ?_)
  obtain ⟨l, e1, e2⟩ := strsAre_values (rev_strs (by simpa using rv) ia)
  have fp := I2.fpOk (Nat.le_refl _) (I2.hok.fresh (Nat.le_refl _))
  have I4 : ∀ k, Inv X pins σ H2 { s4 with toks := k } := fun k => by
    have I5 := I3.turned (h' := s4.heap) (t' := k) (it := s2.heap.objs.size) (fun b o hb e => mv.heap b o (fun m => hb (List.mem_singleton.mp m)) e) fp.1 fp.2.1 fp.2.2.2.1 fp.2.2.2.2.1 fp.2.2.2.2.2
    have f1 : s4.gens = s2.gens := mv.gens
    have f2 : s4.drawn = s2.drawn := mv.drawn
    have f3 : s4.os = s2.os := mv.os
    rw [f1, f2, f3]
    exact I5
  have ok := joinOk_of hz
  rw [← e2] at ok
  unfold JoinOk at ok
  rw [Bool.not_eq_true'] at ok
  have gv : ∀ l : List (Str × Tok), Builtin.Str.tooLong (((l.map (·.1)).toArray).foldl (fun x1 x2 => x1 + x2.length + z.length) 0) = false → Gives (joinTail z (strValues l)) (joinMade z l) := fun l ok => by
    have g0 := gives_joinTail z l ok
    cases l with
    | nil => exact g0
    | cons p r => cases r <;> exact g0
  rw [e1]
  refine gv l ok _ _ _ (wants _ _) _ (post_join l ⟨joinFit_length ok, fun t2 k => ?_⟩)
  rw [e2]
  exact ⟨.str _, H2, I4 k, ⟨_, rfl⟩, q⟩
end L2
namespace L2
open PySem
/-! ### the figures of a whole number (no Python) -/
def dg (m : Nat) : List Nat := (Nat.toDigits 10 m).map Char.toNat
theorem dg_text (m : Nat) : (Str.ofString (toString (m : Int))).cps.toList = dg m := PySem.W.KIN.signs_num m
theorem dg_lt {m : Nat} (h : m < 10) : dg m = [48 + m] := by
  unfold dg
  rw [Nat.toDigits_of_lt_base h]
  match m, h with
  | 0, _ | 1, _ | 2, _ | 3, _ | 4, _ | 5, _ | 6, _ | 7, _ | 8, _ | 9, _ => rfl
  | n + 10, h => omega
theorem dg_ge {m : Nat} (h : 10 ≤ m) : dg m = dg (m / 10) ++ [48 + m % 10] := by
  have e := dg_lt (m := m % 10) (Nat.mod_lt _ (by decide))
  unfold dg at e ⊢
  rw [Nat.toDigits_of_base_le (by decide) h, List.map_append, ← e, Nat.toDigits_of_lt_base (Nat.mod_lt _ (by decide))]
def dz : Nat → Nat → List Nat
  | 0, _ => []
  | k + 1, m => dz k (m / 10) ++ [48 + m % 10]
theorem dg_cut : ∀ k m, 10 ^ k ≤ m → dg m = dg (m / 10 ^ k) ++ dz k (m % 10 ^ k)
  | 0, m, _ => by simp [dz]
  | k + 1, m, h => by
    have p : 10 ^ (k + 1) = 10 * 10 ^ k := by rw [Nat.pow_succ, Nat.mul_comm]
    have p0 : 0 < 10 ^ k := Nat.pow_pos (by decide)
    have m10 : 10 ≤ m := by rw [p] at h; omega
    rw [dg_ge m10, dg_cut k (m / 10) (by rw [p] at h; exact (Nat.le_div_iff_mul_le (by decide)).mpr (by omega))]
    rw [dz, p, Nat.mod_mul_right_div_self, Nat.mod_mul_right_mod, Nat.div_div_eq_div_mul, List.append_assoc]
theorem dz_pad : ∀ k m, m < 10 ^ (k + 1) → dz (k + 1) m = List.replicate (k + 1 - (dg m).length) 48 ++ dg m
  | 0, m, h => by rw [dg_lt (by omega)]; simp [dz]; omega
  | k + 1, m, h => by
    have p : 10 ^ (k + 1 + 1) = 10 * 10 ^ (k + 1) := by rw [Nat.pow_succ, Nat.mul_comm]
    rw [dz]
    by_cases m10 : m < 10
    · have e := dz_pad k 0 (Nat.pow_pos (by decide))
      rw [Nat.div_eq_of_lt m10, e, dg_lt m10, dg_lt (m := 0) (by decide), Nat.mod_eq_of_lt m10]
      show List.replicate k 48 ++ [48] ++ [48 + m] = List.replicate (k + 1) 48 ++ [48 + m]
      rw [List.replicate_succ']
    · rw [dz_pad k (m / 10) (by rw [p] at h; omega), dg_ge (m := m) (by omega), List.length_append, List.append_assoc]
      congr 2
      simp
theorem dg_fig : ∀ m, ∀ c ∈ dg m, 48 ≤ c ∧ c ≤ 57 := by
  intro m
  induction m using Nat.strongRecOn with
  | ind m ih =>
    intro c hc
    by_cases h : m < 10
    · rw [dg_lt h, List.mem_singleton] at hc; omega
    · rw [dg_ge (by omega)] at hc
      rcases List.mem_append.mp hc with hc | hc
      · exact ih (m / 10) (by omega) c hc
      · rw [List.mem_singleton] at hc; omega
theorem dg_ne (m : Nat) : dg m ≠ [] := by
  by_cases h : m < 10
  · rw [dg_lt h]; simp
  · rw [dg_ge (by omega)]; simp
theorem dg_head : ∀ m, m ≠ 0 → (dg m)[0]? ≠ some 48 := by
  intro m
  induction m using Nat.strongRecOn with
  | ind m ih =>
    intro h0 hc
    by_cases h : m < 10
    · rw [dg_lt h] at hc; simp at hc; omega
    · rw [dg_ge (by omega), List.getElem?_append_left (List.length_pos_iff.mpr (dg_ne _))] at hc
      exact ih (m / 10) (by omega) (by omega) hc
theorem dg_len : ∀ k m, m < 10 ^ (k + 1) → (dg m).length ≤ k + 1
  | 0, m, h => by rw [dg_lt (by omega)]; simp
  | k + 1, m, h => by
    by_cases m10 : m < 10
    · rw [dg_lt m10]; simp
    · have p : 10 ^ (k + 1 + 1) = 10 * 10 ^ (k + 1) := by rw [Nat.pow_succ, Nat.mul_comm]
      rw [dg_ge (by omega), List.length_append]
      have := dg_len k (m / 10) (by rw [p] at h; omega)
      simp
      omega
theorem zfill_dg {z : Str} {m k : Nat} (h : z.cps.toList = dg m) (hm : m < 10 ^ (k + 1)) : (Txt.zfill z ((k + 1 : Nat) : Int)).cps.toList = dz (k + 1) m := by
  have zl : z.length = (dg m).length := by rw [← h]; exact Array.length_toList.symm
  have le := dg_len k m hm
  rw [dz_pad k m hm]
  unfold Txt.zfill
  by_cases q : ((k + 1 : Nat) : Int) ≤ z.length
  · rw [if_pos q, show k + 1 - (dg m).length = 0 by omega, h]; rfl
  · rw [if_neg q]
    have c0 : ∃ c, z.cps[0]? = some c ∧ 48 ≤ c := by
      cases e : dg m with
      | nil => exact absurd e (dg_ne m)
      | cons c r => exact ⟨c, by rw [← Array.getElem?_toList, h, e]; rfl, (dg_fig m c (by rw [e]; exact List.mem_cons_self)).1⟩
    obtain ⟨c, hc, c48⟩ := c0
    have pe : zfilled z (((k + 1 : Nat) : Int).toNat - z.length) = Builtin.Str.padded z (((k + 1 : Nat) : Int).toNat - z.length) 0 48 := by
      unfold zfilled
      rw [hc]
      split
      · rename_i e; cases e; omega
      · rename_i e; cases e; omega
      · rfl
    rw [pe]
    unfold Builtin.Str.padded
    simp [h, zl]
theorem join_none : ∀ zs : List Str, (Str.join ⟨#[]⟩ zs).cps.toList = (zs.map fun z => z.cps.toList).flatten
  | [] => rfl
  | [z] => by simp [Str.join]
  | z :: y :: r => by
    rw [show Str.join ⟨#[]⟩ (z :: y :: r) = z ++ ⟨#[]⟩ ++ Str.join ⟨#[]⟩ (y :: r) from rfl]
    show ((z.cps ++ #[]) ++ (Str.join ⟨#[]⟩ (y :: r)).cps).toList = _
    rw [Array.toList_append, Array.toList_append, join_none (y :: r)]
    simp
/-! ### signs that are figures; what a text of figures, of cents tells -/
def figB (c : Nat) : Bool := decide (48 ≤ c) && decide (c ≤ 57)
theorem fig_iff {c : Nat} : figB c = true ↔ 48 ≤ c ∧ c ≤ 57 := by simp [figB]
theorem fig_in (c : Nat) : (!(Builtin.Str.occurrences (Str.ofString "0123456789") ⟨#[c]⟩ 0 (Str.ofString "0123456789").length 1).isEmpty) = figB c := by
  rw [PySem.StrLaws.found_one]
  have e : (Str.ofString "0123456789").cps.toList = [48, 49, 50, 51, 52, 53, 54, 55, 56, 57] := by decide +kernel
  rw [e, Bool.eq_iff_iff]
  simp [figB]
  omega
def fval (l : List Nat) : Int := l.foldl (fun (v : Int) (c : Nat) => 10 * v + ((c : Int) - 48)) 0
theorem figs_val : ∀ (l : List Nat) (v : Nat), l.all figB = true → ((l.foldl (fun acc c => acc * 10 + (c - 48)) v : Nat) : Int) = l.foldl (fun (v : Int) (c : Nat) => 10 * v + ((c : Int) - 48)) (v : Int)
  | [], _, _ => rfl
  | c :: l, v, h => by
    rw [List.all_cons, Bool.and_eq_true] at h
    have c48 := fig_iff.mp h.1
    rw [List.foldl_cons, List.foldl_cons, figs_val l _ h.2]
    congr 1
    omega
theorem fval_eq {l : List Nat} (h : l.all figB = true) : fval l = ((PySem.NumText.digitsVal l : Nat) : Int) := (figs_val l 0 h).symm
theorem fval_nn {l : List Nat} (h : l.all figB = true) : 0 ≤ fval l := by rw [fval_eq h]; omega
theorem fig_text {z : Str} (h : z.cps.toList.all figB = true) (h1 : z.cps.toList ≠ []) (h2 : z.length ≤ 4300) : PySem.intText? z = some (fval z.cps.toList) := by
  rw [PySem.intText_digits (fun c hc => by simpa [figB] using List.all_eq_true.mp h c hc) h1 h2, fval_eq h]
theorem dg_all (m : Nat) : (dg m).all figB = true := List.all_eq_true.mpr fun c hc => fig_iff.mpr (dg_fig m c hc)
theorem dg_val (m : Nat) : fval (dg m) = m := by rw [fval_eq (dg_all m)]; exact congrArg Int.ofNat (PySem.W.KIN.val_back m)
/-- a whole number's text: one to thirty figures, no nought ahead -/
def wholeL (l : List Nat) : Option Int := if (1 ≤ l.length ∧ l.length ≤ 30) ∧ (l[0]? = some 48 → l.length = 1) ∧ l.all figB = true then some (fval l) else none
def coinsL (l : List Nat) : Option Int := if 3 ≤ l.length ∧ l[l.length - 3]? = some 46 ∧ (l.drop (l.length - 2)).all figB = true then (wholeL (l.take (l.length - 3))).map (fun w => 100 * w + fval (l.drop (l.length - 2))) else none
def centsL (l : List Nat) : Option Int := if l[0]? = some 45 then (coinsL (l.drop 1)).bind (fun c => if c = 0 then none else some (-c)) else coinsL l
def rateL (l : List Nat) : Option Int := (centsL l).bind fun r => if 0 ≤ r ∧ r ≤ 1000000 then some r else none
theorem whole_nn {l : List Nat} {n : Int} (h : wholeL l = some n) : 0 ≤ n ∧ l.all figB = true ∧ 1 ≤ l.length := by
  unfold wholeL at h
  split at h
  · rename_i q; cases h; exact ⟨fval_nn q.2.2, q.2.2, q.1.1⟩
  · cases h
theorem coins_part {l a b : List Nat} (h : (46 ∉ l ∧ b = []) ∨ (l = a ++ 46 :: b ∧ 46 ∉ a)) : coinsL l = if b.length = 2 ∧ b.all figB = true then (wholeL a).map (fun w => 100 * w + fval b) else none := by
  rcases h with ⟨hl, rfl⟩ | ⟨rfl, ha⟩
  · rw [if_neg (by simp)]
    exact if_neg fun q => hl (List.mem_of_getElem? q.2.1)
  · have ll : (a ++ 46 :: b).length = a.length + (b.length + 1) := by simp
    have nf : figB 46 = false := by decide
    by_cases hb : b.length = 2
    · have e1 : (a ++ 46 :: b).length - 3 = a.length := by omega
      have e2 : (a ++ 46 :: b).length - 2 = a.length + 1 := by omega
      have e3 : (a ++ 46 :: b).drop (a.length + 1) = b := by rw [List.drop_append]; simp
      unfold coinsL
      rw [e1, e2, e3, List.take_left]
      by_cases hf : b.all figB = true
      · rw [if_pos ⟨by omega, by simp, hf⟩, if_pos ⟨hb, hf⟩]
      · rw [if_neg (fun q => hf q.2.2), if_neg (fun q => hf q.2)]
    · rw [if_neg (fun q => hb q.1)]
      unfold coinsL
      split
      · rename_i q
        obtain ⟨q1, q2, q3⟩ := q
        rcases Nat.lt_or_gt_of_ne hb with lt | gt
        · exfalso
          have m : 46 ∈ (a ++ 46 :: b).drop ((a ++ 46 :: b).length - 2) := by
            rw [List.mem_iff_getElem?]
            refine ⟨a.length - ((a ++ 46 :: b).length - 2), ?_⟩
            rw [List.getElem?_drop, show (a ++ 46 :: b).length - 2 + (a.length - ((a ++ 46 :: b).length - 2)) = a.length by omega]
            simp
          have := List.all_eq_true.mp q3 46 m
          rw [nf] at this
          cases this
        · have m : 46 ∈ (a ++ 46 :: b).take ((a ++ 46 :: b).length - 3) := by
            rw [List.mem_iff_getElem?]
            exact ⟨a.length, by rw [List.getElem?_take_of_lt (by omega)]; simp⟩
          cases w : wholeL ((a ++ 46 :: b).take ((a ++ 46 :: b).length - 3)) with
          | none => rfl
          | some n =>
            have := List.all_eq_true.mp (whole_nn w).2.1 46 m
            rw [nf] at this
            cases this
      · rfl
/-- what is written -/
def two (n : Int) : Str := ⟨#[48 + (n / 10).toNat, 48 + (n % 10).toNat]⟩
theorem two_eq {n : Int} (h0 : 0 ≤ n) (h1 : n ≤ 99) : Txt.zfill (Str.ofString (toString n)) 2 = two n := by
  obtain ⟨k, rfl⟩ := Int.eq_ofNat_of_zero_le h0
  have : k < 100 := by omega
  revert this
  clear h0 h1
  revert k
  decide +kernel
theorem log2_small {f : Int} (h0 : 0 ≤ f) (h1 : f < 10 ^ 90) : f.natAbs.log2 < 1920 := by
  by_cases hz : f.natAbs = 0
  · rw [hz]; decide
  · exact (Nat.log2_lt hz).mpr (Nat.lt_of_lt_of_le (show f.natAbs < 10 ^ 90 by omega) (by decide +kernel))
def sgn (n : Int) : Str := if n < 0 then Str.ofString "-" else Str.ofString ""
noncomputable def shC (n : Int) : Str := sgn n ++ Str.ofString (toString ((n.natAbs / 100 : Nat) : Int)) ++ Str.ofString "." ++ two ((n.natAbs % 100 : Nat) : Int)
theorem app_list (a b : Str) : (a ++ b).cps.toList = a.cps.toList ++ b.cps.toList := by
  show (a.cps ++ b.cps).toList = _
  rw [Array.toList_append]
theorem str_ext {a b : Str} (h : a.cps.toList = b.cps.toList) : a = b := by
  obtain ⟨⟨a⟩⟩ := a
  obtain ⟨⟨b⟩⟩ := b
  have h : a = b := h
  rw [h]
theorem dot_list : (Str.ofString ".").cps.toList = [46] := by decide +kernel
theorem minus_list : (Str.ofString "-").cps.toList = [45] := by decide +kernel
theorem none_list : (Str.ofString "").cps.toList = [] := by decide +kernel
theorem shC_list (n : Int) : (shC n).cps.toList = (sgn n).cps.toList ++ (dg (n.natAbs / 100) ++ 46 :: [48 + n.natAbs % 100 / 10, 48 + n.natAbs % 100 % 10]) := by
  unfold shC
  rw [app_list, app_list, app_list, dg_text, dot_list, List.append_assoc, List.append_assoc]
  rfl
theorem coins_shown {m : Nat} (h : m < 10 ^ 30) : coinsL (dg (m / 100) ++ 46 :: [48 + m % 100 / 10, 48 + m % 100 % 10]) = some (m : Int) := by
  rw [coins_part (.inr ⟨rfl, fun q => by have := dg_fig _ _ q; omega⟩), if_pos ⟨rfl, by simp [figB]; omega⟩]
  have len := dg_len 27 (m / 100) (by omega)
  have w : wholeL (dg (m / 100)) = some ((m / 100 : Nat) : Int) := by
    have hq : (dg (m / 100))[0]? = some 48 → (dg (m / 100)).length = 1 := fun q => by
      by_cases z : m / 100 = 0
      · rw [z]; rfl
      · exact absurd q (dg_head _ z)
    unfold wholeL
    rw [if_pos ⟨⟨List.length_pos_iff.mpr (dg_ne _), by omega⟩, hq, dg_all _⟩, dg_val]
  rw [w]
  show some (100 * ((m / 100 : Nat) : Int) + fval [48 + m % 100 / 10, 48 + m % 100 % 10]) = _
  rw [show fval [48 + m % 100 / 10, 48 + m % 100 % 10] = 10 * (10 * 0 + (((48 + m % 100 / 10 : Nat) : Int) - 48)) + (((48 + m % 100 % 10 : Nat) : Int) - 48) from rfl]
  congr 1
  omega
theorem cents_shown {n : Int} (h : n.natAbs < 10 ^ 30) : centsL (shC n).cps.toList = some n := by
  rw [shC_list]
  have c := coins_shown h
  by_cases s : n < 0
  · rw [show (sgn n).cps.toList = [45] by unfold sgn; rw [if_pos s]; exact minus_list]
    unfold centsL
    refine (if_pos rfl).trans ?_
    show (coinsL (dg (n.natAbs / 100) ++ 46 :: [48 + n.natAbs % 100 / 10, 48 + n.natAbs % 100 % 10])).bind _ = _
    rw [c]
    show (if ((n.natAbs : Nat) : Int) = 0 then none else some (-((n.natAbs : Nat) : Int))) = _
    rw [if_neg (by omega)]
    congr 1
    omega
  · rw [show (sgn n).cps.toList = [] by unfold sgn; rw [if_neg s]; exact none_list, List.nil_append]
    unfold centsL
    rw [if_neg, c]
    · congr 1; omega
    · intro q
      rw [List.getElem?_append_left (List.length_pos_iff.mpr (dg_ne _))] at q
      have := dg_fig _ _ (List.mem_of_getElem? q)
      omega
theorem shC_len {n : Int} {k : Nat} (h : n.natAbs / 100 < 10 ^ (k + 1)) : (shC n).length ≤ k + 5 := by
  have e := congrArg List.length (shC_list n)
  rw [Array.length_toList, List.length_append, List.length_append] at e
  have := dg_len k _ h
  have s : (sgn n).cps.toList.length ≤ 1 := by
    unfold sgn
    split
    · rw [minus_list]; simp
    · rw [none_list]; simp
  show (shC n).cps.size ≤ _
  rw [e]
  show _ + (_ + 3) ≤ _
  omega
theorem slice_from (z : Str) {i : Int} (h0 : 0 ≤ i) : (Txt.slice z (some i) none).cps.toList = z.cps.toList.drop i.toNat := by
  have zl : z.cps.toList.length = z.length := Array.length_toList
  by_cases h : i ≤ z.length
  · have e : Txt.slice z (some i) none = ⟨((z.cps.toList.drop i.toNat).take ((z.cps.toList.length : Int) - i).toNat).toArray⟩ := PySem.StrLaws.sliceText_from ⟨h0, by rw [zl]; exact h⟩
    rw [e]
    show (z.cps.toList.drop i.toNat).take _ = _
    exact List.take_of_length_le (by rw [List.length_drop]; omega)
  · have e : Txt.slice z (some (z.length : Int)) none = ⟨((z.cps.toList.drop ((z.length : Int)).toNat).take ((z.cps.toList.length : Int) - (z.length : Int)).toNat).toArray⟩ := PySem.StrLaws.sliceText_from ⟨by omega, by rw [zl]; omega⟩
    rw [show Txt.slice z (some i) none = Txt.slice z (some (z.length : Int)) none by unfold Txt.slice; rw [PyProof.Rows.indices_beyond (by omega)], e]
    show (z.cps.toList.drop _).take _ = _
    rw [List.drop_eq_nil_of_le (by omega), List.drop_eq_nil_of_le (by omega), List.take_nil]
theorem starts_one (z : Str) (c : Nat) : Txt.startswith z ⟨#[c]⟩ = decide (z.cps.toList[0]? = some c) := by
  unfold Txt.startswith
  rw [Bool.eq_iff_iff, Bool.and_eq_true, decide_eq_true_iff, decide_eq_true_iff]
  rw [PySem.StrLaws.subAt_eq, show (⟨#[c]⟩ : Str).length = 1 from rfl, show (⟨#[c]⟩ : Str).cps.toList = [c] from rfl, PySem.StrLaws.take1_drop]
  exact ⟨fun q => q.2, fun q => ⟨by have := (List.getElem?_eq_some_iff.mp q).1; rw [Array.length_toList] at this; exact this, q⟩⟩
theorem part_one (z : Str) (c : Nat) : (c ∉ z.cps.toList ∧ (Txt.partition z ⟨#[c]⟩).2.2.cps.toList = []) ∨ (z.cps.toList = (Txt.partition z ⟨#[c]⟩).1.cps.toList ++ c :: (Txt.partition z ⟨#[c]⟩).2.2.cps.toList ∧ c ∉ (Txt.partition z ⟨#[c]⟩).1.cps.toList) := by
  have sum := congrArg (fun x : Str => x.cps.toList) (PySem.StrLaws.partition_sum z ⟨#[c]⟩)
  have em := PyProof.Rows.partition_head z ⟨#[c]⟩
  have at_ : ∀ k, PySem.StrLaws.At z ⟨#[c]⟩ z.length k ↔ z.cps.toList[k]? = some c := fun k => by
    unfold PySem.StrLaws.At
    rw [PySem.StrLaws.subAt_eq, show (⟨#[c]⟩ : Str).length = 1 from rfl, show (⟨#[c]⟩ : Str).cps.toList = [c] from rfl, PySem.StrLaws.take1_drop]
    exact ⟨fun q => q.2, fun q => ⟨by have := (List.getElem?_eq_some_iff.mp q).1; rw [Array.length_toList] at this; exact this, q⟩⟩
  have e1 := PySem.StrLaws.found_one z c
  unfold Txt.partition at sum em ⊢
  cases o : Builtin.Str.occurrences z ⟨#[c]⟩ 0 z.length 1 with
  | nil =>
    rw [o] at e1
    refine .inl ⟨fun m => ?_, rfl⟩
    rw [decide_eq_true m] at e1
    cases e1
  | cons i r =>
    rw [o] at sum em
    dsimp only at sum em ⊢
    rw [app_list, app_list] at sum
    refine .inr ⟨by rw [← sum, List.append_assoc]; rfl, fun m => ?_⟩
    rcases em with ⟨_, em⟩ | ⟨k, ek, _, em⟩
    · have mz : c ∈ z.cps.toList := by rw [← sum, List.append_assoc]; exact List.mem_append_left _ m
      obtain ⟨q, hq⟩ := List.mem_iff_getElem?.mp mz
      exact em q ((at_ q).mpr hq)
    · rw [ek, PySem.StrLaws.strSub_toList] at m
      obtain ⟨q, hq⟩ := List.mem_iff_getElem?.mp m
      have lt : q < k := by
        have := (List.getElem?_eq_some_iff.mp hq).1
        rw [List.length_take] at this
        omega
      rw [List.getElem?_take_of_lt (by omega), List.drop_zero] at hq
      exact em q lt ((at_ q).mpr hq)
end L2
namespace L2
open PySem PySem.Spec PyProof.Rows
section
variable {X : Cx} {pins : List (Addr × Obj)} {σ : St} {H : Hp} {s : Shared} {sc : Scope} {x y0 : Str} {ix : List Nat} {fp : List Addr}
end
section
variable {X : Cx} {pins : List (Addr × Obj)} {σ : St} {H : Hp} {s : Shared} {sc : Scope} {x y0 : Str} {ix : List Nat} {fp : List Addr} {elt iter : Expr} {te : TE} {wi : TI} {px py0 pt0 pos : Pos} {kt0 : Nat}
end
end L2
/-! The library's sorting of few items, as a tree of questions, told by an order. -/
namespace SortT
open PySem PySem.W PyProof.Rows
variable {N : Nat} {lt : Nat → Nat → Bool}
end SortT
namespace SortT
open PySem PySem.W PyProof.Rows PySem.Calls
section
variable {prog : Program} {w : World} {A : Around} {E : Value → Shared → Prop} {s : Shared}
end
end SortT
namespace L2
open PySem PySem.Spec PyProof.Rows
section
variable {X : Cx} {e k : Expr} {te : TE} {p2 pos : Pos} {lo hi : Option Expr} {tl th : TO}
end
end L2
namespace L2
open PySem PySem.Spec PyProof.Rows
section
variable {prog : Program} {w : World} {A : Around} {s : Shared} {R : Result → Shared → Prop}
end
section
variable {X : Cx} {pins : List (Addr × Obj)} {σ : St} {H : Hp} {s : Shared}
end
end L2
namespace L2
open PySem PySem.Spec PyProof.Rows
/-! ### C.m(..): a method taken of its class -/
structure UnbS (K : PySem.W.Frag) (C : Addr) (m qual : Str) (st : Stmt) (ps : List Str) : Prop where
  ex : ∃ (f : Addr) (fd : FuncData), Fun K m qual st f fd ∧ (PySem.W.specialIn K (.ref C) "__getattribute__" = some (some (.builtin "type.__getattribute__")) ∧ PySem.W.readsIn K C (.type "type") = true ∧
    PySem.W.findCls K (.ref C) (.type "type") m = some (.val (.ref f)) ∧ PySem.W.handedIn (.ref f) = true) ∧ ∀ us : List Value, us.length = ps.length → bindArgs fd ⟨us, []⟩ = pure (ps.zip us)
structure DefU (P : Program) (w : World) (K : PySem.W.Frag) (mg : Str → Option Value) (base : Heap) (k : Nat) (C : Addr) (m : Str) (ps : List Str) (sp : Sp) : Prop where
  ex : ∃ (f : Addr) (fd : FuncData), FnOk P w K mg base CX0 k f fd ps sp ∧ (PySem.W.specialIn K (.ref C) "__getattribute__" = some (some (.builtin "type.__getattribute__")) ∧ PySem.W.readsIn K C (.type "type") = true ∧
    PySem.W.findCls K (.ref C) (.type "type") m = some (.val (.ref f)) ∧ PySem.W.handedIn (.ref f) = true) ∧ PySem.W.keepIn K (.ref f) = true ∧ ∀ us : List Value, us.length = ps.length → bindArgs fd ⟨us, []⟩ = pure (ps.zip us)
theorem UnbS.ok {P : Program} {w : World} {K : PySem.W.Frag} {mg : Str → Option Value} {base : Heap} {C : Addr} {m qual : Str} {st : Stmt} {N ps : List Str} {k : Nat} {sp : Sp} (S : UnbS K C m qual st ps) (sc : FnScope N ps (defScope st)) (len : ∀ vs H Q E, sp vs H Q E → vs.length = ps.length)
    (hbody : ∀ (f : Addr) (cdv : Value) (A : Around) (outer : List Env) (s : Shared) (H : Hp) (vs : List V) (Q : VK) (E : XK), Room k (A.deeper (envOfC qual (defScope st) s.heap.objs.size f cdv)) → sp vs H Q E →
      ∃ t, PSs (cxOf CX0 P w K mg base N qual (defScope st) f cdv A outer s H E).nox (defBody st) t ∧ t { nx := fun _ H' => Q .non H', rt := Q } (start N vs) H) : DefU P w K mg base (k + 1) C m ps sp := by
  obtain ⟨f, fd, F, hm, hb⟩ := S.ex
  exact ⟨f, fd, F.ok sc len (fun cdv => hbody f cdv), hm, F.kp, hb⟩
section
variable {X : Cx} {C : Addr} {x m : Str} {p pos apos : Pos} {e o : Expr} {es : List Expr} {t : TA} {j k : Nat} {ps : List Str} {sp : Sp}
theorem pe_unb {pl : Sem Bool} (D : DefU X.prog X.w X.K X.mg X.base j C m ps sp) (he : PE X o (tC (.ref C))) (hr : Room k X.A) (ha : PA X (e :: es) t) (hj : j ≤ k := by decide)
    (hst : starEach (e :: es) X.env = (false, eval e X.env) :: starEach es X.env := by rfl) (hpl : (backTo pos (starEach es X.env)).any (·.1) = false := by rfl)
    (ht : eval (.Call (.Attribute o m apos) (e :: es) [] pos) X.env = (do
      let ov ← eval o X.env
      standAt apos.atName
      let (f, first) ← holding [ov] (getMethod ov m pl)
      callWith pos f first (backTo pos (starEach (e :: es) X.env)) (backToKw pos (keywordEach [] X.env))) := by rfl) :
    PE X (.Call (.Attribute o m apos) (e :: es) [] pos) (tCall sp [] E0 t) := by
  intro pins s σ H Q I h
  obtain ⟨f, fd, F, ⟨h1, h2, h3, h4⟩, kp, hb⟩ := D.ex
  refine PySem.W.methodCall_KW (pl := pl) (thn (he pins s σ H (fun v H1 => v = .ref C ∧ H1 = H) I ⟨rfl, rfl⟩) fun u s1 ⟨y, H1, I1, ry, e1, e2⟩ => ?_) ht
  subst e1 e2
  obtain rfl : u = Value.ref C := ry
  refine PySem.W.method_cls I1.kIn h1 (PySem.W.cls_value I1.kIn h2 h3 h4 ?_)
  have I2 := I1.tok (s1.toks + 1)
  refine PySem.W.callWith_K (first := []) (h₀ := X.base) I.ok.mod.kin kp (thn (ha pos pins _ σ _ _ I2 h) fun us s2 ⟨vs, H2, I3, r, q2⟩ => ⟨I3.kIn, ?_⟩) hst hpl
  exact run_fn (us := us) (vs := vs) (dvs := []) (ds := []) F (hr.mono hj) (.all hb) .nil pass0 I3 r q2
end
/-! ### all(xs), xs a list of truths -/
theorem boolsAre_vals : ∀ {bs : List Bool} {us : List Value}, Vals (bs.map V.bl) us → LSm.BoolsAre us bs
  | [], _, .nil => .nil
  | b :: bs, _, .cons r rs => by
    cases r
    exact .cons b (boolsAre_vals rs)
theorem call_allB {X : Cx} (hc : X.calm = true) : CallR X (.builtin "all") (fun xs H Q => ∃ (p : Addr) (bs : List Bool), xs = [.ref p] ∧ SqL X.K H p (bs.map V.bl) ∧ Q (.bl (bs.all id)) H) := by
  intro pins s σ H xs us Q I r h
  obtain ⟨p, bs, rfl, hq, q⟩ := h
  obtain ⟨u, rfl, rx⟩ := vals1 r
  cases rx
  obtain ⟨vs, rv, pl, hz⟩ := I.list hq
  have hb := boolsAre_vals rv
  have hl := pl.isList
  have hlt : p < s.heap.objs.size := by obtain ⟨_, e, _⟩ := hl; exact Heap.lt_size e
  refine PySem.call_all_walk (wpAny_pyIter_list hl ?_)
  refine ⟨s.heap.objs.size, [s.heap.objs.size, p], [s.heap.objs.size], vs.toArray.size, _, _, fun i => (bs[i]?).getD true, rfl, Walks.list (A := X.A.in1) (I.ok.hd hc) _ p (Nat.ne_of_lt hlt) vs.toArray,
    ⟨⟨_, Heap.get?_push_size _ rfl, rfl, rfl⟩, hl.push _⟩, fun i v s' Q' E' hP hQ => ?_, fun h' tk hk => ?_⟩
  · obtain ⟨b, e, rfl⟩ := hb.get i v (by simpa using hP)
    simp only [e, Option.getD_some] at hQ
    exact wpAny_truthy_bool hQ
  · have e : ((List.range vs.toArray.size).all fun i => (bs[i]?).getD true) = bs.all id := by
      rw [← LSm.range_all, List.size_toArray, hb.length]
    rw [e]
    exact ⟨.bl _, H, I.kept (LSm.kept_iter hk), rfl, q⟩
/-! ### nine classes, one above all others -/
inductive Ek where
  | out | fee | pay | due | turn | rate | late | still | base
def Ek.cls : Ek → Str
  | .out => "Out"
  | .fee => "Fee"
  | .pay => "Pay"
  | .due => "Due"
  | .turn => "Turn"
  | .rate => "Rate"
  | .late => "Late"
  | .still => "Still"
  | .base => "Entry"
def Ek.word : Ek → Str
  | .out => "out"
  | .fee => "fee"
  | .pay => "pay"
  | .due => "due"
  | .turn => "turn"
  | .rate => "rate"
  | .late => "late"
  | .still => "still"
  | .base => ""
/-- the fields of an entry -/
def entF : Ek → Int → Int → List (Str × V)
  | .turn, d, _ => [("day", .int d)]
  | .base, d, _ => [("day", .int d)]
  | .rate, d, x => [("day", .int d), ("rate", .int x)]
  | .late, d, x => [("day", .int d), ("rate", .int x)]
  | .still, d, x => [("day", .int d), ("until", .int x)]
  | .out, d, x => [("day", .int d), ("amount", .int x)]
  | .fee, d, x => [("day", .int d), ("amount", .int x)]
  | .pay, d, x => [("day", .int d), ("amount", .int x)]
  | .due, d, x => [("day", .int d), ("amount", .int x)]
/-- its row -/
def rowV : Ek → Int → Int → List V
  | .turn, d, _ => [.str "turn", .int d]
  | .base, d, _ => [.str "", .int d]
  | k, d, x => [.str k.word, .int d, .int x]
abbrev IsEnt (K : PySem.W.Frag) (H : Hp) (a dx : Addr) (k : Ek) (d x : Int) : Prop := H a = some (.ins (cA K k.cls) dx (entF k d x))
theorem entF_word (k : Ek) (d x : Int) : List.lookup ("word" : Str) (entF k d x) = none := by cases k <;> rfl
theorem entF_row (k : Ek) (d x : Int) : List.lookup ("row" : Str) (entF k d x) = none := by cases k <;> rfl
/-- whether the one stands under the other -/
def subE : Ek → Ek → Bool
  | _, .base => true
  | .out, .out => true
  | .fee, .fee => true
  | .pay, .pay => true
  | .due, .due => true
  | .turn, .turn => true
  | .rate, .rate => true
  | .late, .late => true
  | .still, .still => true
  | _, _ => false
/-- what the third thing of a row must be -/
def ThirdOk : Ek → Int → Int → Prop
  | .fee, _, x => -1000000000000 ≤ x ∧ x ≤ 1000000000000
  | .rate, _, x => 0 ≤ x ∧ x ≤ 1000000
  | .late, _, x => 0 ≤ x ∧ x ≤ 1000000
  | .still, d, x => d + 1 ≤ x ∧ x ≤ 1000000
  | .turn, _, _ => True
  | .base, _, _ => False
  | .out, _, x => 1 ≤ x ∧ x ≤ 1000000000000
  | .pay, _, x => 1 ≤ x ∧ x ≤ 1000000000000
  | .due, _, x => 1 ≤ x ∧ x ≤ 1000000000000
def GoodRow (k : Ek) (d x : Int) : Prop := (0 ≤ d ∧ d ≤ 999999) ∧ ThirdOk k d x
theorem row0 (k : Ek) (d x : Int) : atI (rowV k d x) 0 = some (.str k.word) := by cases k <;> rfl
theorem row1 (k : Ek) (d x : Int) : atI (rowV k d x) 1 = some (.int d) := by cases k <;> rfl
def tMethE (K : PySem.W.Frag) (m : Str) (sp : Ek → Sp) (ta : TE) (t : TA) : TE := fun σ H Q => ta σ H fun x H1 => ∃ (k : Ek) (a dx : Addr) (fs : List (Str × V)), x = .ref a ∧ H1 a = some (.ins (cA K k.cls) dx fs) ∧ fs.lookup m = none ∧ t σ H1 fun vs H2 => sp k (x :: vs) H2 Q E0
section
variable {X : Cx} {C : Addr} {x m : Str} {p pos apos : Pos} {e o : Expr} {es : List Expr} {ta : TE} {t : TA} {j k : Nat} {ps : List Str}
theorem pe_methE0 {pl : Sem Bool} {sp : Ek → Sp} (D : ∀ k : Ek, DefM X.prog X.w X.K X.mg X.base j (cA X.K k.cls) m ps (sp k)) (hc : ∀ k : Ek, Cls X.K (cA X.K k.cls)) (hr : Room k X.A) (he : PE X o ta) (hj : j ≤ k := by decide)
    (ht : eval (.Call (.Attribute o m apos) [] [] pos) X.env = (do
      let ov ← eval o X.env
      standAt apos.atName
      let (f, first) ← holding [ov] (getMethod ov m pl)
      callWith pos f first (backTo pos (starEach [] X.env)) (backToKw pos (keywordEach [] X.env))) := by rfl) :
    PE X (.Call (.Attribute o m apos) [] [] pos) (tMethE X.K m sp ta tNil) := by
  intro pins s σ H Q I h
  refine PySem.W.methodCall_KW (pl := pl) (thn (he pins s σ H _ I h) fun u s1 ⟨x, H1, I1, rx, kd, a, dx, fs, ex, ea, l, q⟩ => ?_) ht
  subst ex
  obtain rfl : u = Value.ref a := rx
  obtain ⟨f, fd, F, hm, hb⟩ := (D kd).ex
  refine getmeth_ok I1 ea (hc kd) hm l ?_
  exact PySem.W.callWith_K0 (first := [.ref a]) I1.kIn hm.kp (run_fn (us := [.ref a]) (vs := [.ref a]) (dvs := []) (ds := []) F (hr.mono hj) (.all hb) .nil pass0 I1 (.cons rfl .nil) q)
end
section
variable {K : PySem.W.Frag} {x : Str} {C f : Addr}
theorem unb_mk {m qual : Str} {st : Stmt} {ps : List Str} {oc : Value} {od an : Option Addr} {osl : Array (Option Value)} {kV doc pm cdv ct : Value} (a : PySem.W.nsIn K mainGlobals x = some (some (.ref C))) (h1 : PySem.W.specialIn K (.ref C) "__getattribute__" = some (some (.builtin "type.__getattribute__")))
    (h2 : PySem.W.readsIn K C (.type "type") = true) (h3 : PySem.W.findCls K (.ref C) (.type "type") m = some (.val (.ref f))) (h4 : PySem.W.handedIn (.ref f) = true)
    (fk : PySem.W.keepIn K (.ref f) = true) (fl : K.lookup f = some ⟨oc, od, .func (PySem.W.fnOf m qual (defArgs st) (defBody st) (defScope st) .none kV doc pm an cdv ct), osl⟩) (fc : PySem.W.codeIn K cdv qual = true)
    (hb : ∀ us : List Value, us.length = ps.length → bindArgs (PySem.W.fnOf m qual (defArgs st) (defBody st) (defScope st) .none kV doc pm an cdv ct) ⟨us, []⟩ = pure (ps.zip us)) : UnbS K (cA K x) m qual st ps := by
  rw [cA_of a]; exact ⟨f, _, fun_mk fl fc fk, ⟨h1, h2, h3, h4⟩, hb⟩
end
end L2
namespace L2
open PySem PySem.Spec PyProof.Rows
/-! ### a list of things and what is known of each -/
inductive LL {α : Type} (R : V → α → Prop) : List V → List α → Prop
  | nil : LL R [] []
  | cons {v : V} {e : α} {vs : List V} {es : List α} : R v e → LL R vs es → LL R (v :: vs) (e :: es)
section
variable {α : Type} {R S : V → α → Prop} {vs ws : List V} {es fs : List α}
end
section
variable {X : Cx} {pins : List (Addr × Obj)} {σ : St} {H : Hp} {s : Shared} {o i e f value : Expr} {pos pos' apos cpos : Pos} {td ty tx tv : TE}
end
/-! ### fields and methods of entries within comprehensions -/
section
variable {X : Cx} {m f : Str} {pos apos : Pos} {o e : Expr} {ta : TE} {j k : Nat} {ps : List Str}
end
end L2
namespace L2
open PySem PySem.Spec PyProof.Rows
section
variable {X : Cx} {pins : List (Addr × Obj)} {σ : St} {H : Hp} {s : Shared} {sc : Scope} {x y0 y1 : Str} {ix : List Nat} {fp : List Addr}
end
section
variable {X : Cx} {pins : List (Addr × Obj)} {σ : St} {H : Hp} {s : Shared} {sc : Scope} {x y0 y1 : Str} {ix : List Nat} {fp : List Addr} {elt iter c : Expr} {te : TE} {tt : TT} {wi : TI} {px py0 py1 pt0 pos : Pos} {kt0 : Nat}
end
end L2
/-! ### methods and makers that may raise -/
namespace L2
open PySem PySem.Spec PyProof.Rows
section
variable {P : Program} {w : World} {K : PySem.W.Frag} {mg : Str → Option Value} {base : Heap} {C : Addr} {m qual : Str} {st : Stmt} {N ps : List Str} {k : Nat} {sp : Sp}
end
section
variable {X : Cx} {C : Addr} {x m : Str} {p pos apos : Pos} {e o : Expr} {es : List Expr} {ta : TE} {t : TA} {j k : Nat} {ps : List Str} {sp : Sp}
end
end L2
/-! ### try: any rows, except X as e: rows that return -/
namespace L2
open PySem PySem.Spec PyProof.Rows
section
variable {X : Cx} {pins pins' : List (Addr × Obj)} {σ : St} {H : Hp} {s : Shared} {xe : Value → Shared → Prop}
end
end L2
namespace Cal
def leap (y : Int) : Bool := decide (y % 4 = 0) && (!decide (y % 100 = 0) || decide (y % 400 = 0))
def lp (y : Int) : Int := if leap y = true then 1 else 0
def mlen (y m : Int) : Int := if m = 2 then 28 + lp y else 31 - (m - 1) % 7 % 2
def ny (y : Int) : Int := 365 * (y - 2000) + (y - 2000 + 3) / 4 - (y - 2000 + 99) / 100 + (y - 2000 + 399) / 400
def cum (y m : Int) : Int :=
  if m = 1 then 0 else if m = 2 then 31 else
  lp y + (if m = 3 then 59 else if m = 4 then 90 else if m = 5 then 120 else if m = 6 then 151 else if m = 7 then 181 else if m = 8 then 212
    else if m = 9 then 243 else if m = 10 then 273 else if m = 11 then 304 else 334)
def num (y m d : Int) : Int := ny y + cum y m + d - 1
structure IsDate (y m d : Int) : Prop where
  m1 : 1 ≤ m
  m2 : m ≤ 12
  d1 : 1 ≤ d
  d2 : d ≤ mlen y m

theorem lp_iff (y : Int) : (lp y = 1 ∧ y % 4 = 0 ∧ (y % 100 ≠ 0 ∨ y % 400 = 0)) ∨ (lp y = 0 ∧ (y % 4 ≠ 0 ∨ (y % 100 = 0 ∧ y % 400 ≠ 0))) := by
  unfold lp leap
  by_cases h1 : y % 4 = 0 <;> by_cases h2 : y % 100 = 0 <;> by_cases h3 : y % 400 = 0 <;> simp [h1, h2, h3]
theorem lp_01 (y : Int) : 0 ≤ lp y ∧ lp y ≤ 1 := by
  rcases lp_iff y with h | h <;> omega
theorem st4 (y : Int) : (y + 1 - 2000 + 3) / 4 = (y - 2000 + 3) / 4 + (if y % 4 = 0 then 1 else 0) := by split <;> omega
theorem st100 (y : Int) : (y + 1 - 2000 + 99) / 100 = (y - 2000 + 99) / 100 + (if y % 100 = 0 then 1 else 0) := by split <;> omega
theorem st400 (y : Int) : (y + 1 - 2000 + 399) / 400 = (y - 2000 + 399) / 400 + (if y % 400 = 0 then 1 else 0) := by split <;> omega
theorem ny_lin {y b d f p q r : Int} : 365 * (y + 1 - 2000) + (b + p) - (d + q) + (f + r) = 365 * (y - 2000) + b - d + f + 365 + (p - q + r) := by omega
theorem lp_eq (y : Int) : lp y = (if y % 4 = 0 then 1 else 0) - (if y % 100 = 0 then 1 else 0) + (if y % 400 = 0 then 1 else 0) := by
  have h1 : y % 100 = 0 → y % 4 = 0 := by omega
  have h2 : y % 400 = 0 → y % 100 = 0 := by omega
  unfold lp leap
  by_cases a : y % 4 = 0
  · by_cases b : y % 100 = 0
    · by_cases c : y % 400 = 0
      · rw [if_pos a, if_pos b, if_pos c, decide_eq_true a, decide_eq_true b, decide_eq_true c]; rfl
      · rw [if_pos a, if_pos b, if_neg c, decide_eq_true a, decide_eq_true b, decide_eq_false c]; rfl
    · rw [if_pos a, if_neg b, if_neg (fun c => b (h2 c)), decide_eq_true a, decide_eq_false b]; rfl
  · rw [if_neg a, if_neg (fun b => a (h1 b)), if_neg (fun c => a (h1 (h2 c))), decide_eq_false a]; rfl
theorem ny_succ (y : Int) : ny (y + 1) = ny y + 365 + lp y := by
  unfold ny
  rw [st4, st100, st400, lp_eq]
  exact ny_lin
def cumL (l m : Int) : Int :=
  if m = 1 then 0 else if m = 2 then 31 else
  l + (if m = 3 then 59 else if m = 4 then 90 else if m = 5 then 120 else if m = 6 then 151 else if m = 7 then 181 else if m = 8 then 212
    else if m = 9 then 243 else if m = 10 then 273 else if m = 11 then 304 else 334)
def mlenL (l m : Int) : Int := if m = 2 then 28 + l else 31 - (m - 1) % 7 % 2
theorem tabL : ∀ l : Bool, ∀ k : Fin 12, (28 ≤ mlenL l.toInt (k.val + 1) ∧ mlenL l.toInt (k.val + 1) ≤ 31) ∧
    (0 ≤ cumL l.toInt (k.val + 1) ∧ cumL l.toInt (k.val + 1) + mlenL l.toInt (k.val + 1) ≤ 365 + l.toInt) ∧
    (k.val < 11 → cumL l.toInt (k.val + 1 + 1) = cumL l.toInt (k.val + 1) + mlenL l.toInt (k.val + 1)) ∧ cumL l.toInt 12 + mlenL l.toInt 12 = 365 + l.toInt := by decide
theorem lpB (y : Int) : lp y = (leap y).toInt := by unfold lp; cases leap y <;> rfl
theorem monB {m : Int} (h1 : 1 ≤ m) (h2 : m ≤ 12) : ∃ k : Fin 12, m = k.val + 1 := ⟨⟨(m - 1).toNat, by omega⟩, by show m = ((m - 1).toNat : Int) + 1; omega⟩
theorem cumE (y m : Int) : cum y m = cumL (leap y).toInt m := by rw [← lpB]; rfl
theorem mlenE (y m : Int) : mlen y m = mlenL (leap y).toInt m := by rw [← lpB]; rfl
theorem cum_succ {y m : Int} (h1 : 1 ≤ m) (h2 : m ≤ 11) : cum y (m + 1) = cum y m + mlen y m := by
  obtain ⟨k, rfl⟩ := monB h1 (Int.le_trans h2 (by decide))
  rw [cumE, cumE, mlenE]
  exact (tabL (leap y) k).2.2.1 (by omega)
theorem mlen_in {y m : Int} (h1 : 1 ≤ m) (h2 : m ≤ 12) : 28 ≤ mlen y m ∧ mlen y m ≤ 31 := by
  obtain ⟨k, rfl⟩ := monB h1 h2
  rw [mlenE]
  exact (tabL (leap y) k).1
theorem cum_in {y m : Int} (h1 : 1 ≤ m) (h2 : m ≤ 12) : 0 ≤ cum y m ∧ cum y m + mlen y m ≤ 365 + lp y := by
  obtain ⟨k, rfl⟩ := monB h1 h2
  rw [cumE, mlenE, lpB]
  exact (tabL (leap y) k).2.1
theorem cum_12 (y : Int) : cum y 12 + mlen y 12 = 365 + lp y := by
  rw [cumE, mlenE, lpB]
  exact (tabL (leap y) 0).2.2.2
def ms (M : Int) : Int := ny (M / 12) + cum (M / 12) (M % 12 + 1)
def ml (M : Int) : Int := mlen (M / 12) (M % 12 + 1)
theorem ml_in (M : Int) : 28 ≤ ml M ∧ ml M ≤ 31 := mlen_in (by omega) (by omega)
theorem ms_succ (M : Int) : ms (M + 1) = ms M + ml M := by
  unfold ms ml
  by_cases h : M % 12 = 11
  · have e1 : (M + 1) / 12 = M / 12 + 1 := by omega
    have e2 : (M + 1) % 12 = 0 := by omega
    rw [e1, e2, h, ny_succ]
    have := cum_12 (M / 12)
    simp only [show (11 : Int) + 1 = 12 by rfl]
    have e3 : cum (M / 12 + 1) (0 + 1) = 0 := by simp [cum]
    omega
  · have e1 : (M + 1) / 12 = M / 12 := by omega
    have e2 : (M + 1) % 12 = M % 12 + 1 := by omega
    rw [e1, e2, cum_succ (by omega) (by omega)]
    omega
theorem ms_add (M : Int) : ∀ k : Nat, ms M + k ≤ ms (M + k)
  | 0 => by simp
  | k + 1 => by
    have h := ms_add M k
    have h2 := ms_succ (M + k)
    have h3 := ml_in (M + k)
    have e : M + ((k + 1 : Nat) : Int) = M + k + 1 := by omega
    rw [e, h2]; omega
theorem ms_mono {M N : Int} (h : M ≤ N) : ms M + (N - M) ≤ ms N := by
  have := ms_add M (N - M).toNat
  have e : M + ((N - M).toNat : Int) = N := by omega
  rw [e] at this; omega
theorem ms_lt {M N : Int} (h : M < N) : ms M + ml M ≤ ms N := by
  have := ms_mono (show M + 1 ≤ N by omega)
  rw [ms_succ] at this; omega
theorem num_ms {y m d : Int} (h1 : 1 ≤ m) (h2 : m ≤ 12) : num y m d = ms (12 * y + m - 1) + d - 1 := by
  unfold num ms
  rw [show (12 * y + m - 1) / 12 = y by omega, show (12 * y + m - 1) % 12 + 1 = m by omega]
theorem ml_y {y m : Int} (h1 : 1 ≤ m) (h2 : m ≤ 12) : ml (12 * y + m - 1) = mlen y m := by
  unfold ml
  rw [show (12 * y + m - 1) / 12 = y by omega, show (12 * y + m - 1) % 12 + 1 = m by omega]
/-- one date a day -/
theorem date_inj {y m d y' m' d' : Int} (h : IsDate y m d) (h' : IsDate y' m' d') (e : num y m d = num y' m' d') : y = y' ∧ m = m' ∧ d = d' := by
  obtain ⟨a, b, c, f⟩ := h
  obtain ⟨a', b', c', f'⟩ := h'
  rw [num_ms a b, num_ms a' b'] at e
  rw [← ml_y a b] at f
  rw [← ml_y a' b'] at f'
  have h1 : ¬ (12 * y + m - 1 < 12 * y' + m' - 1) := fun q => by have := ms_lt q; omega
  have h2 : ¬ (12 * y' + m' - 1 < 12 * y + m - 1) := fun q => by have := ms_lt q; omega
  have h3 : 12 * y + m - 1 = 12 * y' + m' - 1 := by omega
  rw [h3] at e
  omega
theorem ny_add (y : Int) : ∀ k : Nat, ny y + 365 * k ≤ ny (y + k)
  | 0 => by simp
  | k + 1 => by
    have h := ny_add y k
    have h2 := ny_succ (y + k)
    have h3 := lp_01 (y + k)
    have e : y + ((k + 1 : Nat) : Int) = y + k + 1 := by omega
    rw [e, h2]; omega
theorem ny_mono {y z : Int} (h : y ≤ z) : ny y + 365 * (z - y) ≤ ny z := by
  have := ny_add y (z - y).toNat
  have e : y + ((z - y).toNat : Int) = z := by omega
  rw [e] at this; omega
theorem ny_0 : ny 2000 = 0 := by decide
theorem year_of_nn {y m d : Int} (h : IsDate y m d) (h0 : 0 ≤ num y m d) : 2000 ≤ y := by
  have hc := @cum_in y m h.m1 h.m2
  have := h.d2
  have h1 := ny_succ y
  have h2 := ny_0
  by_cases q : 2000 ≤ y
  · exact q
  · have := ny_mono (show y + 1 ≤ 2000 by omega)
    unfold num at h0
    omega
theorem year_guess {d : Int} : ny (2000 + d * 400 / 146097 - 1) ≤ d := by
  unfold ny; omega
/-- months between: the end's month by its index, less one where the day is not reached -/
theorem between {y1 m1 d1 y2 m2 d2 k : Int} (h1 : IsDate y1 m1 d1) (h2 : IsDate y2 m2 d2) (le : num y1 m1 d1 ≤ num y2 m2 d2)
    (hk : k = if (if mlen y2 m2 < d1 then mlen y2 m2 else d1) > d2 then 12 * (y2 - y1) + m2 - m1 - 1 else 12 * (y2 - y1) + m2 - m1) :
    0 ≤ k ∧ ∀ (P P' L L' : Int), P = 12 * y1 + m1 - 1 + k → P' = P + 1 → (L = if ml P < d1 then ml P else d1) → (L' = if ml P' < d1 then ml P' else d1) →
      ms P + L - 1 ≤ num y2 m2 d2 ∧ num y2 m2 d2 < ms P' + L' - 1 := by
  obtain ⟨a1, b1, c1, e1⟩ := h1
  obtain ⟨a2, b2, c2, e2⟩ := h2
  rw [num_ms a1 b1, num_ms a2 b2] at le
  rw [num_ms a2 b2]
  rw [← ml_y a1 b1] at e1
  rw [← ml_y a2 b2] at e2 hk
  generalize hM1 : 12 * y1 + m1 - 1 = M1 at *
  generalize hM2 : 12 * y2 + m2 - 1 = M2 at *
  have hk' : k = if (if ml M2 < d1 then ml M2 else d1) > d2 then M2 - M1 - 1 else M2 - M1 := by
    rw [hk]; split <;> omega
  have hle : M1 ≤ M2 := by
    by_cases q : M1 ≤ M2
    · exact q
    · have := ms_lt (show M2 < M1 by omega); omega
  have g : M1 < M2 ∨ M1 = M2 := by omega
  have b2' := ml_in M2
  constructor
  · rcases g with g | g
    · rw [hk']; split <;> omega
    · subst g
      rw [hk', if_neg]
      · omega
      · split <;> omega
  · intro P P' L L' hP hP' hL hL'
    have bP := ml_in P
    have bP' := ml_in P'
    have hL1 : 1 ≤ L ∧ L ≤ ml P := by rw [hL]; split <;> omega
    have hL1' : 1 ≤ L' ∧ L' ≤ ml P' := by rw [hL']; split <;> omega
    by_cases q : (if ml M2 < d1 then ml M2 else d1) > d2
    · rw [if_pos q] at hk'
      have eP : P = M2 - 1 := by omega
      have eP' : P' = M2 := by omega
      have := ms_lt (show P < M2 by omega)
      rw [eP'] at hL' ⊢
      constructor
      · omega
      · rw [hL']; omega
    · rw [if_neg q] at hk'
      have eP : P = M2 := by omega
      have eP' : P' = M2 + 1 := by omega
      have := ms_lt (show M2 < P' by omega)
      rw [eP] at hL ⊢
      constructor
      · rw [hL]; omega
      · omega
end Cal
/-! What stands up to a day by months of 30 days, and exact. No Python here. -/
namespace Cnt
open Cal
def each (y : Int) : Int := if leap y = true then 365 else 366
end Cnt
namespace Cnt
open Cal
end Cnt
namespace Cnt
open Cal
end Cnt
namespace Cnt
open Cal
end Cnt
namespace Cnt
open Cal
end Cnt
/-! ### raise C(..) from None within a handler: what was caught had nothing handled when it was raised -/
namespace L2
open PySem PySem.Spec PyProof.Rows
def Ctx0 (h : Heap) (e : Addr) : Prop := ∃ o fs, h.get? e = some o ∧ o.data = .fields fs ∧ fs[2]? = some .none
/-- e as it was, but its first field -/
def Map1 (h : Heap) (e : Addr) (o : Obj) : Prop := ∃ T : Addr, h.get? e = some (Obj.mapFields (·.setIfInBounds 1 (Value.ref T)) o)
theorem Map1.ctx {h : Heap} {e : Addr} {o : Obj} {fs : Array Value} (m : Map1 h e o) (od : o.data = .fields fs) (c : fs[2]? = some .none) : Ctx0 h e := by
  obtain ⟨T, g⟩ := m
  exact ⟨_, _, g, Obj.data_mapFields od _, by rw [Array.getElem?_setIfInBounds_ne (by decide)]; exact c⟩
section
variable {M : Model} {A : Around} {E : Value → Shared → Prop} {s : Shared} {B : Heap} {v : Env} {out : List Env} {L e : Addr} {Q : Unit → Shared → Prop}
theorem noteC_new {oe : Obj} {fs : Array Value} {top x0 : Value} {more : Bool} (fr : A.frames = some (v :: out)) (ff : s.heap.FunFrames B (v :: out)) (vf : v.frame = some L) (ge : s.heap.get? e = some oe) (st : B.StaysIn s.heap) (be : B.get? e = none)
    (od : oe.data = .fields fs) (o1 : 1 < fs.size) (o0 : fs[0]? = some x0) (k : ∀ h', Heap.NotedW B (v :: out) e oe.cls x0 (rawInt L) s.heap h' → Map1 h' e oe → Q () { s with heap := h' }) :
    wpAny M A (do let a ← frameOf v; let pl ← entryPlaceOf L more; let b ← EntryCells.newEntry top a .none (rawInt L) .none pl; setField (.ref e) 1 b) Q E s := by
  have none_of : ∀ b o, s.heap.get? b = some o → (∀ w, o.data ≠ .fields w) → b ≠ e := fun b o hb nf z => by
    rw [z] at hb
    cases hb.symm.trans ge
    exact nf fs od
  have notin : e ∉ (v :: out).filterMap (·.frame) := fun hm => by
    obtain ⟨_, o, ho, nf⟩ := ff.mem hm
    exact none_of e o ho nf rfl
  refine wpAny_bind (wpAny_frameOf_fun fr ff vf fun g hg => wpAny_bind (wpAny_entryPlaceOf fun pl hp => ?_))
  unfold EntryCells.newEntry newFields
  refine wpAny_bind (wpAny_newObj_type ?_ (hp.sizeOk5 _ _ _ _ _))
  obtain ⟨tb, htb⟩ : ∃ tb : Obj, tb = { cls := .type "traceback", dict := none, data := .fields ([top, .ref L, .none, rawInt L, .none] ++ (if pl.isEmpty then List.replicate 6 Value.none else pl)).toArray } := ⟨_, rfl⟩
  have g1 : g.get? e = some oe := (hg.2.1 e notin).trans ge
  have stg : B.StaysIn g := fun b o hb => (hg.2.1 b fun hm => by cases (ff.mem hm).1.symm.trans hb).trans (st b o hb)
  have g2 := Heap.get?_push_of_some (h := g) tb g1
  rw [← htb]
  have od' := Obj.data_mapFields od (·.setIfInBounds 1 (Value.ref g.objs.size))
  have g3 := Heap.get?_update_self (Obj.mapFields (·.setIfInBounds 1 (Value.ref g.objs.size))) g2 (Obj.isFreed_of_fields od')
  refine wpAny_setField g2 od o1 (k _ ?_ ⟨_, g3⟩)
  have apart : g.objs.size ≠ e := Nat.ne_of_gt (Heap.lt_size g1)
  have stay : ∀ b o, b ≠ e → g.get? b = some o → ((g.push tb).update e (Obj.mapFields (·.setIfInBounds 1 (Value.ref g.objs.size)))).get? b = some o := fun b o ne hb =>
    (Heap.get?_update_other _ _ ne.symm).trans (Heap.get?_push_of_some _ hb)
  have tbAt := (Heap.get?_update_other (g.push tb) (Obj.mapFields (·.setIfInBounds 1 (Value.ref g.objs.size))) apart.symm).trans (Heap.get?_push_size g (by rw [htb]; rfl))
  refine ⟨fun b o hb => stay b o (fun z => by rw [z, be] at hb; cases hb) (stg b o hb), ff.of_keeps fun b o hb nf => ?_, ?_, fun b o hb nf => ?_⟩
  · obtain ⟨sl, hs⟩ := hg.2.2 b o hb
    exact ⟨_, stay b _ (none_of b o hb nf) hs, rfl⟩
  · refine ⟨_, _, g.objs.size, tb, _, g3, ⟨Obj.cls_mapFields _ _, ?_⟩, od', by simp [o1], stg.fresh, apart, tbAt, by rw [htb], ?_⟩
    · rw [Array.getElem?_setIfInBounds_ne (by decide)]
      exact o0
    · first | (simp; done) | (rcases hp with rfl | ⟨_, _, _, _, _, _, _, rfl⟩ <;> simp)
  · obtain ⟨sl, hs⟩ := hg.2.2 b o hb
    exact ⟨sl, stay b _ (none_of b o hb nf) hs⟩
/-- the mark of where it flies is put out, or put in -/
theorem flightC {c x0 fl : Value} {l : List Env} {to : Option Addr} (st : B.StaysIn s.heap) (ff : s.heap.FunFrames B l) (tr : s.heap.TracedAtW B e c x0 fl)
    (k : ∀ h', B.StaysIn h' → h'.FunFrames B l → h'.TracedAtW B e c x0 (to.elim .none fun f => rawInt f) → h'.get? e = s.heap.get? e → s.heap.UpToSlots h' → Q () { s with heap := h' }) : wpAny M A (setFlight (.ref e) to) Q E s := by
  obtain ⟨oe, fs, T, oT, ts, ge, cx, od, o1, bT, Te, gT, dT, t3⟩ := tr
  have z3 : 3 < ts.size := (Array.getElem?_eq_some_iff.mp t3).1
  have rest : ∀ b, b ≠ T → (s.heap.update T (Obj.mapFields (·.setIfInBounds 3 (to.elim Value.none fun f => rawInt f)))).get? b = s.heap.get? b := fun b ne => Heap.get?_update_other _ _ ne.symm
  have none_of : ∀ b o, s.heap.get? b = some o → (∀ w, o.data ≠ .fields w) → b ≠ T := fun b o hb nf z => by
    rw [z] at hb
    cases hb.symm.trans gT
    exact nf ts dT
  unfold setFlight
  refine wpAny_bind (wpAny_field ge od o1 ?_)
  rw [if_pos (show (Value.ref T != Value.none) = true from by simp)]
  refine wpAny_setField gT dT z3 (k _ (fun b o hb => (rest b fun z => by rw [z, bT] at hb; cases hb).trans (st b o hb)) (ff.of_keeps fun b o hb nf => ⟨o, (rest b (none_of b o hb nf)).trans hb, rfl⟩) ?_ (rest e Te.symm) fun b o hb nf => ⟨o.slots, (rest b (none_of b o hb nf)).trans hb⟩)
  exact ⟨oe, fs, T, _, _, (rest e Te.symm).trans ge, cx, od, o1, bT, Te, Heap.get?_update_self _ gT (Obj.isFreed_of_fields (Obj.data_mapFields dT _)), Obj.data_mapFields dT _, by simp [z3]⟩
theorem noteC_first {oe : Obj} {fs : Array Value} {x0 : Value} (fr : A.frames = some (v :: out)) (ff : s.heap.FunFrames B (v :: out)) (vf : v.frame = some L) (ge : s.heap.get? e = some oe) (st : B.StaysIn s.heap) (be : B.get? e = none)
    (od : oe.data = .fields fs) (o1 : fs[1]? = some .none) (o0 : fs[0]? = some x0) (k : ∀ h', Heap.HeldW B (v :: out) e oe.cls x0 L h' → Map1 h' e oe → s.heap.UpToSlots h' → Q () { s with heap := h' }) : wpAny M A (noteFrame (.ref e) v) Q E s := by
  unfold noteFrame
  simp only [vf]
  refine wpAny_bind (wpAny_field ge od o1 ?_)
  rw [if_neg (by decide)]
  refine noteC_new fr ff vf ge st be od (Array.getElem?_eq_some_iff.mp o1).1 o0 fun h' n m => ?_
  obtain ⟨n1, n2, n3, n4⟩ := n
  exact k h' ⟨n1, be, n2, n3⟩ m n4
theorem leaveC_first {oe : Obj} {fs : Array Value} {x0 : Value} (fr : A.frames = some (v :: out)) (ff : s.heap.FunFrames B (v :: out)) (vf : v.frame = some L) (ge : s.heap.get? e = some oe) (st : B.StaysIn s.heap) (be : B.get? e = none)
    (od : oe.data = .fields fs) (o1 : fs[1]? = some .none) (o0 : fs[0]? = some x0) (k : ∀ h', Heap.FlyingW B out e oe.cls x0 h' → Map1 h' e oe → s.heap.UpToSlots h' → Q () { s with heap := h' }) : wpAny M A (leaving v (.ref e)) Q E s := by
  unfold leaving
  refine wpAny_bind (noteC_first fr ff vf ge st be od o1 o0 fun h' n m u => ?_)
  refine flightC n.1 n.2.2.1 n.2.2.2 fun h'' m1 m2 m3 m4 m5 => ?_
  obtain ⟨_, _, m2⟩ := m2
  obtain ⟨T, m⟩ := m
  exact k h'' ⟨m1, be, m2, m3⟩ ⟨T, m4.trans m⟩ (u.trans m5)
theorem noteC_on {c x0 : Value} {oe : Obj} (fr : A.frames = some (v :: out)) (vf : v.frame = some L) (fl : Heap.FlyingW B (v :: out) e c x0 s.heap) (he : s.heap.get? e = some oe)
    (k : ∀ h', Heap.HeldW B (v :: out) e c x0 L h' → Map1 h' e oe → s.heap.UpToSlots h' → Q () { s with heap := h' }) : wpAny M A (noteFrame (.ref e) v) Q E s := by
  obtain ⟨st, be, ff, oe', fs, T, oT, ts, ge, ⟨cx, o0⟩, od, o1, bT, Te, gT, dT, t3⟩ := fl
  cases he.symm.trans ge
  subst cx
  have rest : ∀ b, b ≠ T → (s.heap.update T (Obj.mapFields (·.setIfInBounds 3 Value.none))).get? b = s.heap.get? b := fun b ne => Heap.get?_update_other _ _ ne.symm
  have none_of : ∀ b o, s.heap.get? b = some o → (∀ w, o.data ≠ .fields w) → b ≠ T := fun b o hb nf z => by
    rw [z] at hb
    cases hb.symm.trans gT
    exact nf ts dT
  unfold noteFrame
  simp only [vf]
  refine wpAny_bind (wpAny_field ge od o1 ?_)
  rw [if_pos (show (Value.ref T != Value.none) = true from by simp)]
  refine wpAny_bind (wpAny_field gT dT t3 ?_)
  rw [if_neg (show ¬ ((Value.none == rawInt L) = true) from by simp [rawInt])]
  refine wpAny_bind (wpAny_setField gT dT (Array.getElem?_eq_some_iff.mp t3).1 ?_)
  refine noteC_new (oe := oe) (fs := fs) (x0 := x0) fr (ff.of_keeps fun b o hb nf => ⟨o, (rest b (none_of b o hb nf)).trans hb, rfl⟩) vf ((rest e Te.symm).trans ge) (fun b o hb => (rest b fun z => by rw [z, bT] at hb; cases hb).trans (st b o hb)) be od (Array.getElem?_eq_some_iff.mp o1).1 o0 fun h' n m => ?_
  obtain ⟨n1, n2, n3, n4⟩ := n
  exact k h' ⟨n1, be, n2, n3⟩ m fun b o hb nf => n4 b o ((rest b (none_of b o hb nf)).trans hb) nf
end
/-- as CXX, and nothing was handled -/
def CXC (P : Program) (w : World) : CXT := fun outer H s E ev s' => CXX P w outer H s E ev s' ∧ ∀ e, ev = .ref e → Ctx0 s'.heap e
section
variable {P : Program} {w : World} {K : PySem.W.Frag} {mg : Str → Option Value} {base : Heap} {N : List Str} {qual : Str} {scope : Scope} {f : Addr} {cd : Value} {A : Around} {outer : List Env} {s₀ : Shared} {H₀ : Hp} {E : XK}
theorem xe_madeC {pins : List (Addr × Obj)} {σ : St} {H : Hp} {s : Shared} {h' : Heap} {e : Addr} {C : Value} {vs : List Value} (I : Inv (cxOf (CXC P w) P w K mg base N qual scope f cd A outer s₀ H₀ E) pins σ H s)
    (hx : Heap.MadeExcOf s.heap h' e C vs) (hE : E C none H) : (cxOf (CXC P w) P w K mg base N qual scope f cd A outer s₀ H₀ E).xe (.ref e) { s with heap := h' } := by
  obtain ⟨t, ht, htn, htt⟩ := hx.there
  have fresh : ∀ b, s.heap.get? b = none → (PySem.W.hideAll s.heap (frs (cxOf (CXC P w) P w K mg base N qual scope f cd A outer s₀ H₀ E).stack)).get? b = none := fun b z => by
    cases q : (PySem.W.hideAll s.heap (frs (cxOf (CXC P w) P w K mg base N qual scope f cd A outer s₀ H₀ E).stack)).get? b with
    | none => rfl
    | some o => rw [PySem.W.of_hideAll _ q] at z; cases z
  refine leaveC_first (B := PySem.W.hideAll s.heap (frs (cxOf (CXC P w) P w K mg base N qual scope f cd A outer s₀ H₀ E).stack)) (out := outer) (L := s₀.heap.objs.size) (x0 := .ref t) I.ok.frames
    ((PySem.W.funFrames_hide I.stack fun env he a ha => List.mem_filterMap.mpr ⟨env, he, ha⟩).of_keeps fun b o hb _ => ⟨o, hx.keeps b o hb, rfl⟩) rfl ht (fun b o q => hx.keeps b o (PySem.W.of_hideAll _ q)) (fresh e hx.new) rfl rfl rfl fun h'' x1 x2 x4 => ?_
  have F : Flew (cxOf (CXC P w) P w K mg base N qual scope f cd A outer s₀ H₀ E) [] s.heap h'' := ⟨fun b o q n _ => x1.1 b o (PySem.W.hideAll_get _ q n), (Heap.UpToSlots.of_keeps hx.keeps).trans x4⟩
  refine ⟨⟨e, C, H, rfl, hE, I.os, I.bare, I.unFlew F (fun b z => absurd z (by simp)), I.hokFlew F (fun b z => absurd z (by simp)), exc_of I F (fun b o q n _ => PySem.W.hideAll_get _ q n) x1 (fun b z => absurd z (by simp)) ⟨?_, I.hok.gone hx.new⟩ fun b z => absurd (show b ∈ ([] : List Addr) from z) (by simp)⟩, fun e' z => ?_⟩
  · cases q : s₀.heap.get? e with
    | none => exact q
    | some o =>
      obtain ⟨o', e1⟩ := I.base.there e o q fun z => absurd (show e ∈ ([] : List Addr) from z) (by simp)
      rw [hx.new] at e1; cases e1
  · cases z
    exact x2.ctx rfl rfl
/-- an exception that was raised within a handler leaves the def -/
theorem xe_held {pins : List (Addr × Obj)} {σ : St} {H : Hp} {s : Shared} {h' : Heap} {e : Addr} {C x0 : Value} (I : Inv (cxOf (CXX P w) P w K mg base N qual scope f cd A outer s₀ H₀ E) pins σ H s) (new : s.heap.get? e = none)
    (hd : Heap.HeldW (PySem.W.hideAll s.heap (frs (cxOf (CXX P w) P w K mg base N qual scope f cd A outer s₀ H₀ E).stack)) (cxOf (CXX P w) P w K mg base N qual scope f cd A outer s₀ H₀ E).stack e C x0 (cxOf (CXX P w) P w K mg base N qual scope f cd A outer s₀ H₀ E).env.locals h') (up : s.heap.UpToSlots h')
    (hE : E C none H) : (cxOf (CXX P w) P w K mg base N qual scope f cd A outer s₀ H₀ E).xe (.ref e) { s with heap := h' } := by
  obtain ⟨n1, n2, n3, n4⟩ := hd
  show wpAny _ _ (leaving _ _) _ _ _
  unfold leaving
  refine wpAny_bind (wpAny_noteFrame_againW (s := { s with heap := h' }) rfl n4 ?_)
  refine flightC (s := { s with heap := h' }) n1 n3 n4 fun h'' m1 m2 m3 m4 m5 => ?_
  obtain ⟨_, _, m2⟩ := m2
  have F : Flew (cxOf (CXX P w) P w K mg base N qual scope f cd A outer s₀ H₀ E) [] s.heap h'' := ⟨fun b o q n _ => m1 b o (PySem.W.hideAll_get _ q n), up.trans m5⟩
  refine ⟨e, C, H, rfl, hE, I.os, I.bare, I.unFlew F (fun b z => absurd z (by simp)), I.hokFlew F (fun b z => absurd z (by simp)), exc_of I F (fun b o q n _ => PySem.W.hideAll_get _ q n) ⟨m1, n2, m2, m3⟩ (fun b z => absurd z (by simp)) ⟨?_, I.hok.gone new⟩ fun b z => absurd (show b ∈ ([] : List Addr) from z) (by simp)⟩
  cases q : s₀.heap.get? e with
  | none => exact q
  | some o =>
    obtain ⟨o', e1⟩ := I.base.there e o q fun z => absurd (show e ∈ ([] : List Addr) from z) (by simp)
    rw [new] at e1; cases e1
end
/-! ### a def that may raise, nothing being handled -/
structure DefC (P : Program) (w : World) (K : PySem.W.Frag) (mg : Str → Option Value) (base : Heap) (k : Nat) (x : Str) (ps : List Str) (sp : Sp) : Prop where
  ex : ∃ (f : Addr) (fd : FuncData), FnOk P w K mg base (CXC P w) k f fd ps sp ∧ mg x = some (.ref f) ∧ PySem.W.keepIn K (.ref f) = true ∧ (∀ us : List Value, us.length = ps.length → bindArgs fd ⟨us, []⟩ = pure (ps.zip us))
theorem FnOk.forgetC {P : Program} {w : World} {K : PySem.W.Frag} {mg : Str → Option Value} {base : Heap} {k : Nat} {f : Addr} {fd : FuncData} {ps : List Str} {sp sp' : Sp} (F : FnOk P w K mg base (CXC P w) k f fd ps sp)
    (h : ∀ vs H Q E, sp' vs H Q E → sp vs H (fun v H' => Same H H' ∧ Q v H) (fun C d H' => Same H H' ∧ E C d H)) : FnOk P w K mg base (CXC P w) k f fd ps sp' where
  len := fun vs H Q E q => F.len _ _ _ _ (h _ _ _ _ q)
  run := fun A outer s H args us vs Q E hr e0 hb hv hs => by
    refine codeAny_mono (F.run A outer s H args us vs _ _ hr e0 hb hv (h _ _ _ _ hs)) fun r s' q => ?_
    cases r with
    | error e =>
      obtain ⟨⟨e, C, H', rfl, ⟨sm, hE⟩, os, bare, un, hok, new, free, oe, vs, T, oT, ts, a0, h1, h2, h3, h4, h5, h6, h7, h8, h9⟩, cx⟩ := q
      have back : ∀ b, H' b = none → H b = none := fun b z => by
        cases q : H b with
        | none => rfl
        | some o => rw [sm b o q] at z; cases z
      exact ⟨⟨e, C, H, rfl, hE, os, bare, un.forget, e0.hok.forget hok sm, new, back _ free, oe, vs, T, oT, ts, a0, h1, h2, h3, h4, ⟨h5.1, back _ h5.2⟩, h6, h7, h8, h9⟩, cx⟩
    | ok fl =>
      cases fl with
      | ret u =>
        obtain ⟨v, H', os, bare, un, hok, rv, sm, qv⟩ := q
        exact ⟨v, H, os, bare, un.forget, e0.hok.forget hok sm, rv, qv⟩
      | next => exact q
      | brk => exact q
      | cont => exact q
theorem Src.okXFc {P : Program} {w : World} {K : PySem.W.Frag} {mg : Str → Option Value} {base : Heap} {x : Str} {st : Stmt} {N ps : List Str} {k : Nat} {sp : Sp} (S : Src K mg x st ps) (sc : FnScope N ps (defScope st)) (len : ∀ vs H Q E, sp vs H Q E → vs.length = ps.length)
    (hbody : ∀ (f : Addr) (cdv : Value) (A : Around) (outer : List Env) (s : Shared) (H : Hp) (vs : List V) (Q : VK) (E : XK), Room k (A.deeper (envOfC x (defScope st) s.heap.objs.size f cdv)) → sp vs H Q E →
      ∃ t, PSs (cxOf (CXC P w) P w K mg base N x (defScope st) f cdv A outer s H (fun C d H' => Same H H' ∧ E C d H)) (defBody st) t ∧ t { nx := fun _ H' => Same H H' ∧ Q .non H, rt := fun v H' => Same H H' ∧ Q v H } (start N vs) H) : DefC P w K mg base (k + 1) x ps sp := by
  obtain ⟨f, fd, F, hm, hb⟩ := S.ex
  have kp := F.kp
  obtain ⟨oc, od, kV, doc, pm, an, cdv, ct, osl, rfl, lk, hcd⟩ := F.ex
  have G : FnOk P w K mg base (CXC P w) (k + 1) f _ ps (fun vs H R E' => ∃ Q E, sp vs H Q E ∧ R = (fun v H' => Same H H' ∧ Q v H) ∧ E' = fun C d H' => Same H H' ∧ E C d H) :=
    fn_of lk hcd sc (fun vs H R E' ⟨Q, E, h, _⟩ => len vs H Q E h) fun A outer s H vs R E' hr ⟨Q, E, h, e1, e2⟩ => by
      subst e1 e2
      exact hbody f cdv A outer s H vs Q E hr h
  exact ⟨f, _, G.forgetC fun vs H Q E h => ⟨Q, E, h, rfl, rfl⟩, hm, kp, hb⟩
/-! ### raise C(..) from None -/
theorem en_unchain : entryFor table "proto.unchain" = some Builtin.«proto.unchain» := entryFor_of_tree (by kernel_rfl)
section
variable {prog : Program} {w : World} {A : Around} {E : Value → Shared → Prop} {env : Env} {nm q : Str} {C N : Addr} {bs bm : List Value} {hdct : Bool} {sn : List Str} {sub : List Value} {ab : Bool} {col : Option Bool} {dd : Option Addr} {k0 k1 k2 k3 k5 : Option Value} {newId : String}
theorem raise_on {s : Shared} {e e1 : Addr} {t : Value} {c : Value} {α : Type} {Q : α → Shared → Prop} (hh : A.handled = some (.ref e1)) (ne : e ≠ e1) (cx : Ctx0 s.heap e1)
    (he : s.heap.get? e = some { cls := c, data := .fields #[t, .none, .none, .none, .bool true, .none] })
    (h : ∀ h', (∀ b, b ≠ e → h'.get? b = s.heap.get? b) → h'.get? e = some { cls := c, data := .fields #[t, .none, .ref e1, .none, .bool true, .none] } → E (.ref e) { s with heap := h' }) :
    wpAny (model prog w) A (raiseNew (.ref e) : Sem α) Q E s := by
  obtain ⟨o, fs, g1, g2, g3⟩ := cx
  unfold raiseNew
  refine wpAny_bind (wpAny_handled ?_)
  rw [hh]
  dsimp only
  rw [if_pos (by simp; exact fun z => ne z.symm)]
  refine wpAny_bind (wpAny_holding (wpAny_runValue (codeAny_builtin en_unchain ?_)))
  unfold Builtin.«proto.unchain»
  refine wpAny_bind (wpAny_field g1 g2 g3 ?_)
  repeat wp_step
  exact h _ (fun b z => Heap.get?_update_other _ _ z.symm) (Heap.get?_update_self _ he rfl)
theorem raise_from {s : Shared} {x : Sem Value} {e1 : Addr} {j : Nat} {cp p2 : Pos} {Q : Flow → Shared → Prop} (hb : bm.contains (.type "BaseException") = true) (hh : A.handled = some (.ref e1))
    (h : wpAny (model prog w) A x (fun v s1 => ∃ e t, v = .ref e ∧ s1.heap.get? C = some (excClassObj nm q C N bs bm hdct sn sub ab col dd k0 k1 k2 k3 k5 newId) ∧ s1.heap.get? e = some { cls := .ref C, data := .fields #[t, .none, .none, .none, .bool false, .none] } ∧ e ≠ e1 ∧ Ctx0 s1.heap e1 ∧
      ∀ h', (∀ b, b ≠ e → h'.get? b = s1.heap.get? b) → h'.get? e = some { cls := .ref C, data := .fields #[t, .none, .ref e1, .none, .bool true, .none] } → E (.ref e) { s1 with heap := h' }) E s) :
    wpAny (model prog w) A (raiseStmt env (some x) (some (do let v ← eval (.Constant .none j cp) env; standAt p2; pure v))) Q E s := by
  have own : (Value.ref C :: bm).contains (.type "BaseException") = true := by rw [List.contains_cons, hb, Bool.or_true]
  unfold raiseStmt
  refine wpAny_bind (wpAny_mono h (fun v s1 h1 => ?_) fun _ _ x => x)
  obtain ⟨e, t, rfl, gC, ge, ne, cx, hE⟩ := h1
  dsimp only
  refine wpAny_bind (wpAny_holding (wpAny_bind (Constant_none (wpAny_bind (wpAny_standAt (wpAny_pure (wpAny_bind (wpAny_pure ?_))))))))
  obtain ⟨hp, g, d, tk, os⟩ := s1
  refine wpAny_bind (wpAny_holding ?_)
  unfold excFromValue
  repeat (first | with_reducible refine wpAny_loadPart_at ge ?_ | with_reducible refine wpAny_loadPart_at gC ?_ | (with_reducible refine wpAny_isSubtype_exc gC ?_; rw [own]) | wp_step)
  have neC : e ≠ C := fun z => by
    subst z
    have y := gC.symm.trans ge
    unfold excClassObj at y
    cases y
  have gC2 : ((hp.update e (Obj.mapFields fun x => x.setIfInBounds 3 Value.none)).update e (Obj.mapFields fun x => x.setIfInBounds 4 (Value.bool true))).get? C = some (excClassObj nm q C N bs bm hdct sn sub ab col dd k0 k1 k2 k3 k5 newId) := (Heap.get?_update_other _ _ neC).trans ((Heap.get?_update_other _ _ neC).trans gC)
  have ge2 : ((hp.update e (Obj.mapFields fun x => x.setIfInBounds 3 Value.none)).update e (Obj.mapFields fun x => x.setIfInBounds 4 (Value.bool true))).get? e = some { cls := .ref C, data := .fields #[t, .none, .none, .none, .bool true, .none] } := Heap.get?_update_self _ (Heap.get?_update_self _ ge rfl) rfl
  have cx2 : Ctx0 ((hp.update e (Obj.mapFields fun x => x.setIfInBounds 3 Value.none)).update e (Obj.mapFields fun x => x.setIfInBounds 4 (Value.bool true))) e1 := by
    obtain ⟨o, fs, a1, a2, a3⟩ := cx
    exact ⟨o, fs, (Heap.get?_update_other _ _ ne).trans ((Heap.get?_update_other _ _ ne).trans a1), a2, a3⟩
  have ot : ∀ b, b ≠ e → ((hp.update e (Obj.mapFields fun x => x.setIfInBounds 3 Value.none)).update e (Obj.mapFields fun x => x.setIfInBounds 4 (Value.bool true))).get? b = hp.get? b := fun b z => (Heap.get?_update_other _ _ z.symm).trans (Heap.get?_update_other _ _ z.symm)
  refine wpAny_loadPart_at gC2 ?_
  refine wpAny_pure ?_
  rw [if_pos (by rfl)]
  refine wpAny_pure ?_
  unfold setFlight
  refine wpAny_bind (wpAny_bind (wpAny_field ge2 rfl (x := .none) rfl ?_))
  rw [if_neg (by decide)]
  refine wpAny_pure ?_
  exact raise_on hh ne cx2 ge2 fun h' z1 z2 => hE h' (fun b z => (z1 b z).trans (ot b z)) z2
end
theorem Inv.pinAt {X : Cx} {pins : List (Addr × Obj)} {σ : St} {H : Hp} {s : Shared} {e : Addr} {o : Obj} (I : Inv X pins σ H s) (h : s.heap.get? e = some o ∧ H e = none ∧ e ≠ X.env.locals ∧ e ∉ X.fs ∧ ∀ v, o.data ≠ .cell v) : Inv X ((e, o) :: pins) σ H s :=
  ⟨I.ok, I.os, I.bare, I.base, I.loc, I.cell, I.free, I.freeC, fun p hp => by
    rcases List.mem_append.mp hp with z | z
    · exact I.pin p (List.mem_append_left _ z)
    · rcases List.mem_cons.mp z with z | z
      · subst z; exact h
      · exact I.pin p (List.mem_append_right _ z), I.hok, I.len⟩
def tTryR (K : PySem.W.Frag) (Cx Cy : Addr) (ta : TA) (sp : Sp) (E : XK) (th : TA) : TS := fun D σ H => ta σ H fun vs H1 => sp vs H1 (fun v H2 => D.rt v H2) fun C _ H2 =>
  ∃ c, C = .ref c ∧ PySem.W.exmOne K (.ref c) (.ref Cx) = some true ∧ th σ H2 fun us H3 => us.length ≤ sizeLine ∧ E (.ref Cy) none H3
/-- try: return f(..) except X: raise Y(..) from None -/
theorem ps_tryR {X : Cx} {fn x y : Str} {lv k j : Nat} {ps : List Str} {sp : Sp} {e0 c0 : Expr} {es cs : List Expr} {ta th : TA} {pf pc pst np hpos pos np2 cpos rpos cp : Pos} {E : XK}
    (Df : DefC X.prog X.w X.K X.mg X.base lv fn ps sp) (hr : Room k X.A) (hcx : X.mg x = some (.ref (cA X.K x))) (hcy : X.mg y = some (.ref (cA X.K y))) (xk : XK2 X.K (cA X.K y)) (ha : PA X.nox (e0 :: es) ta) (hs : ∀ e, PA (X.held e) (c0 :: cs) th)
    (hE : ∀ pins σ H s h' e x0, Inv X pins σ H s → s.heap.get? e = none → Heap.HeldW (PySem.W.hideAll s.heap (frs X.stack)) X.stack e (.ref (cA X.K y)) x0 X.env.locals h' → s.heap.UpToSlots h' → E (.ref (cA X.K y)) none H → X.xe (.ref e) { s with heap := h' })
    (hlv : lv ≤ k := by decide) (hg : Gl X fn := by rfl) (hgx : Gl X x := by rfl) (hgy : Gl X y := by rfl) (hst : X.stack = X.env :: X.outer := by rfl) (hfr : X.env.frame = some X.env.locals := by rfl) (hex : X.ex = [] := by rfl) (hdb : (fn == ("__debug__" : Str)) = false := by decide) (hdx : (x == ("__debug__" : Str)) = false := by decide) (hdy : (y == ("__debug__" : Str)) = false := by decide)
    (he : starEach (e0 :: es) X.env = (false, eval e0 X.env) :: starEach es X.env := by rfl) (hpl : (backTo pc (starEach es X.env)).any (·.1) = false := by rfl)
    (hey : starEach (c0 :: cs) X.env = (false, eval c0 X.env) :: starEach cs X.env := by rfl) (hply : (backTo cpos (starEach cs X.env)).any (·.1) = false := by rfl) :
    PS X (.Try [.Return (some (.Call (.Name fn pf) (e0 :: es) [] pc)) pst] [.ExceptHandler (some (.Name x np)) none [.Raise (some (.Call (.Name y np2) (c0 :: cs) [] cpos)) (some (.Constant .none j cp)) rpos] hpos] [] [] pos) (tTryR X.K (cA X.K x) (cA X.K y) ta sp E th) := by
  intro pins s σ H D I h
  obtain ⟨f, fd, F, hm, hk, hb⟩ := Df.ex
  refine wpAny_Try_except (wpAny_execs_cons (wpAny_Return_some (wpAny_Call_Name_kw (ld_glob I hg hm (PySem.W.callWith_K (h₀ := X.base) I.ok.mod.kin hk ?_ he hpl) hdb))))
  refine wpAny_mono (ha pc pins s σ H _ (I.wish _) h) (fun us s1 hq1 => ?_) fun _ _ z => False.elim z
  obtain ⟨vs, H1, J1, r, q⟩ := hq1
  have I1 := J1.unwish
  refine ⟨I1.kIn, ?_⟩
  have hl : us.length = ps.length := by rw [← r.length]; exact F.len _ _ _ _ q
  have bd := (Binds.all (K := X.K) hb) s1 us I1.kIn (by rw [List.append_nil]; exact hl)
  rw [List.append_nil] at bd
  refine wpAny_call (codeAny_mono (F.run X.A X.stack s1 H1 ⟨us, []⟩ us vs _ _ (hr.mono hlv) I1.env0 bd r q) fun rs s2 hq => ?_)
  cases rs with
  | ok fl =>
    cases fl with
    | ret u =>
      obtain ⟨v, H2, I2, rv, q2⟩ := I1.after hq
      exact ⟨v, σ, H2, I2, rv, q2⟩
    | next => exact False.elim hq
    | brk => exact False.elim hq
    | cont => exact False.elim hq
  | error ev =>
    obtain ⟨⟨e, C, H2, rfl, hE', os, bare, un, hok, new, free, oe, vs', T, oT, ts, a0, h1, h2, h3, h4, h5, h6, h7, h8, h9⟩, cx⟩ := hq
    obtain ⟨c, rfl, hsub, hth⟩ := hE'
    obtain ⟨oe', fs, ce, cd, c2⟩ := cx e rfl
    cases ce.symm.trans h1
    have I2 : Inv X pins σ H2 s2 := I1.call' os un hok bare (fun b z => absurd z (by simp))
    have fresh : ∀ b, s1.heap.get? b = none → X.s₀.heap.get? b = none := fun b z => by
      cases q : X.s₀.heap.get? b with
      | none => rfl
      | some o =>
        obtain ⟨o', e1⟩ := I1.base.there b o q (by rw [hex]; simp)
        rw [z] at e1; cases e1
    have pnn : ∀ b, s1.heap.get? b = none → ∀ p ∈ X.pn ++ pins, p.1 ≠ b := fun b z p hp y => by
      have := (I1.pin p hp).1
      rw [y, z] at this; cases this
    have me : e ∈ e :: T :: frs X.stack := List.mem_cons_self
    have mT : T ∈ e :: T :: frs X.stack := List.mem_cons_of_mem _ List.mem_cons_self
    have nm : ∀ b, b ∉ frs X.stack → b ∉ [e, T] → b ∉ e :: T :: frs X.stack := fun b n m z => by
      rcases List.mem_cons.mp z with z | z
      · exact m (by rw [z]; simp)
      · rcases List.mem_cons.mp z with z | z
        · exact m (by rw [z]; simp)
        · exact n z
    have hh : ∀ b ∈ [e, T], X.s₀.heap.get? b = none ∧ H2 b = none ∧ ∀ p ∈ X.pn ++ pins, p.1 ≠ b := fun b z => by
      rcases List.mem_cons.mp z with z | z
      · subst z; exact ⟨fresh _ new, free, pnn _ new⟩
      · have z' : b = T := by simpa using z
        subst z'; exact ⟨fresh _ h5.1, h5.2, pnn _ h5.1⟩
    refine noteC_on (B := PySem.W.hideAll s2.heap (e :: T :: frs X.stack)) (out := X.outer) (L := X.env.locals) (c := .ref c) (x0 := a0) (by rw [I.ok.frames, hst]) hfr
      ⟨fun b o q => PySem.W.of_hideAll _ q, PySem.W.hideAll_none _ me, by rw [← hst]; exact PySem.W.funFrames_hide I2.stack (fun env he a ha => List.mem_cons_of_mem _ (List.mem_cons_of_mem _ (List.mem_filterMap.mpr ⟨env, he, ha⟩))),
        oe, vs', T, oT, ts, h1, h2, h3, h4, PySem.W.hideAll_none _ mT, h6, h7, h8, h9⟩ h1 fun h₄ held m4 u4 => ?_
    obtain ⟨oe4, fs4, ge4, gd4, gx4⟩ := m4.ctx cd c2
    refine flightC (s := { s2 with heap := h₄ }) held.1 held.2.2.1 held.2.2.2 fun h₅ b1 b2 b3 b4 u5 => ?_
    have F5 : Flew X [e, T] s2.heap h₅ := ⟨fun b o q n m => b1 b o (PySem.W.hideAll_get _ q (nm b n m)), u4.trans u5⟩
    have I5 := I2.flew F5 hh
    have fly : Heap.FlyingW (PySem.W.hideAll s2.heap (e :: T :: frs X.stack)) (X.env :: X.outer) e (.ref c) a0 h₅ := ⟨b1, held.2.1, b2, b3⟩
    obtain ⟨ob, hob, hobc⟩ := fly.there
    refine wpAny_handleBy_cons (codeAny_handlers_test (ld_glob (I5.held e) hgx hcx ?_ hdx)) (by intro q; cases q)
    refine (PySem.W.exm_one (K := X.K) I5.kIn (xtype hob hobc) hsub).here ?_
    refine codeAny_handlers_suite (flightC (s := { s2 with heap := h₅ }) b1 b2 b3 fun h₆ d1 d2 d3 d4 u6 => ?_)
    have F6 : Flew X [e, T] s2.heap h₆ := ⟨fun b o q n m => d1 b o (PySem.W.hideAll_get _ q (nm b n m)), (u4.trans u5).trans u6⟩
    have I6 := I2.flew F6 hh
    have ge6 : h₆.get? e = some oe4 := d4.trans (b4.trans ge4)
    have loc : e ≠ X.env.locals := fun z => by
      obtain ⟨m, ⟨o, es, ep, ho, hd, _⟩, _⟩ := I6.loc
      rw [← z] at ho
      cases ho.symm.trans ge6
      rw [gd4] at hd; cases hd
    have nfs : e ∉ X.fs := fun z => by
      obtain ⟨_, o, ho, nf⟩ := I6.funs.mem z
      cases ho.symm.trans ge6
      exact nf _ gd4
    have J6 := (I6.pinAt (e := e) (o := oe4) ⟨ge6, free, loc, nfs, fun v z => by rw [gd4] at z; cases z⟩).held e
    obtain ⟨bm, N, nm', qn, bs, hdct, sn, sub, ab, col, dd, k0, k1, k2, k3, k5, mN, hC, hN, hni, TT⟩ := exc_obj I.ok.mod.kin xk.ok
    refine wpAny_execs_cons ?_
    rw [arm_exec_Raise]
    refine wpAny_bind (wpAny_standAt ?_)
    refine raise_from (e1 := e) (C := cA X.K y) (nm := nm') (q := qn) (N := N) (bs := bs) (bm := bm) (hdct := hdct) (sn := sn) (sub := sub) (ab := ab) (col := col) (dd := dd) (k0 := k0) (k1 := k1) (k2 := k2) (k3 := k3) (k5 := k5) (newId := "ValueError.__new__") (TT.hasType PySem.F.excBase_ValueError.hasBase) rfl ?_
    refine wpAny_bind (wpAny_Call_ofName (ld_glob J6 hgy hcy ?_ hdy))
    unfold callWith
    have g7 := hs e cpos _ _ _ _ _ J6 hth
    rw [show (X.held e).env = X.env from rfl, hey] at g7
    rw [hey]
    refine wpAny_bind (wpAny_holding (Calls.evalArgs_plain (wpAny_mono g7 (fun us7 s7 hq7 => wpAny_bind (wpAny_standAt ?_)) fun _ _ z => False.elim z)))
    obtain ⟨vs7, H7, J7, r7, hz7, hE7⟩ := hq7
    have I7 := J7.unheld I.ok
    have sl : ((backTo cpos ((false, eval c0 X.env) :: starEach cs X.env)).any fun x => x.1) = false := by
      show (false || (backTo cpos (starEach cs X.env)).any (·.1)) = false
      rw [hply]; rfl
    simp only [sl]
    obtain ⟨hp7, gg7, dr7, tk7, os7⟩ := s7
    have gC7 := I7.bk _ _ hC
    refine wpAny_bind (wpAny_keeperOf_exc gC7 ?_)
    refine wpAny_bind (wpAny_call_exc_subT (hrest := by rw [List.nil_append, ← r7.length]; exact hz7) PySem.F.excBase_ValueError (TT.keeps I7.bk) gC7 (hN.keeps I7.bk) hni fun h8 e2 mk => wpAny_bind (wpAny_holding (wpAny_point (wpAny_pure ?_))))
    refine wpAny_bind (wpAny_standAt (wpAny_pure ?_))
    obtain ⟨t, ht, tn, tt⟩ := mk.there
    have ge7 : hp7.get? e = some oe4 := (I7.pin (e, oe4) (List.mem_append_right _ List.mem_cons_self)).1
    have ne2 : e2 ≠ e := fun z => by
      have y := mk.new
      rw [z, ge7] at y; cases y
    refine ⟨e2, .ref t, rfl, mk.keeps _ _ gC7, ht, ne2, ⟨oe4, fs4, mk.keeps _ _ ge7, gd4, gx4⟩, fun h9 w1 w2 => ?_⟩
    have kp9 : ∀ b o, hp7.get? b = some o → h9.get? b = some o := fun b o z => (w1 b fun y => by
      have q := mk.new
      rw [← y, z] at q; cases q).trans (mk.keeps b o z)
    have fr9 : ∀ b, hp7.get? b = none → (PySem.W.hideAll hp7 (frs X.stack)).get? b = none := fun b z => by
      cases q : (PySem.W.hideAll hp7 (frs X.stack)).get? b with
      | none => rfl
      | some o => rw [PySem.W.of_hideAll _ q] at z; cases z
    show wpAny _ _ (noteFrame _ _) _ _ _
    have ff7 : h9.FunFrames (PySem.W.hideAll hp7 (frs X.stack)) (X.env :: X.outer) := by
      rw [← hst]
      exact (PySem.W.funFrames_hide I7.stack fun env he a ha => List.mem_filterMap.mpr ⟨env, he, ha⟩).of_keeps fun b o hb _ => ⟨o, kp9 b o hb, rfl⟩
    refine noteC_first (s := ⟨h9, gg7, dr7, tk7, os7⟩) (B := PySem.W.hideAll hp7 (frs X.stack)) (out := X.outer) (L := X.env.locals) (x0 := .ref t) (by rw [show (X.A.mark (some (Value.ref e))).frames = X.A.frames from rfl, I.ok.frames, hst]) ff7 hfr w2 (fun b o q => kp9 b o (PySem.W.of_hideAll _ q)) (fr9 e2 mk.new) rfl rfl rfl fun h10 hd10 m10 u10 => ?_
    show wpAny _ _ _ _ _ _
    obtain ⟨T10, g10⟩ := m10
    refine wpAny_bind (wpAny_field g10 (Obj.data_mapFields rfl _) (x := .ref T10) rfl ?_)
    rw [if_neg (by simp)]
    rw [hfr]
    refine flightC (s := ⟨h10, gg7, dr7, tk7, os7⟩) hd10.1 hd10.2.2.1 hd10.2.2.2 fun h11 n1 n2 n3 n4 u11 => ?_
    exact hE _ σ H7 ⟨hp7, gg7, dr7, tk7, os7⟩ h11 e2 (.ref t) I7 mk.new ⟨n1, hd10.2.1, hst.symm ▸ n2, n3⟩ ((Heap.UpToSlots.of_keeps kp9).trans (u10.trans u11)) hE7
end L2
namespace L2
open PySem PySem.Spec PyProof.Rows
section
variable {M : Model} {A : Around} {E : Value → Shared → Prop} {s : Shared} {B : Heap} {v : Env} {out : List Env} {L e d : Addr} {Q : Unit → Shared → Prop}
end
/-! ### a thing that is no longer kept track of -/
def del (H : Hp) (e : Addr) : Hp := fun b => if b = e then none else H b
theorem del_self {H : Hp} {e : Addr} : del H e e = none := if_pos rfl
theorem del_ne {H : Hp} {e b : Addr} (h : b ≠ e) : del H e b = H b := if_neg h
theorem del_none {H : Hp} {e b : Addr} (h : H b = none) : del H e b = none := by unfold del; split <;> first | rfl | exact h
section
variable {X : Cx} {pins : List (Addr × Obj)} {σ : St} {H : Hp} {s : Shared} {e : Addr} {φ : Heap → Prop}
theorem Inv.drop (I : Inv X pins σ H s) (he : H e = some (.ext φ)) : Inv X pins σ (del H e) s := by
  have nx : ∀ b o, H b = some o → (∀ ψ, o ≠ .ext ψ) → (del H e) b = some o := fun b o q n => (del_ne fun z => by rw [z, he] at q; exact n φ (Option.some.inj q).symm).trans q
  refine ⟨I.ok, I.os, I.bare, ⟨I.base.keep, I.base.slot, fun b u q n hx => del_none (I.base.free b u q n hx), I.base.there, fun b xs q => nx _ _ (I.base.tups b xs q) (fun _ z => nomatch z), fun b u v q => nx _ _ (I.base.frzs b u v q) (fun _ z => nomatch z), fun b ps q => ?_⟩,
    I.loc, I.cell, del_none I.free, fun x c q => del_none (I.freeC x c q), fun p q => ?_, fun b u q => ?_, I.len⟩
  · obtain ⟨more, z⟩ := I.base.tbls b ps q
    exact ⟨more, nx _ _ z (fun _ z => nomatch z)⟩
  · obtain ⟨a, b, c, d, f⟩ := I.pin p q
    exact ⟨a, del_none b, c, d, f⟩
  · have ne : b ≠ e := fun z => by rw [z, del_self] at q; cases q
    rw [del_ne ne] at q
    exact (I.hok b u q).stay (fun _ _ _ z => z) (fun c z => nx _ _ z (fun _ z => nomatch z)) fun c xs z => nx _ _ z (fun _ z => nomatch z)
end
section
variable {P : Program} {w : World} {K : PySem.W.Frag} {mg : Str → Option Value} {base : Heap} {N : List Str} {qual : Str} {scope : Scope} {f : Addr} {cd : Value} {A : Around} {outer : List Env} {s₀ : Shared} {H₀ : Hp} {E : XK}
end
/-! ### raise C(v), C with an __init__ that keeps v -/
section
variable {M : Model} {A : Around} {E : Value → Shared → Prop} {env : Env} {nm q : Str} {C N : Addr} {bs bm : List Value} {hdct : Bool} {sn : List Str} {sub : List Value} {ab : Bool} {col : Option Bool} {dd : Option Addr} {k0 k1 k2 k3 k5 : Option Value} {newId : String}
theorem raise_inst {s : Shared} {x : Sem Value} {Q : Flow → Shared → Prop} (hb : bm.contains (.type "BaseException") = true) (hh : A.handled = none)
    (h : wpAny M A x (fun v s1 => ∃ e oe fs, v = .ref e ∧ s1.heap.get? C = some (excClassObj nm q C N bs bm hdct sn sub ab col dd k0 k1 k2 k3 k5 newId) ∧ s1.heap.get? e = some oe ∧ oe.cls = .ref C ∧ oe.data = .fields fs ∧ fs[1]? = some .none ∧ E (.ref e) s1) E s) :
    wpAny M A (raiseStmt env (some x) none) Q E s := by
  have own : (Value.ref C :: bm).contains (.type "BaseException") = true := by rw [List.contains_cons, hb, Bool.or_true]
  unfold raiseStmt
  refine wpAny_bind (wpAny_mono h (fun v s1 h1 => ?_) fun _ _ x => x)
  obtain ⟨e, oe, fs, rfl, hC, ge, gc, gd, g1, hE⟩ := h1
  obtain ⟨hp, g, d, tk, os⟩ := s1
  obtain ⟨oc, odd, odt, osl⟩ := oe
  dsimp only at gc gd
  subst gc gd
  repeat (first | (with_reducible refine wpAny_field ge rfl g1 ?_) | with_reducible refine wpAny_loadPart_at ge ?_ | with_reducible refine wpAny_loadPart_at hC ?_ | (with_reducible refine wpAny_isSubtype_exc hC ?_; rw [own]) | wp_step)
  exact wpAny_raiseNew_none hh hE
end
section
variable {X : Cx} {x : Str} {np pos : Pos} {e0 : Expr} {t : TA} {C f : Addr} {fd : FuncData} {ps : List Str} {name : Str} {j k : Nat}
def tNewJ (C : Addr) (name : Str) (g : Heap) (t : TA) : TE := fun σ H Q => t σ H fun vs H1 => ∃ v, vs = [v] ∧ ∀ e d H', g.get? e = none → H1 e = none → H1 d = none → Same H1 H' → H' e = some (ExcD e (.ref C) d) → H' d = some (.xd [(name, v)]) → Q (.ref e) H'
theorem pe_newJ (hm : X.mg x = some (.ref (cA X.K x))) (D : InitX X.prog X.w X.K X.mg X.base j (cA X.K x) name) (hr : Room k X.A) (ha : PA X [e0] t) (hg : Gl X x := by rfl) (hex : X.ex = [] := by rfl) (hj : j + 1 ≤ k := by decide) (hd : (x == ("__debug__" : Str)) = false := by decide)
    (he : starEach [e0] X.env = (false, eval e0 X.env) :: starEach [] X.env := by rfl) (hpl : (backTo pos (starEach [] X.env)).any (·.1) = false := by rfl) : PE X (.Call (.Name x np) [e0] [] pos) (tNewJ (cA X.K x) name X.s₀.heap t) := by
  intro pins s σ H Q I h
  obtain ⟨f, fd, ps, F, Z, h2, hb⟩ := D.ex
  refine wpAny_Call_Name_kw (ld_glob I hg hm (PySem.W.callWith_K (h₀ := X.base) I.ok.mod.kin Z.kp (thn (ha pos pins s σ H _ I h) fun us s1 hq => ?_) he hpl) hd)
  obtain ⟨vs, H1, I1, r, v, rfl, q⟩ := hq
  refine ⟨I1.kIn, ?_⟩
  obtain ⟨u, rfl, ru⟩ := vals1 r
  refine xmake_init I1.kIn Z (fun h' e mk => ?_) (by show 1 ≤ sizeLine; rw [sizeLine_eq]; omega)
  obtain ⟨tt, h1, g2, g3⟩ := mk.there
  have I2 : Inv X pins σ (upd H1 e (ExcN e (.ref (cA X.K x)))) { s1 with heap := h', toks := s1.toks } := I1.trackNew (o := ExcN e (.ref (cA X.K x))) (t' := s1.toks) mk.keeps mk.new hex ⟨⟨_, _, h1, rfl, rfl, rfl, ⟨_, rfl⟩, rfl, rfl⟩, ⟨_, h1⟩, fun g1 g2 p k => by
    obtain ⟨o, vs, a, b, c, d⟩ := p
    exact ⟨o, vs, k o a, b, c, d⟩⟩
  have hn := I1.hok.gone mk.new
  have bd : BindsTo ({ s1 with heap := h', toks := s1.toks } : Shared) fd ⟨[.ref e, u], []⟩ (ps.zip [.ref e, u]) := by
    have z := (Binds.all (K := X.K) hb) { s1 with heap := h', toks := s1.toks } [.ref e, u] I2.kIn (by rw [List.append_nil, h2]; rfl)
    rw [List.append_nil] at z
    exact z
  refine wpAny_call (codeAny_mono (F.run _ X.stack _ _ ⟨[.ref e, u], []⟩ [.ref e, u] [.ref e, v] (fun r H' => r = .non ∧ Q (.ref e) H') E0 ((hr.mono hj).make _ _ _) (I2.env0.make _ _ _) bd (.cons rfl (.cons ru .nil))
    ⟨e, v, rfl, upd_same, fun d hde hd' => ⟨rfl, ?_⟩⟩) fun rs s2 hq => ?_)
  · rw [upd_upd]
    have hd'' : H1 d = none := by rw [upd_ne hde] at hd'; exact hd'
    exact q e d _ (I1.freshX mk.new hex).1 hn hd'' ((same_new hn _).trans (same_new (by rw [upd_ne hde] at hd' ⊢; exact hd') _)) (by rw [upd_ne (Ne.symm hde)]; exact upd_same) upd_same
  cases rs with
  | error e => exact False.elim hq
  | ok fl =>
    cases fl with
    | ret u' =>
      obtain ⟨v', H', I', rv, e1, e2⟩ := I2.after hq
      subst e1
      exact ⟨rv, .ref e, H', I', rfl, e2⟩
    | next => exact False.elim hq
    | brk => exact False.elim hq
    | cont => exact False.elim hq
end
section
variable {X : Cx} {x : Str} {np cpos pos : Pos} {e0 : Expr} {t : TA} {name : Str} {j k : Nat} {E : XK}
def tRaiseI (C : Addr) (name : Str) (g : Heap) (E : XK) (t : TA) : TS := fun _ σ H => tNewJ C name g t σ H fun v H' => ∃ e d, v = .ref e ∧ g.get? e = none ∧ H' e = some (ExcD e (.ref C) d) ∧ E (.ref C) (some d) (del H' e)
theorem raiseI_of {C : Addr} {name : Str} {g : Heap} {E : XK} {v : V} {H1 : Hp} (h : ∀ d H', Same H1 H' → H1 d = none → H' d = some (.xd [(name, v)]) → E (.ref C) (some d) H') :
    ∀ e d H', g.get? e = none → H1 e = none → H1 d = none → Same H1 H' → H' e = some (ExcD e (.ref C) d) → H' d = some (.xd [(name, v)]) → ∃ e' d', V.ref e = .ref e' ∧ g.get? e' = none ∧ H' e' = some (ExcD e' (.ref C) d') ∧ E (.ref C) (some d') (del H' e') :=
  fun e d H' g0 n1 n2 s he hd => ⟨e, d, rfl, g0, he, h d _ (fun b o q => (del_ne (ne_of_none q n1)).trans (s b o q)) n2 ((del_ne (ne_of hd he (by intro z; cases z))).trans hd)⟩
theorem ps_raiseI (hm : X.mg x = some (.ref (cA X.K x))) (D : InitX X.prog X.w X.K X.mg X.base j (cA X.K x) name) (hr : Room k X.A)
    (hE : ∀ pins σ H s e d, Inv X pins σ H s → H e = some (ExcD e (.ref (cA X.K x)) d) → X.s₀.heap.get? e = none → E (.ref (cA X.K x)) (some d) (del H e) → X.xe (.ref e) s) (ha : PA X [e0] t) (hc : X.calm = true := by rfl) (hg : Gl X x := by rfl) (hex : X.ex = [] := by rfl) (hj : j + 1 ≤ k := by decide) (hd : (x == ("__debug__" : Str)) = false := by decide)
    (he : starEach [e0] X.env = (false, eval e0 X.env) :: starEach [] X.env := by rfl) (hpl : (backTo cpos (starEach [] X.env)).any (·.1) = false := by rfl) : PS X (.Raise (some (.Call (.Name x np) [e0] [] cpos)) none pos) (tRaiseI (cA X.K x) name X.s₀.heap E t) := by
  intro pins s σ H D' I h
  obtain ⟨f, fd, ps, F, Z, h2, hb⟩ := id D.ex
  obtain ⟨Dd, nm, qn, N, bs, sn, sub, ab, col, dd, k0, k1, k2, k3, k5, lk, qD⟩ := id Z.ob
  rw [arm_exec_Raise]
  refine wpAny_bind (wpAny_standAt (raise_inst (C := cA X.K x) (nm := nm) (q := qn) (N := N) (bs := bs) (bm := .ref Dd :: bmV) (hdct := true) (sn := sn) (sub := sub) (ab := ab) (col := col) (dd := dd) (k0 := k0) (k1 := k1) (k2 := k2) (k3 := k3) (k5 := k5) (newId := "ValueError.__new__") (by rfl) (I.ok.hd hc) ?_))
  refine wpAny_bind (thn (pe_newJ (pos := cpos) (np := np) hm D hr ha hg hex hj hd he hpl pins s σ H _ I h) fun u s1 hq => wpAny_bind (wpAny_standAt (wpAny_pure ?_)))
  · obtain ⟨y, H1, I1, ry, e, d, rfl, g0, he1, hE1⟩ := hq
    obtain rfl : u = Value.ref e := ry
    obtain ⟨oe, fs, ge, gc, gd, gdd, _, g1, _⟩ := (I1.hok e _ he1).1
    exact ⟨e, oe, fs, rfl, I1.kIn _ _ lk, ge, gc, gd, g1, hE pins σ H1 s1 e d I1 he1 g0 hE1⟩
end
section
variable {X : Cx} {o value : Expr} {name : Str} {pos pos' : Pos} {ta tv : TE} {C : Addr}
end
end L2
/-! ### a comprehension whose items may raise -/
namespace L2
open PySem PySem.Spec PyProof.Rows
theorem note_env {e : Value} {v v0 : Env} (h : v.frame = v0.frame) : noteFrame e v = noteFrame e v0 := by unfold noteFrame PySem.frameOf; rw [h]
theorem FunFrames_of_mem {h h' B : Heap} : ∀ {l : List Env}, (∀ b ∈ frs l, ∀ o, h.get? b = some o → h'.get? b = some o) → h.FunFrames B l → h'.FunFrames B l
  | [], _, _ => trivial
  | v :: l, k, hf => by
    obtain ⟨a, ⟨L, o, f1, f2, f3, f4⟩, r⟩ := hf
    refine ⟨a, ⟨L, o, f1, f2, k L ?_ o f3, f4⟩, FunFrames_of_mem (fun b hb => k b ?_) r⟩
    · exact List.mem_filterMap.mpr ⟨v, List.mem_cons_self, f1⟩
    · obtain ⟨u, hu, e⟩ := List.mem_filterMap.mp hb
      exact List.mem_filterMap.mpr ⟨u, List.mem_cons_of_mem _ hu, e⟩
section
variable {M : Model} {A : Around} {E : Value → Shared → Prop} {s : Shared} {B : Heap} {v : Env} {out : List Env} {L e : Addr} {Q : Unit → Shared → Prop}
/-- a frame is noted, whatever mark the entry bears -/
theorem noteC_any {c x0 fl : Value} (fr : A.frames = some (v :: out)) (vf : v.frame = some L) (st : B.StaysIn s.heap) (be : B.get? e = none) (ff : s.heap.FunFrames B (v :: out)) (tr : s.heap.TracedAtW B e c x0 fl)
    (k : ∀ h', Heap.HeldW B (v :: out) e c x0 L h' → s.heap.UpToSlots h' → Q () { s with heap := h' }) : wpAny M A (noteFrame (.ref e) v) Q E s := by
  obtain ⟨oe, fs, T, oT, ts, ge, ⟨cx, o0⟩, od, o1, bT, Te, gT, dT, t3⟩ := id tr
  by_cases hfl : (fl == rawInt L) = true
  · have z : fl = rawInt L := eq_of_beq hfl
    subst z
    exact wpAny_noteFrame_againW vf tr (k s.heap ⟨st, be, ff, tr⟩ (Heap.UpToSlots.refl _))
  subst cx
  have rest : ∀ b, b ≠ T → (s.heap.update T (Obj.mapFields (·.setIfInBounds 3 Value.none))).get? b = s.heap.get? b := fun b ne => Heap.get?_update_other _ _ ne.symm
  have none_of : ∀ b o, s.heap.get? b = some o → (∀ w, o.data ≠ .fields w) → b ≠ T := fun b o hb nf z => by
    rw [z] at hb
    cases hb.symm.trans gT
    exact nf ts dT
  unfold noteFrame
  simp only [vf]
  refine wpAny_bind (wpAny_field ge od o1 ?_)
  rw [if_pos (show (Value.ref T != Value.none) = true from by simp)]
  refine wpAny_bind (wpAny_field gT dT t3 ?_)
  rw [if_neg hfl]
  refine wpAny_bind (wpAny_setField gT dT (Array.getElem?_eq_some_iff.mp t3).1 ?_)
  refine noteC_new (oe := oe) (fs := fs) (x0 := x0) fr (ff.of_keeps fun b o hb nf => ⟨o, (rest b (none_of b o hb nf)).trans hb, rfl⟩) vf ((rest e Te.symm).trans ge) (fun b o hb => (rest b fun z => by rw [z, bT] at hb; cases hb).trans (st b o hb)) be od (Array.getElem?_eq_some_iff.mp o1).1 o0 fun h' n m => ?_
  obtain ⟨n1, n2, n3, n4⟩ := n
  exact k h' ⟨n1, be, n2, n3⟩ fun b o hb nf => n4 b o ((rest b (none_of b o hb nf)).trans hb) nf
end
/-- what an exception that bears any mark needs, to leave the def -/
def Lets (X : Cx) (E : XK) : Prop := ∀ (pins : List (Addr × Obj)) (σ : St) (H : Hp) (s : Shared) (h' : Heap) (e T : Addr) (c x0 fl : Value), Inv X pins σ H s → (∀ b ∈ [e, T], X.s₀.heap.get? b = none ∧ H b = none) →
  (PySem.W.hideAll s.heap (e :: T :: frs X.stack)).StaysIn h' → h'.FunFrames (PySem.W.hideAll s.heap (e :: T :: frs X.stack)) X.stack → h'.TracedAtW (PySem.W.hideAll s.heap (e :: T :: frs X.stack)) e c x0 fl → s.heap.UpToSlots h' → E c none H → X.xe (.ref e) { s with heap := h' }
section
variable {P : Program} {w : World} {K : PySem.W.Frag} {mg : Str → Option Value} {base : Heap} {N : List Str} {qual : Str} {scope : Scope} {f : Addr} {cd : Value} {A : Around} {outer : List Env} {s₀ : Shared} {H₀ : Hp} {E : XK}
theorem letsX : Lets (cxOf (CXX P w) P w K mg base N qual scope f cd A outer s₀ H₀ E) E := by
  intro pins σ H s h' e T c x0 fl I hh st ff tr up hE
  have me : e ∈ e :: T :: frs (cxOf (CXX P w) P w K mg base N qual scope f cd A outer s₀ H₀ E).stack := List.mem_cons_self
  show wpAny _ _ (leaving _ _) _ _ _
  unfold leaving
  refine wpAny_bind (noteC_any (s := { s with heap := h' }) (B := PySem.W.hideAll s.heap (e :: T :: frs (cxOf (CXX P w) P w K mg base N qual scope f cd A outer s₀ H₀ E).stack)) (out := outer) (L := s₀.heap.objs.size) I.ok.frames rfl st (PySem.W.hideAll_none _ me) ff tr fun h1 hd u1 => ?_)
  obtain ⟨n1, n2, n3, n4⟩ := hd
  refine flightC (s := { s with heap := h1 }) n1 n3 n4 fun h'' m1 m2 m3 m4 m5 => ?_
  obtain ⟨_, _, m2⟩ := m2
  have nm : ∀ b, b ∉ frs (cxOf (CXX P w) P w K mg base N qual scope f cd A outer s₀ H₀ E).stack → b ∉ [e, T] → b ∉ e :: T :: frs (cxOf (CXX P w) P w K mg base N qual scope f cd A outer s₀ H₀ E).stack := fun b n m z => by
    rcases List.mem_cons.mp z with z | z
    · exact m (by rw [z]; simp)
    · rcases List.mem_cons.mp z with z | z
      · exact m (by rw [z]; simp)
      · exact n z
  have F : Flew (cxOf (CXX P w) P w K mg base N qual scope f cd A outer s₀ H₀ E) [e, T] s.heap h'' := ⟨fun b o q n m => m1 b o (PySem.W.hideAll_get _ q (nm b n m)), up.trans (u1.trans m5)⟩
  exact ⟨e, c, H, rfl, hE, I.os, I.bare, I.unFlew F (fun b z => (hh b z).1), I.hokFlew F (fun b z => (hh b z).2), exc_of I F (fun b o q n m => PySem.W.hideAll_get _ q (nm b n m)) ⟨m1, n2, m2, m3⟩ hh (hh e (by simp)) fun b z => absurd (show b ∈ ([] : List Addr) from z) (by simp)⟩
end
section
variable {prog : Program} {w : World} {A : Around} {R : Result → Shared → Prop} {s : Shared}
theorem comp_loopX {elt target iter : Expr} {scope : Scope} {pos : Pos} {it acc : Value} {env : Env} (I : Nat → Shared → Prop) {EX : Value → Shared → Prop} (hX : EX = notedBy (model prog w) A env (fun e s => R (.error e) s))
    (turn : ∀ n s, I n s → wpAny (model prog w) A (pyNext it) (fun r s₁ => match r with
      | none => R (.ok .next) s₁
      | some v => wpAny (model prog w) A (letOwnedTupleGo target it v) (fun _ s₂ => wpAny (model prog w) A (assign target env v) (fun _ s₃ => wpAny (model prog w) A (eval elt env) (fun y s₄ =>
          wpAny (model prog w) A (call (.builtin "list.append") [acc, y]) (fun _ s₅ => ∃ m, m < n ∧ I m s₅) EX s₄) EX s₃) EX s₂) EX s₁) EX s)
    (n : Nat) (h : I n s) : codeAny (model prog w) A (.compLoop (.ListComp elt [⟨target, iter, [], 0⟩] scope pos) 0 it acc env) R s := by
  refine codeAny_loop rfl I (fun n s hI => ?_) n h
  show wpAny _ _ (Sem.onRaise (compTurn (.ListComp elt [⟨target, iter, [], 0⟩] scope pos) 0 it acc env) _) _ _ s
  refine wpAny_noted ?_
  rw [compTurn_list1]
  subst hX
  refine wpAny_bind (wpAny_standAt (wpAny_bind (thn (turn n s hI) fun r s₁ h₁ => ?_)))
  cases r with
  | none => exact wpAny_pure h₁
  | some v => exact wpAny_bind (thn h₁ fun _ s₂ h₂ => wpAny_bind (thn h₂ fun _ s₃ h₃ => wpAny_bind (wpAny_bind (thn h₃ fun y s₄ h₄ => wpAny_bind (thn h₄ fun _ s₅ h₅ => wpAny_pure (wpAny_pure ⟨rfl, h₅⟩))))))
end
section
variable {X : Cx} {pins : List (Addr × Obj)} {σ : St} {H : Hp} {s : Shared} {sc : Scope} {x : Str} {ix : List Nat} {fp : List Addr} {elt iter : Expr} {te : TE} {wi : TI} {px pos : Pos} {EK : XK}
theorem comp_coreX {it : Addr} {tn : Nat → Heap → Prop} {J : It} {use : Option (Value → Sem Unit)} {Q : Value → Shared → Prop} (O : CompOk X sc x ix) (hel : ∀ b xe, Passes (CXX X.prog X.w) ((X.block sc x ix b).wish xe) EK → PE ((X.block sc x ix b).wish xe) elt te) (hc : X.calm = true)
    (hlt : Lets X EK) (hst : X.stack = X.env :: X.outer) (hfr : X.env.frame = some X.env.locals) (hex : X.ex = [])
    (I : Inv X pins σ H s) (T : Turn X.prog X.w X.K (.Name x px) J fp it tn) (st : tn 0 s.heap) (hf : ∀ b ∈ fp, FpOk X pins H b) (R : Addr → Hp → Prop)
    (h : ∀ l, H l = none → ∃ W : Nat → Nat → List V → Hp → Prop, (∃ m, W 0 m [] (upd H l (.lst []))) ∧ Turns ix te σ J l (R l) W)
    (fin : ∀ l C m s' H', Inv X pins σ H' s' → s'.heap.Ns C m → FpOk X pins H' C → R l H' → compPost (model X.prog X.w) X.A X.xe use Q (.ref l) C (.ok .next) s') :
    wpAny (model X.prog X.w) X.A (newList []) (fun acc s₃ => wpAny (model X.prog X.w) X.A (newFunctionEnv sc X.env.globals (closOf sc X.env) [] X.env.qual none .none (some X.env)) (fun cenv s₄ =>
      codeAny (model X.prog X.w) X.A (.compStart (.ListComp elt [⟨.Name x px, iter, [], 0⟩] sc pos) 0 (.ref it) acc { cenv with scope := relabel sc X.env }) (compPost (model X.prog X.w) X.A X.xe use Q acc cenv.locals) s₄) X.xe s₃) X.xe s := by
  refine wpAny_newObj_type (wpAny_newFunctionEnv O.cell (by intro y hy; simp at hy) (fun h₁ hns hsb => ?_) O.kind)
  dsimp only at hns hsb ⊢
  have hl0 : H s.heap.objs.size = none := I.hok.fresh (Nat.le_refl _)
  obtain ⟨W, ⟨m0, w0⟩, tr⟩ := h s.heap.objs.size hl0
  have I3 : Inv X pins σ (upd H s.heap.objs.size (.lst [])) { s with heap := s.heap.push { cls := .type "list", dict := none, data := .seq ([] : List Value).toArray } } :=
    I.laid (t' := s.toks) (fun b o e => Heap.get?_push_of_some _ e) (Nat.le_refl _) ⟨Nat.zero_le _, [], 0, .nil, Heap.get?_push_size _ rfl⟩
  have ofp : ∀ b ∈ fp, ∃ o, s.heap.get? b = some o := fun b hb => by
    obtain ⟨o, e, _⟩ := T.obj 0 _ st b hb
    exact ⟨o, e⟩
  generalize e3 : s.heap.push { cls := .type "list", dict := none, data := .seq ([] : List Value).toArray } = G at I3 hns hsb ⊢
  have ofp3 : ∀ b ∈ fp, ∃ o, G.get? b = some o := fun b hb => by
    obtain ⟨o, e⟩ := ofp b hb
    exact ⟨o, by rw [← e3]; exact Heap.get?_push_of_some _ e⟩
  have nl : ∀ b ∈ fp, b ≠ s.heap.objs.size := fun b hb => by
    obtain ⟨o, e⟩ := ofp b hb
    exact Nat.ne_of_lt (Heap.lt_size e)
  have hf3 : ∀ b ∈ fp, FpOk X pins (upd H s.heap.objs.size (.lst [])) b := fun b hb => ⟨by rw [upd_ne (nl b hb)]; exact (hf b hb).1, (hf b hb).2⟩
  have keep3 : ∀ b o, G.get? b = some o → h₁.get? b = some o := fun b o e => hsb.extBut b o (Nat.ne_of_lt (Heap.lt_size e)) (Heap.get?_push_of_some _ e)
  have stk : tn 0 h₁ := T.keep _ _ _ st fun b hb o e => keep3 b o (by rw [← e3]; exact Heap.get?_push_of_some _ e)
  have J0 := block_inv (tk := s.toks + ([] : List (Str × Value)).length) I3 O hf3 ofp3 hns keep3
  generalize eY : X.block sc x ix ⟨G.objs.size, { s with heap := G }, upd H s.heap.objs.size (.lst []), X.pn ++ pins, fp⟩ = Y at J0
  obtain ⟨xeB, eB⟩ : ∃ xeB, xeB = notedBy (model X.prog X.w) X.A (compEnvC sc (closOf sc X.env) G.objs.size X.env) (fun e s' => compPost (model X.prog X.w) X.A X.xe use Q (.ref s.heap.objs.size) G.objs.size (.error e) s') := ⟨_, rfl⟩
  have pass : Passes (CXX X.prog X.w) (Y.wish xeB) EK := by
    subst eY
    intro pins5 σ5 H5 s5 ev s6 I5 hcx
    obtain ⟨e, c, H6, rfl, hE, os, bare, un, hok, new, free, oe, vs, T', oT, ts, a0, h1, h2, h3, h4, h5, h6, h7, h8, h9⟩ := hcx
    have J5 : Inv X pins σ H5 s5 := block_back I3 hf3 I5.unwish
    have J6 : Inv X pins σ H6 s6 := J5.call' os un hok bare (fun b z => absurd z (by simp))
    have B6 := I5.unwish.call' os un hok bare (fun b z => absurd z (by simp))
    obtain ⟨m6, hn6, _⟩ := B6.loc
    have fC : FpOk X pins H6 G.objs.size := I3.fpOk (Nat.le_refl _) B6.free
    have nC : G.objs.size ∉ frs X.stack := fun z => (List.mem_cons.mp (J6.stkSub _ z)).elim fC.2.1 fC.2.2.1
    have fresh : ∀ b, s5.heap.get? b = none → X.s₀.heap.get? b = none := fun b z => by
      cases q : X.s₀.heap.get? b with
      | none => rfl
      | some o =>
        obtain ⟨o', e1⟩ := J5.base.there b o q (by rw [hex]; simp)
        rw [z] at e1; cases e1
    have hh : ∀ b ∈ [e, T'], X.s₀.heap.get? b = none ∧ H6 b = none := fun b z => by
      rcases List.mem_cons.mp z with z | z
      · subst z; exact ⟨fresh _ new, free⟩
      · have z' : b = T' := by simpa using z
        subst z'; exact ⟨fresh _ h5.1, h5.2⟩
    have G6s : ∀ b o, b ≠ G.objs.size → s6.heap.get? b = some o → (PySem.W.hideAll s6.heap [G.objs.size]).get? b = some o := fun b o ne q => PySem.W.hideAll_get _ q (by simpa using ne)
    have G6n : ∀ b o, (PySem.W.hideAll s6.heap [G.objs.size]).get? b = some o → b ≠ G.objs.size := fun b o q z => by
      rw [z, PySem.W.hideAll_none _ (by simp)] at q; cases q
    have J7 : Inv X pins σ H6 { s6 with heap := PySem.W.hideAll s6.heap [G.objs.size], toks := s6.toks } := J6.turned G6s fC.1 fC.2.1 fC.2.2.2.1 fC.2.2.2.2.1 fC.2.2.2.2.2
    generalize eG : PySem.W.hideAll s6.heap [G.objs.size] = G6 at G6s G6n J7
    have G6o : ∀ b o, G6.get? b = some o → s6.heap.get? b = some o := fun b o q => by rw [← eG] at q; exact PySem.W.of_hideAll _ q
    have me : e ∈ e :: T' :: frs X.stack := List.mem_cons_self
    have mT : T' ∈ e :: T' :: frs X.stack := List.mem_cons_of_mem _ List.mem_cons_self
    have ff6 : s6.heap.FunFrames (PySem.W.hideAll G6 (e :: T' :: frs X.stack)) (X.env :: X.outer) := by
      rw [← hst]
      exact FunFrames_of_mem (fun b _ o q => G6o b o q) (PySem.W.funFrames_hide J7.stack fun env he a ha => List.mem_cons_of_mem _ (List.mem_cons_of_mem _ (List.mem_filterMap.mpr ⟨env, he, ha⟩)))
    show xeB (.ref e) s6
    rw [eB]
    show wpAny _ _ (noteFrame _ _) _ _ _
    rw [note_env (v := compEnvC sc (closOf sc X.env) G.objs.size X.env) (v0 := X.env) rfl]
    refine noteC_any (B := PySem.W.hideAll G6 (e :: T' :: frs X.stack)) (out := X.outer) (L := X.env.locals) (c := c) (x0 := a0) (fl := .none) (by rw [I.ok.frames, hst]) hfr (fun b o q => G6o b o (PySem.W.of_hideAll _ q)) (PySem.W.hideAll_none _ me) ff6
      ⟨oe, vs, T', oT, ts, h1, h2, h3, h4, PySem.W.hideAll_none _ mT, h6, h7, h8, h9⟩ fun g7 hd u7 => ?_
    have n7 := u7.ns hn6
    refine ⟨m6, n7, fun g8 sb cenv hcv => ?_⟩
    obtain ⟨d1, d2, d3, oe7, vs7, T7, oT7, ts7, k1, k2, k3, k4, k5, k6, k7, k8, k9⟩ := hd
    obtain ⟨oC, es, ep, hC, dC, _⟩ := n7
    have neC : ∀ b o w, g7.get? b = some o → o.data = .fields w → b ≠ G.objs.size := fun b o w q r z => by
      rw [z] at q
      cases q.symm.trans hC
      rw [r] at dC; cases dC
    have k1' := (sb.2 e (neC e _ _ k1 k3)).trans k1
    have k7' := (sb.2 T7 (neC T7 _ _ k7 k8)).trans k7
    unfold PySem.passOn
    refine wpAny_bind (wpAny_field k1' k3 k4 ?_)
    rw [if_neg (by simp)]
    refine wpAny_bind (flightC (s := { s6 with heap := g8 }) (B := PySem.W.hideAll G6 (e :: T' :: frs X.stack)) (l := X.env :: X.outer) (c := c) (x0 := a0) (fl := rawInt X.env.locals)
      (fun b o q => (sb.2 b (G6n b o (PySem.W.of_hideAll _ q))).trans (d1 b o q)) (FunFrames_of_mem (fun b hb o q => (sb.2 b fun z => nC (by rw [← z, hst]; exact hb)).trans q) d3) ⟨oe7, vs7, T7, oT7, ts7, k1', k2, k3, k4, k5, k6, k7', k8, k9⟩ fun g9 p1 p2 p3 p4 p5 => wpAny_throw ?_)
    rw [← hst] at p2
    refine hlt pins σ H6 { s6 with heap := G6, toks := s6.toks } g9 e T' c a0 _ J7 hh p1 p2 p3 (fun b o q nf => ?_) hE
    obtain ⟨sl, q7⟩ := u7 b o (G6o b o q) nf
    obtain ⟨sl', q9⟩ := p5 b _ ((sb.2 b (G6n b o q)).trans q7) nf
    exact ⟨sl', q9⟩
  -- what stays true of the iterator
  have stat : ∀ {H' : Hp}, (∀ b ∈ fp, H' b = none) → ∀ b ∈ fp, FpOk (Y.wish xeB) [] H' b := fun hn b hb => by
    subst eY
    obtain ⟨o, e⟩ := ofp3 b hb
    refine ⟨hn b hb, Nat.ne_of_lt (Heap.lt_size e), fun z => (List.mem_cons.mp (I3.stkSub _ z)).elim (hf b hb).2.1 (hf b hb).2.2.1, .inl hb, fun y c q => (hf b hb).2.2.2.2.1 y c (O.sub.get y c q), fun p hp => ?_⟩
    have hp' : p ∈ X.pn ++ pins := by
      rcases List.mem_append.mp hp with z | z
      · exact z
      · cases z
    exact (hf b hb).2.2.2.2.2 p hp'
  have hel' : PE (Y.wish xeB) elt te := by subst eY; exact hel _ xeB pass
  have back : ∀ {pins' σ' H' s'}, Inv (Y.wish xeB) pins' σ' H' s' → Inv X pins σ H' s' := fun J => by subst eY; exact block_back I3 hf3 J.unwish
  have lx : (relabel sc X.env).names.lookup x = some .local := lookup_relabel_local O.var
  have gx : PG (Y.wish xeB) (.Name x px) (gName 0) := by subst eY; exact pg_name (i := 0) O.nd rfl (Or.inl lx) (Or.inr lx)
  have y1 : Y.prog = X.prog := by subst eY; rfl
  have y2 : Y.w = X.w := by subst eY; rfl
  have y3 : Y.A = X.A := by subst eY; rfl
  have y4 : Y.env = compEnvC sc (closOf sc X.env) G.objs.size X.env := by subst eY; rfl
  have y5 : Y.K = X.K := by subst eY; rfl
  have y6 : Y.calm = X.calm := by subst eY; rfl
  have y7 : Y.env.locals = G.objs.size := by subst eY; rfl
  obtain ⟨yp, yw, yK, ymg, ybase, yA, yN, ys, yH, yenv, youter, ystack, yex, yfn, ycalm, ypn, yxe⟩ := Y
  dsimp only at y1 y2 y3 y4 y5 y6 y7
  subst y1 y2 y3 y4 y5
  have loop : ∀ s4 : Shared, s4 = { s with heap := h₁, toks := s.toks + ([] : List (Str × Value)).length } →
      codeAny (model X.prog X.w) X.A (.compLoop (.ListComp elt [⟨.Name x px, iter, [], 0⟩] sc pos) 0 (.ref it) (.ref s.heap.objs.size) (compEnvC sc (closOf sc X.env) G.objs.size X.env))
        (compPost (model X.prog X.w) X.A X.xe use Q (.ref s.heap.objs.size) G.objs.size) s4 := by
    rintro s4 rfl
    refine comp_loopX (EX := xeB) (fun n s' => ∃ i xs H' z, Inv (Cx.wish ⟨X.prog, X.w, X.K, ymg, ybase, X.A, yN, ys, yH, compEnvC sc (closOf sc X.env) G.objs.size X.env, youter, ystack, yex, yfn, ycalm, ypn, yxe⟩ xeB) [] (z :: capts σ ix) H' s' ∧ tn i s'.heap ∧ (∀ b ∈ fp, H' b = none) ∧ W i n xs H') eB ?_ m0
      ⟨0, [], _, none, J0.wish _, stk, fun b hb => (hf3 b hb).1, w0⟩
    rintro n s5 ⟨i, xs, H5, z, I5, st5, fr5, w5⟩
    obtain ⟨hl5, h5⟩ := tr i n xs H5 w5
    rcases h5 with ⟨stop, r5⟩ | ⟨go, hz, step⟩
    · refine thn (T.done (Cx.wish ⟨X.prog, X.w, X.K, ymg, ybase, X.A, yN, ys, yH, compEnvC sc (closOf sc X.env) G.objs.size X.env, youter, ystack, yex, yfn, ycalm, ypn, yxe⟩ xeB) rfl rfl rfl (y6.trans hc) i [] s5 _ H5 _ I5 (stat fr5) st5 stop) fun r s6 ⟨hr, I6⟩ => ?_
      subst hr
      obtain ⟨m6, hn6, _⟩ := I6.loc
      exact fin _ _ m6 s6 H5 (back I6) hn6 (I3.fpOk (Nat.le_refl _) I6.free) r5
    · refine thn (T.item (Cx.wish ⟨X.prog, X.w, X.K, ymg, ybase, X.A, yN, ys, yH, compEnvC sc (closOf sc X.env) G.objs.size X.env, youter, ystack, yex, yfn, ycalm, ypn, yxe⟩ xeB) rfl rfl rfl (y6.trans hc) i [] s5 _ H5 _ I5 (stat fr5) st5 go) fun r s6 ⟨u, hr, h6⟩ => ?_
      subst hr
      refine thn h6 fun _ s7 ⟨y, H7, I7, r7, y7, st7, fr7⟩ => ?_
      have I7' := I7.pinned (stat fr7) (T.obj _ _ st7)
      refine thn (gx _ s7 _ H7 y u (fun σ' H' => σ' = some y :: capts σ ix ∧ H' = H7) I7' r7 ⟨rfl, rfl⟩) fun _ s8 ⟨σ8, H8, I8, e8, e8'⟩ => ?_
      subst e8 e8'
      refine thn (hel' _ s8 _ H8 _ I8 (step y H8 y7)) fun v9 s9 ⟨v, H9, I9, r9, hl9, m', hm, w9⟩ => ?_
      refine thn (mt_append _ s9 _ H9 (.ref s.heap.objs.size) [v] (.ref s.heap.objs.size) [v9] (fun _ H' => H' = upd H9 s.heap.objs.size (.lst (xs ++ [v]))) I9 rfl (.cons r9 .nil) ⟨_, xs, v, rfl, rfl, hl9, hz, rfl⟩) fun _ s10 ⟨_, H10, I10, _, e10⟩ => ?_
      subst e10
      refine ⟨m', hm, i + 1, xs ++ [v], _, some y, I10.unpinned, T.keep _ _ _ st7 fun b hb o e => (I10.pin (b, o) (List.mem_append_right _ (List.mem_append_right _ (mem_pinsAt hb e)))).1, fun b hb => ?_, w9⟩
      obtain ⟨o, e, d⟩ := T.obj _ _ st7 b hb
      exact (I10.pin (b, o) (List.mem_append_right _ (List.mem_append_right _ (mem_pinsAt hb e)))).2.1
  exact codeAny_compStart_list (loop _ rfl) (T.self _ 0 _ _ _ stk (loop _ rfl))
/-- [elt for x in iter], elt may raise -/
theorem pe_compX (O : CompOk X sc x ix) (hlt : Lets X EK) (hi : PI X (.Name x px) iter wi) (hel : ∀ b xe, Passes (CXX X.prog X.w) ((X.block sc x ix b).wish xe) EK → PE ((X.block sc x ix b).wish xe) elt te) (hc : X.calm = true := by rfl) (hs : ∀ v, foldedSetIterable iter X.env v = pure v := by intro _; rfl)
    (hst : X.stack = X.env :: X.outer := by rfl) (hfr : X.env.frame = some X.env.locals := by rfl) (hex : X.ex = [] := by rfl) : PE X (.ListComp elt [⟨.Name x px, iter, [], 0⟩] sc pos) (tComp ix wi te) := by
  intro pins s σ H Q I h
  rw [eval_ListComp]
  refine wpAny_comprehension_free (use := none) rfl hs O.clos O.kind O.names (thn (hi pins s σ H _ I h) fun xv s1 h1 => thn h1 fun itv s2 h2 => ?_)
  obtain ⟨it, fp, tn, J, H2, e, I2, T, st2, f2, hq⟩ := h2
  subst e
  refine comp_coreX O hel hc hlt hst hfr hex I2 T st2 f2 (fun l H' => Q (.ref l) H') hq ?_
  intro l C m s' H' I' hn hf r
  refine ⟨m, hn, fun h' hb => ⟨.ref l, H', ?_, rfl, r⟩⟩
  exact I'.turned (t' := s'.toks) (fun b o hne e => hb.extBut b o hne e) hf.1 hf.2.1 hf.2.2.2.1 hf.2.2.2.2.1 hf.2.2.2.2.2
end
/-! ### a def that raises C(v), nothing being handled; who calls it wants the class alone -/
def CXK (P : Program) (w : World) : CXT := fun outer H s E ev s' => ∃ e C d H', ev = .ref e ∧ E C (some d) H' ∧ s'.os = s.os ∧ AllBare s'.gens ∧ Un (frs outer) [] H H' s.heap s'.heap ∧ HOk P w H' s'.heap ∧ ExcAt s.heap H' s'.heap e C ∧ Ctx0 s'.heap e
section
variable {P : Program} {w : World} {K : PySem.W.Frag} {mg : Str → Option Value} {base : Heap} {N : List Str} {qual : Str} {scope : Scope} {f : Addr} {cd : Value} {A : Around} {outer : List Env} {s₀ : Shared} {H₀ : Hp} {E : XK}
theorem xe_instK {pins : List (Addr × Obj)} {σ : St} {H : Hp} {s : Shared} {e d : Addr} {C : Value} (I : Inv (cxOf (CXK P w) P w K mg base N qual scope f cd A outer s₀ H₀ E) pins σ H s)
    (he : H e = some (ExcD e C d)) (h0 : s₀.heap.get? e = none) (hE : E C (some d) (del H e)) : (cxOf (CXK P w) P w K mg base N qual scope f cd A outer s₀ H₀ E).xe (.ref e) s := by
  obtain ⟨oe, fs, ge, rfl, od, dd, ⟨x0, o0⟩, o1, o2⟩ := (I.hok e _ he).1
  have J := I.drop he
  have me : e ∈ e :: frs (cxOf (CXK P w) P w K mg base N qual scope f cd A outer s₀ H₀ E).stack := List.mem_cons_self
  refine leaveC_first (B := PySem.W.hideAll s.heap (e :: frs (cxOf (CXK P w) P w K mg base N qual scope f cd A outer s₀ H₀ E).stack)) (out := outer) (L := s₀.heap.objs.size) I.ok.frames
    (PySem.W.funFrames_hide J.stack (fun env he a ha => List.mem_cons_of_mem _ (List.mem_filterMap.mpr ⟨env, he, ha⟩))) rfl ge (fun b o q => PySem.W.of_hideAll _ q) (PySem.W.hideAll_none _ me) od o1 o0 fun h'' fl mp up => ?_
  have nm : ∀ b, b ∉ frs (cxOf (CXK P w) P w K mg base N qual scope f cd A outer s₀ H₀ E).stack → b ∉ [e] → b ∉ e :: frs (cxOf (CXK P w) P w K mg base N qual scope f cd A outer s₀ H₀ E).stack := fun b n m z => by
    rcases List.mem_cons.mp z with z | z
    · exact m (by rw [z]; simp)
    · exact n z
  have F : Flew (cxOf (CXK P w) P w K mg base N qual scope f cd A outer s₀ H₀ E) [e] s.heap h'' := ⟨fun b o q n m => fl.1 b o (PySem.W.hideAll_get _ q (nm b n m)), up⟩
  have hh : ∀ b ∈ [e], s₀.heap.get? b = none ∧ (del H e) b = none := fun b z => by
    have z' : b = e := by simpa using z
    subst z'
    exact ⟨h0, del_self⟩
  exact ⟨e, _, d, del H e, rfl, hE, J.os, J.bare, J.unFlew F (fun b z => (hh b z).1), J.hokFlew F (fun b z => (hh b z).2), exc_of J F (fun b o q n m => PySem.W.hideAll_get _ q (nm b n m)) fl hh ⟨h0, del_self⟩ fun b z => absurd (show b ∈ ([] : List Addr) from z) (by simp), mp.ctx od o2⟩
end
structure DefK (P : Program) (w : World) (K : PySem.W.Frag) (mg : Str → Option Value) (base : Heap) (k : Nat) (x : Str) (ps : List Str) (sp : Sp) : Prop where
  ex : ∃ (f : Addr) (fd : FuncData), FnOk P w K mg base (CXK P w) k f fd ps sp ∧ mg x = some (.ref f) ∧ PySem.W.keepIn K (.ref f) = true ∧ (∀ us : List Value, us.length = ps.length → bindArgs fd ⟨us, []⟩ = pure (ps.zip us))
section
variable {P : Program} {w : World} {K : PySem.W.Frag} {mg : Str → Option Value} {base : Heap} {x : Str} {st : Stmt} {N ps : List Str} {k : Nat} {sp : Sp}
theorem Src.okK (S : Src K mg x st ps) (sc : FnScope N ps (defScope st)) (len : ∀ vs H Q E, sp vs H Q E → vs.length = ps.length)
    (hbody : ∀ (f : Addr) (cdv : Value) (A : Around) (outer : List Env) (s : Shared) (H : Hp) (vs : List V) (Q : VK) (E : XK), Room k (A.deeper (envOfC x (defScope st) s.heap.objs.size f cdv)) → sp vs H Q E →
      ∃ t, PSs (cxOf (CXK P w) P w K mg base N x (defScope st) f cdv A outer s H E) (defBody st) t ∧ t { nx := fun _ H' => Q .non H', rt := Q } (start N vs) H) : DefK P w K mg base (k + 1) x ps sp := by
  obtain ⟨f, fd, F, hm, hb⟩ := S.ex
  have kp := F.kp
  obtain ⟨oc, od, kV, doc, pm, an, cdv, ct, osl, rfl, lk, hcd⟩ := F.ex
  exact ⟨f, _, fn_of lk hcd sc len (hbody f cdv), hm, kp, hb⟩
theorem DefK.toC (D : DefK P w K mg base k x ps sp) : DefC P w K mg base k x ps (fun vs H Q E => sp vs H Q fun C _ H' => E C none H') := by
  obtain ⟨f, fd, F, hm, hk, hb⟩ := D.ex
  refine ⟨f, fd, ⟨fun vs H Q E q => F.len _ _ _ _ q, fun A outer s H args us vs Q E hr e0 hb hv hs => ?_⟩, hm, hk, hb⟩
  refine codeAny_mono (F.run A outer s H args us vs _ _ hr e0 hb hv hs) fun r s' q => ?_
  cases r with
  | error e =>
    obtain ⟨e, C, d, H', rfl, hE, os, bare, un, hok, ex, cx⟩ := q
    exact ⟨⟨e, C, H', rfl, hE, os, bare, un, hok, ex⟩, fun e' z => by cases z; exact cx⟩
  | ok fl => cases fl <;> exact q
end
end L2
namespace L2
open PySem PySem.Spec PyProof.Rows
open PySem.Builtin
/-! ### things that are no rows -/
theorem kind_same {K : PySem.W.Frag} {H H' : Hp} {x : V} {T : String} (h : IsKind K H x T) (s : Same H H') : IsKind K H' x T := by
  obtain ⟨h, m⟩ := h
  refine ⟨?_, m⟩
  generalize Value.type T = t at h ⊢
  cases h with
  | non => exact .non
  | bl b => exact .bl b
  | int i => exact .int i
  | str w => exact .str w
  | flt f => exact .flt f
  | lst e => exact .lst (s _ _ e)
  | frz e => exact .frz (s _ _ e)
  | tup e => exact .tup (s _ _ e)
  | dK e => exact .dK (s _ _ e)
  | ins e a b c d f => exact .ins (s _ _ e) a b c d f
def withB : V → Int → Int → Bool
  | .int i, a, b => decide (a ≤ i) && decide (i ≤ b)
  | _, _, _ => false
def loE : Ek → Int → Int
  | .fee, _ => -1000000000000
  | .rate, _ => 0
  | .late, _ => 0
  | .still, d => d + 1
  | _, _ => 1
def hiE : Ek → Int
  | .rate => 1000000
  | .late => 1000000
  | .still => 1000000
  | _ => 1000000000000
def lenE : Ek → Nat
  | .turn => 1
  | _ => 2
def oddW : List Str := ["sell", "", "Pay", "outs", " pay", "paid", "loan", "none"]
/-- refused at place 0, 1, 2 -/
def Bad0 (K : PySem.W.Frag) (H : Hp) (x : V) : Prop := (∃ T, IsKind K H x T ∧ T ≠ "tuple") ∨ ∃ r vs, x = .ref r ∧ H r = some (.tup vs) ∧ (vs = [] ∨ (∃ v0 rest T, vs = v0 :: rest ∧ IsKind K H v0 T ∧ T ≠ "str") ∨ (∃ w rest, vs = .str w :: rest ∧ w ∈ oddW) ∨ ∃ k rest, k ≠ Ek.base ∧ vs = .str k.word :: rest ∧ rest.length ≠ lenE k)
def dayV : V → Bool
  | .int i => decide (0 ≤ i) && decide (i ≤ 999999)
  | _ => false
def Bad1 (K : PySem.W.Frag) (H : Hp) (x : V) : Prop := ∃ r k v1 rest T, x = .ref r ∧ H r = some (.tup (.str (Ek.word k) :: v1 :: rest)) ∧ k ≠ .base ∧ rest.length + 1 = lenE k ∧ IsKind K H v1 T ∧ dayV v1 = false
def Bad2 (K : PySem.W.Frag) (H : Hp) (x : V) : Prop := ∃ r k d v2 T, x = .ref r ∧ H r = some (.tup [.str (Ek.word k), .int d, v2]) ∧ k ≠ .base ∧ k ≠ .turn ∧ (0 ≤ d ∧ d ≤ 999999) ∧ IsKind K H v2 T ∧ withB v2 (loE k d) (hiE k) = false
section
variable {K : PySem.W.Frag} {H H' : Hp} {x : V} {p : Int}
theorem kn_non : IsKind K H .non "NoneType" := ⟨.non, by simp [kinds]⟩
theorem kn_int (i : Int) : IsKind K H (.int i) "int" := ⟨.int i, by simp [kinds]⟩
theorem kn_str (w : Str) : IsKind K H (.str w) "str" := ⟨.str w, by simp [kinds]⟩
theorem kn_lst {a : Addr} {xs : List V} (e : H a = some (.lst xs)) : IsKind K H (.ref a) "list" := ⟨.lst e, by simp [kinds]⟩
theorem kn_tup {a : Addr} {xs : List V} (e : H a = some (.tup xs)) : IsKind K H (.ref a) "tuple" := ⟨.tup e, by simp [kinds]⟩
theorem kit_tup {T : String} (h : T ∈ kinds) : PySem.W.kitOne K (.type T) (.type "tuple") = some (decide (T = "tuple")) := by
  simp only [kinds, List.mem_cons, List.not_mem_nil, or_false] at h
  rcases h with rfl | rfl | rfl | rfl | rfl | rfl | rfl <;> rfl
theorem kit_str {T : String} (h : T ∈ kinds) : PySem.W.kitOne K (.type T) (.type "str") = some (decide (T = "str")) := by
  simp only [kinds, List.mem_cons, List.not_mem_nil, or_false] at h
  rcases h with rfl | rfl | rfl | rfl | rfl | rfl | rfl <;> rfl
end
end L2
/-! ### dates and entries as texts -/
namespace L2
open PySem PySem.Spec PyProof.Rows
/-- parts put together -/
def jn (c : Nat) : List (List Nat) → List Nat
  | [] => []
  | [p] => p
  | p :: q :: r => p ++ c :: jn c (q :: r)
theorem cut1 {c : Nat} : ∀ {p q x y : List Nat}, c ∉ p → c ∉ q → p ++ c :: x = q ++ c :: y → p = q ∧ x = y
  | [], [], x, y, _, _, h => by simpa using h
  | [], b :: q, x, y, _, hq, h => by
    injection h with h1 _
    exact absurd (by rw [h1]; exact List.mem_cons_self) hq
  | a :: p, [], x, y, hp, _, h => by
    injection h with h1 _
    exact absurd (by rw [← h1]; exact List.mem_cons_self) hp
  | a :: p, b :: q, x, y, hp, hq, h => by
    injection h with h1 h2
    obtain ⟨e1, e2⟩ := cut1 (fun z => hp (List.mem_cons_of_mem _ z)) (fun z => hq (List.mem_cons_of_mem _ z)) h2
    exact ⟨by rw [h1, e1], e2⟩
theorem jn_inj {c : Nat} : ∀ {ps qs : List (List Nat)}, ps ≠ [] → qs ≠ [] → (∀ p ∈ ps, c ∉ p) → (∀ q ∈ qs, c ∉ q) → jn c ps = jn c qs → ps = qs
  | [], _, h, _, _, _, _ => absurd rfl h
  | _, [], _, h, _, _, _ => absurd rfl h
  | [p], [q], _, _, _, _, h => by rw [show p = q from h]
  | [p], q :: q2 :: r, _, _, hp, _, h => absurd (by rw [show p = q ++ c :: jn c (q2 :: r) from h]; simp) (hp p List.mem_cons_self)
  | p :: p2 :: r, [q], _, _, _, hq, h => absurd (by rw [show q = p ++ c :: jn c (p2 :: r) from h.symm]; simp) (hq q List.mem_cons_self)
  | p :: p2 :: r, q :: q2 :: t, _, _, hp, hq, h => by
    obtain ⟨e1, e2⟩ := cut1 (hp p List.mem_cons_self) (hq q List.mem_cons_self) (show p ++ c :: jn c (p2 :: r) = q ++ c :: jn c (q2 :: t) from h)
    have z := jn_inj (ps := p2 :: r) (qs := q2 :: t) (by simp) (by simp) (fun x hx => hp x (List.mem_cons_of_mem _ hx)) (fun x hx => hq x (List.mem_cons_of_mem _ hx)) e2
    rw [e1, z]
theorem join_jn (c : Nat) : ∀ ps : List Str, (Str.join ⟨#[c]⟩ ps).cps.toList = jn c (ps.map fun p => p.cps.toList)
  | [] => rfl
  | [p] => rfl
  | p :: q :: r => by
    rw [show Str.join ⟨#[c]⟩ (p :: q :: r) = p ++ ⟨#[c]⟩ ++ Str.join ⟨#[c]⟩ (q :: r) from rfl]
    show ((p.cps ++ #[c]) ++ (Str.join ⟨#[c]⟩ (q :: r)).cps).toList = _
    rw [Array.toList_append, Array.toList_append, join_jn c (q :: r), List.append_assoc]
    rfl
theorem split_jn (c : Nat) (z : Str) : jn c ((Txt.split z ⟨#[c]⟩).map fun p => p.cps.toList) = z.cps.toList := by
  rw [← join_jn, PySem.StrLaws.join_split]
theorem split_ne (c : Nat) (z : Str) : Txt.split z ⟨#[c]⟩ ≠ [] := by
  unfold Txt.split
  split
  · simp
  · split
    · simp
    · intro h
      have := length_partsBetween z (Builtin.Str.occurrences z ⟨#[c]⟩ 0 z.length (z.length + 1)) (⟨#[c]⟩ : Str).length
      rw [h] at this
      simp at this
noncomputable def shown (y m d : Int) : Str := Str.ofString (toString y) ++ Str.ofString "-" ++ two m ++ Str.ofString "-" ++ two d
theorem len_y {y : Int} (h0 : 0 ≤ y) (h1 : y < 10000) : (Str.ofString (toString y)).length ≤ 5 := by
  have := int_text_length_le10 (a := y) (k := 4) (by decide) (by omega)
  rw [PySem.ofString_length]
  exact this
theorem dig4 : ∀ k : Fin 2800, (Str.ofString (toString ((k.val : Int) + 2000))).cps.toList = [48 + (k.val + 2000) / 1000, 48 + (k.val + 2000) / 100 % 10, 48 + (k.val + 2000) / 10 % 10, 48 + (k.val + 2000) % 10] := by decide +kernel
theorem cps_app (a b : Str) : (a ++ b).cps.toList = a.cps.toList ++ b.cps.toList := by
  show (a.cps ++ b.cps).toList = _
  rw [Array.toList_append]
theorem year_hi {y m d : Int} (D : Cal.IsDate y m d) (h0 : 0 ≤ Cal.num y m d) (h1 : Cal.num y m d ≤ 999999) : 2000 ≤ y ∧ y < 4800 := by
  have a := Cal.year_of_nn D h0
  have b := Cal.ny_mono a
  have c := Cal.cum_in (y := y) D.m1 D.m2
  have e := Cal.mlen_in (y := y) D.m1 D.m2
  have n0 := Cal.ny_0
  have d1 := D.d1
  unfold Cal.num at h1
  omega
theorem year_in {y m d : Int} (D : Cal.IsDate y m d) (h0 : 0 ≤ Cal.num y m d) (h1 : Cal.num y m d ≤ 999999) : (0 ≤ y ∧ y < 10000) ∧ (0 ≤ m ∧ m ≤ 99) ∧ (0 ≤ d ∧ d ≤ 99) := by
  have a := Cal.year_of_nn D h0
  have b := Cal.ny_mono a
  have m1 := D.m1
  have m2 := D.m2
  have c := Cal.cum_in (y := y) m1 m2
  have e := Cal.mlen_in (y := y) m1 m2
  have n0 := Cal.ny_0
  have d1 := D.d1
  have d2 := D.d2
  unfold Cal.num at h1
  omega
theorem join_shown (y m d : Int) : Txt.join (Str.ofString "-") [Str.ofString (toString y), two m, two d] = shown y m d := by
  unfold shown Txt.join
  rfl
theorem shown_list {y m d : Int} (D : Cal.IsDate y m d) (h0 : 0 ≤ Cal.num y m d) (h1 : Cal.num y m d ≤ 999999) :
    ∃ k : Nat, k < 2800 ∧ y = (k : Int) + 2000 ∧ (shown y m d).cps.toList = [48 + (k + 2000) / 1000, 48 + (k + 2000) / 100 % 10, 48 + (k + 2000) / 10 % 10, 48 + (k + 2000) % 10, 45, 48 + (m / 10).toNat, 48 + (m % 10).toNat, 45, 48 + (d / 10).toNat, 48 + (d % 10).toNat] := by
  obtain ⟨y0, y1⟩ := year_hi D h0 h1
  obtain ⟨k, rfl⟩ : ∃ k : Fin 2800, y = (k.val : Int) + 2000 := ⟨⟨(y - 2000).toNat, by omega⟩, by show y = ((y - 2000).toNat : Int) + 2000; omega⟩
  refine ⟨k.val, k.isLt, rfl, ?_⟩
  unfold shown
  rw [cps_app, cps_app, cps_app, cps_app, dig4, show (Str.ofString "-").cps.toList = [45] by decide +kernel]
  rfl
/-- the text of a day -/
def IsDt (n : Int) (z : Str) : Prop := ∃ y m d, Cal.IsDate y m d ∧ Cal.num y m d = n ∧ z = shown y m d
theorem IsDt.uniq {n : Int} {a b : Str} (h : IsDt n a) (g : IsDt n b) : a = b := by
  obtain ⟨y, m, d, D, e, rfl⟩ := h
  obtain ⟨y', m', d', D', e', rfl⟩ := g
  obtain ⟨rfl, rfl, rfl⟩ := Cal.date_inj D D' (e.trans e'.symm)
  rfl
theorem IsDt.len {n : Int} {a : Str} (h : IsDt n a) (h0 : 0 ≤ n) (h1 : n ≤ 999999) : a.length = 10 := by
  obtain ⟨y, m, d, D, rfl, rfl⟩ := h
  obtain ⟨k, _, _, e⟩ := shown_list D h0 h1
  have := congrArg List.length e
  rw [Array.length_toList] at this
  exact this
theorem IsDt.free {n : Int} {a : Str} (h : IsDt n a) (h0 : 0 ≤ n) (h1 : n ≤ 999999) : 32 ∉ a.cps.toList := by
  obtain ⟨y, m, d, D, rfl, rfl⟩ := h
  obtain ⟨k, _, _, e⟩ := shown_list D h0 h1
  rw [e]
  intro z
  simp only [List.mem_cons, List.not_mem_nil, or_false] at z
  omega
theorem shC_free (n : Int) : 32 ∉ (shC n).cps.toList := by
  rw [shC_list]
  intro z
  rcases List.mem_append.mp z with z | z
  · unfold sgn at z
    split at z
    · rw [minus_list] at z; simp at z
    · rw [none_list] at z; simp at z
  · rcases List.mem_append.mp z with z | z
    · have := dg_fig _ _ z; omega
    · simp only [List.mem_cons, List.not_mem_nil, or_false] at z
      omega
/-- the third word of an entry's text -/
def IsTh (k : Ek) (x : Int) (z : Str) : Prop := (k = .still → IsDt x z) ∧ (k ≠ .still → z = shC x)
theorem IsTh.uniq {k : Ek} {n : Int} {a b : Str} (h : IsTh k n a) (g : IsTh k n b) : a = b := by
  by_cases e : k = .still
  · exact (h.1 e).uniq (g.1 e)
  · rw [h.2 e, g.2 e]
theorem IsTh.free {k : Ek} {n : Int} {a : Str} (h : IsTh k n a) (h1 : k = .still → 0 ≤ n ∧ n ≤ 999999) : 32 ∉ a.cps.toList := by
  by_cases e : k = .still
  · exact (h.1 e).free (h1 e).1 (h1 e).2
  · rw [h.2 e]; exact shC_free n
theorem IsTh.len {k : Ek} {n : Int} {a : Str} (h : IsTh k n a) (h1 : k = .still → 0 ≤ n ∧ n ≤ 999999) (h2 : n.natAbs < 10 ^ 20) : a.length ≤ 30 := by
  by_cases e : k = .still
  · have := (h.1 e).len (h1 e).1 (h1 e).2; omega
  · rw [h.2 e]
    have := shC_len (n := n) (k := 19) (by omega)
    omega
def partsE (k : Ek) (a b : Str) : List Str := match k with | .turn => ["turn", a] | _ => [k.word, a, b]
def lineE (k : Ek) (a b : Str) : Str := match k with | .turn => ("turn" : Str) ++ (" " : Str) ++ a | _ => k.word ++ (" " : Str) ++ a ++ (" " : Str) ++ b
theorem line_uniq {k : Ek} {d x : Int} {a b a' b' : Str} (h1 : IsDt d a) (h2 : k ≠ .turn → IsTh k x b) (h3 : IsDt d a') (h4 : k ≠ .turn → IsTh k x b') : lineE k a b = lineE k a' b' := by
  rw [h1.uniq h3]
  by_cases e : k = .turn
  · subst e; rfl
  · rw [(h2 e).uniq (h4 e)]
theorem join_line (k : Ek) (a b : Str) : Txt.join (Str.ofString " ") (partsE k a b) = lineE k a b := by
  cases k <;> (unfold partsE lineE Txt.join; rfl)
theorem sp_list : (" " : Str) = ⟨#[32]⟩ := by decide +kernel
theorem word_free (k : Ek) : 32 ∉ k.word.cps.toList := by cases k <;> decide +kernel
theorem word_len (k : Ek) : k.word.length ≤ 5 := by cases k <;> decide +kernel
theorem line_list (k : Ek) (a b : Str) : (lineE k a b).cps.toList = jn 32 ((partsE k a b).map fun p => p.cps.toList) := by
  have s : (" " : Str).cps.toList = [32] := by rw [sp_list]
  cases k <;> (unfold lineE partsE; simp only [cps_app, s, List.map_cons, List.map_nil, jn, List.append_assoc, List.cons_append, List.nil_append])
theorem split_line {k : Ek} {a b : Str} (ha : 32 ∉ a.cps.toList) (hb : k ≠ .turn → 32 ∉ b.cps.toList) : Txt.split (lineE k a b) (Str.ofString " ") = partsE k a b := by
  have e : (Txt.split (lineE k a b) ⟨#[32]⟩).map (fun p => p.cps.toList) = (partsE k a b).map fun p => p.cps.toList := by
    refine jn_inj (c := 32) (by simpa using split_ne 32 _) (by cases k <;> simp [partsE]) ?_ ?_ ?_
    · intro p hp
      obtain ⟨q, hq, rfl⟩ := List.mem_map.mp hp
      exact PySem.StrLaws.split_free _ 32 q hq
    · intro p hp
      obtain ⟨q, hq, rfl⟩ := List.mem_map.mp hp
      by_cases ek : k = .turn
      · subst ek
        simp only [partsE, List.mem_cons, List.not_mem_nil, or_false] at hq
        rcases hq with rfl | rfl
        · exact word_free .turn
        · exact ha
      · have hp' : partsE k a b = [k.word, a, b] := by cases k <;> first | rfl | exact absurd rfl ek
        rw [hp'] at hq
        simp only [List.mem_cons, List.not_mem_nil, or_false] at hq
        rcases hq with rfl | rfl | rfl
        · exact word_free k
        · exact ha
        · exact hb ek
    · rw [split_jn, line_list]
  have e' : Str.ofString " " = ⟨#[32]⟩ := sp_list
  rw [e']
  exact List.map_inj_right (fun x y h => str_ext h) |>.mp e
theorem line_len {k : Ek} {a b : Str} (ha : a.length ≤ 30) (hb : k ≠ .turn → b.length ≤ 30) : (lineE k a b).length ≤ 80 := by
  have l1 : (" " : Str).length = 1 := by rw [sp_list]; rfl
  have lw := word_len k
  by_cases ek : k = .turn
  · subst ek
    have e : (lineE .turn a b).length = (Ek.word .turn).length + 1 + a.length := by
      show (((Ek.word .turn) ++ (" " : Str)) ++ a).length = _
      rw [Str.length_append, Str.length_append, l1]
    omega
  · have e : (lineE k a b).length = k.word.length + 1 + a.length + 1 + b.length := by
      have z : lineE k a b = k.word ++ (" " : Str) ++ a ++ (" " : Str) ++ b := by cases k <;> first | rfl | exact absurd rfl ek
      rw [z, Str.length_append, Str.length_append, Str.length_append, Str.length_append, l1]
    have := hb ek
    omega
theorem in_two {w a b : Str} : inV (.str w) [.str a, .str b] = decide (w = a ∨ w = b) := by
  show ((a == w) || ((b == w) || false)) = _
  rw [Bool.eq_iff_iff]
  simp only [Bool.or_eq_true, beq_iff_eq, Bool.false_eq_true, or_false, decide_eq_true_eq]
  exact ⟨fun h => h.imp Eq.symm Eq.symm, fun h => h.imp Eq.symm Eq.symm⟩
end L2
/-! sums by keys; no Python -/
namespace Sby
open L2
end Sby
/-! entries and rows by what they are; no Python -/
namespace L2
open PySem
end L2
namespace L2
open PySem
theorem at_two {a b : Int} {r : Int} (h0 : 0 ≤ r) (h1 : r < 2) : ∃ m, atI [V.int a, .int b] r = some (.int m) ∧ (m = a ∨ m = b) := by
  have : r = ((0 : Nat) : Int) ∨ r = ((1 : Nat) : Int) := by omega
  rcases this with rfl | rfl
  · exact ⟨a, atI_nat rfl, .inl rfl⟩
  · exact ⟨b, atI_nat rfl, .inr rfl⟩
end L2
namespace L2
open PySem
theorem at_three {a b c : Int} {r : Int} (h0 : 0 ≤ r) (h1 : r < 3) : ∃ m, atI [V.int a, .int b, .int c] r = some (.int m) ∧ (m = a ∨ m = b ∨ m = c) := by
  have : r = ((0 : Nat) : Int) ∨ r = ((1 : Nat) : Int) ∨ r = ((2 : Nat) : Int) := by omega
  rcases this with rfl | rfl | rfl
  · exact ⟨a, atI_nat rfl, .inl rfl⟩
  · exact ⟨b, atI_nat rfl, .inr (.inl rfl)⟩
  · exact ⟨c, atI_nat rfl, .inr (.inr rfl)⟩
end L2
namespace L2
open PySem
end L2
namespace L2
open PySem
end L2
namespace L2
open PySem
theorem LL.of {α : Type} {R : V → α → Prop} : ∀ {vs : List V} {es : List α}, vs.length = es.length → (∀ (j : Nat) v, vs[j]? = some v → ∃ e, es[j]? = some e ∧ R v e) → LL R vs es
  | [], [], _, _ => .nil
  | [], _ :: _, h, _ => by simp at h
  | _ :: _, [], h, _ => by simp at h
  | v :: vs, e :: es, h, p => by
    obtain ⟨e', he, hr⟩ := p 0 v rfl
    cases he
    exact .cons hr (LL.of (by simpa using h) fun j w hw => p (j + 1) w hw)
end L2
/-! Spans of days: what joined lists are, and how the least one is told by the days on which a span begins or ends. No Python here. -/
namespace Spans
abbrev Sp := List (Int × Int)
/-! ### the least list, by the days on which a span begins or ends -/
def isIn (l : Sp) (d : Int) : Bool := l.any fun s => decide (s.1 ≤ d) && decide (d < s.2)
/-- one edge: what was found so far, and the day from which on all is covered -/
def step (l : Sp) (st : Sp × Int) (e : Int) : Sp × Int :=
  let f := if isIn l e && !isIn l (e - 1) then e else st.2
  (if isIn l e then st.1 else st.1 ++ [(f, e)], f)
def least (l : Sp) (es : List Int) : Sp := (es.foldl (step l) ([], 0)).1
end Spans
/-! Sums over days, and the value that holds on a day. No Python here. -/
namespace Sums
/-- f over the days from a on that are below b -/
def S (f : Int → Int) (a : Int) : Nat → Int
  | 0 => 0
  | n + 1 => S f a n + f (a + n)
def sum (f : Int → Int) (a b : Int) : Int := S f a (b - a).toNat
end Sums
/-! Days that stand still, told by joined spans and by the spans as they were drawn; values between breaks. No Python here. -/
namespace Stills
open Spans Sums
/-! ### how many days stand still -/
def ind (l : Sp) (d : Int) : Int := if isIn l d then 1 else 0
def many (l : Sp) (a b : Int) : Int := sum (ind l) a b
def part (a b : Int) (s : Int × Int) : Int := if (if b < s.2 then b else s.2) - (if a > s.1 then a else s.1) > 0 then (if b < s.2 then b else s.2) - (if a > s.1 then a else s.1) else 0
end Stills
namespace Stills
open Spans Sums
end Stills
namespace Stills
open Spans Sums
end Stills
namespace Stills
open Spans Sums
end Stills
namespace Stills
open Spans Sums
end Stills
namespace Stills
open Spans Sums
end Stills
namespace Stills
end Stills
namespace Stills
open Spans Sums
end Stills
namespace Stills
open Spans Sums
end Stills
namespace Stills
end Stills
namespace Stills
open Spans Sums
end Stills
/-! the dict of a list of pairs, and its table -/
namespace Dct
open L2
end Dct
/-! a book: the fields of its instance, and what the arrears reckon of rows -/
namespace L2
open PySem
theorem comp_map {α : Type} {J : It} {ix : List Nat} {te : TE} {σ : St} {l : Addr} {xs : List V} {H : Hp} {R : Hp → Prop} (Y : WalkOf J H xs) (hl : H l = none) (hz : xs.length ≤ sizeLine) (es : List α) (len : es.length = xs.length)
    (P : Hp → V → α → Prop) (mono : ∀ v e H1 H2, Same H1 H2 → P H1 v e → P H2 v e) (put : ∀ v e H1 ys zs, H1 l = some (.lst ys) → P H1 v e → P (upd H1 l (.lst zs)) v e)
    (he : ∀ (i : Nat) x e H' Q', xs[i]? = some x → es[i]? = some e → Same H H' → (∀ v H2, Same H' H2 → P H2 v e → Q' v H2) → te (some x :: capts σ ix) H' Q')
    (fin : ∀ ys H', Same H H' → H' l = some (.lst ys) → LL (P H') ys es → R H') :
    ∃ W : Nat → Nat → List V → Hp → Prop, (∃ m, W 0 m [] (upd H l (.lst []))) ∧ Turns ix te σ J l R W := by
  refine comp_any Y hl hz (fun i v H' => ∃ e, es[i]? = some e ∧ P H' v e) (fun i v H1 H2 s ⟨e, e1, e2⟩ => ⟨e, e1, mono v e _ _ s e2⟩) (fun i v H1 ys zs hL ⟨e, e1, e2⟩ => ⟨e, e1, put v e _ _ _ hL e2⟩) ?_ ?_
  · intro i x H' Q' hx sH hq
    have il : i < es.length := by rw [len]; exact (List.getElem?_eq_some_iff.mp hx).1
    have eP : es[i]? = some (es[i]'il) := List.getElem?_eq_getElem il
    exact he i x _ H' Q' hx eP sH fun v H2 s2 pv => hq v H2 s2 ⟨_, eP, pv⟩
  · intro ys H' sH eL yl hp
    exact fin ys H' sH eL (LL.of (by omega) hp)
/-! rows of three, and the days of the flags -/
def row3 (k : Ek) (d x : Int) : List V := [.str k.word, .int d, .int x]
end L2
namespace L2
open PySem PySem.Spec PyProof.Rows
section
variable {X : Cx} {pins : List (Addr × Obj)} {σ : St} {H : Hp} {s : Shared} {o i e f value : Expr} {pos pos' apos cpos : Pos} {td ty tx tv : TE}
end
section
variable {prog : Program} {w : World} {A : Around} {s : Shared} {R : Result → Shared → Prop}
end
section
variable {X : Cx} {pins : List (Addr × Obj)} {σ : St} {H : Hp} {s : Shared}
end
section
variable {X : Cx} {o e f : Expr} {apos cpos : Pos} {td ty tx : TE}
end
section
variable {X : Cx} {e k : Expr} {te : TE} {p2 pos : Pos} {lo hi : Option Expr} {tl th : TO}
end
end L2
/-! ### a written dict of four texts and whole numbers, asked for a text -/
namespace L2
open PySem PySem.Spec PyProof.Rows
section
variable {M : Model} {A : Around} {E : Value → Shared → Prop} {s : Shared}
end
section
variable {X : Cx} {pos : Pos}
end
end L2
namespace L2
open PySem PySem.Spec PyProof.Rows
section
variable {X : Cx} {pins : List (Addr × Obj)} {σ : St} {H : Hp} {s : Shared} {sc : Scope} {x y0 : Str} {ix : List Nat} {fp : List Addr} {elt iter c : Expr} {te : TE} {tt : TT} {wi : TI} {px py0 pt0 pos : Pos} {kt0 : Nat}
end
end L2
/-! the reading, step by step -/
theorem L2.us1 {α : Type} {P : List α → Prop} (h : ∀ a, P [a]) : ∀ us : List α, us.length = 1 → P us
  | [a], _ => h a
theorem L2.us2 {α : Type} {P : List α → Prop} (h : ∀ a b, P [a, b]) : ∀ us : List α, us.length = 2 → P us
  | [a, b], _ => h a b
theorem L2.us3 {α : Type} {P : List α → Prop} (h : ∀ a b c, P [a, b, c]) : ∀ us : List α, us.length = 3 → P us
  | [a, b, c], _ => h a b c
theorem L2.us4 {α : Type} {P : List α → Prop} (h : ∀ a b c d, P [a, b, c, d]) : ∀ us : List α, us.length = 4 → P us
  | [a, b, c, d], _ => h a b c d
theorem L2.us5 {α : Type} {P : List α → Prop} (h : ∀ a b c d e, P [a, b, c, d, e]) : ∀ us : List α, us.length = 5 → P us
  | [a, b, c, d, e], _ => h a b c d e
theorem L2.qb {Q : L2.VK} {H : L2.Hp} {a b : Bool} (h : Q (.bl a) H) (e : a = b) : Q (.bl b) H := e ▸ h
theorem L2.qi {Q : L2.VK} {H : L2.Hp} {a b : Int} (h : Q (.int a) H) (e : a = b) : Q (.int b) H := e ▸ h
local macro_rules | `(tactic| walk_at "cap") => `(tactic| repeat (first | exact trivial | refine ⟨⟨by first | exact Or.inl rfl | exact Or.inr rfl, by first | exact Or.inl rfl | exact Or.inr rfl, rfl⟩, ?_⟩))
local macro_rules | `(tactic| walk_at "sub") => `(tactic| repeat (first | exact trivial | refine ⟨rfl, ?_⟩))
local macro_rules | `(tactic| walk_at "has") => `(tactic| repeat (first | exact trivial | refine ⟨fun _ => ⟨_, rfl⟩, ?_⟩ | refine ⟨(fun z => by (rcases z with z | z <;> first | cases (show PySem.NameKind.local = PySem.NameKind.cell from z) | cases (show PySem.NameKind.local = PySem.NameKind.free from z) | cases (show PySem.NameKind.globalImplicit = PySem.NameKind.cell from z) | cases (show PySem.NameKind.globalImplicit = PySem.NameKind.free from z))), ?_⟩))
local macro_rules | `(tactic| walk_at "rd1") => `(tactic| first
  | with_reducible refine L2.iteT ?_
  | with_reducible refine L2.iteF ?_
  | refine ⟨_, rfl, ?_⟩
  | refine ⟨_, _, rfl, rfl, ?_⟩
  | refine ⟨_, _, rfl, ?_⟩
  | refine ⟨_, _, _, rfl, ?_⟩
  | refine ⟨rfl, ?_⟩
  | refine ⟨(⟨by decide, by decide⟩ : L2.CDiv _ _), ?_⟩
  | refine ⟨(show (0 : Int) < _ by first | decide | omega), ?_⟩
  | refine ⟨(⟨by decide, by decide, by decide⟩ : L2.CPow _ _), ?_⟩
  | refine ⟨(Or.inl ⟨by first | decide | omega, by first | decide | omega⟩ : L2.CMul _ _), ?_⟩
  | refine ⟨(Or.inr ⟨by first | decide | omega, by first | decide | omega⟩ : L2.CMul _ _), ?_⟩
  | refine ⟨_, _, rfl, .inl (by assumption), ?_⟩
  | refine ⟨_, _, _, _, rfl, rfl, L2.SqT.of (by assumption), rfl, ?_⟩
  | (refine ⟨_, _, _, _, rfl, (by assumption), (by first | omega | decide), (by first | omega | decide), (by first | omega | decide), ?_⟩; intro r' r0' r1')
  | (refine ⟨_, _, _, rfl, (by assumption), (by omega), (by omega), ?_⟩; intro r' r0' r1')
  | refine And.intro (by omega) ?_
  | refine And.intro (Nat.le_of_ble_eq_true rfl) ?_
  | with_reducible refine L2.iteNF ?_
  | with_reducible refine L2.iteNT ?_
  | with_reducible refine L2.ifI (fun _ => ?_) (fun _ => ?_)
  | with_reducible refine L2.ifNI (fun _ => ?_) (fun _ => ?_)
  | with_reducible refine L2.ifD (fun _ => ?_) (fun _ => ?_)
  | with_reducible refine L2.ifND (fun _ => ?_) (fun _ => ?_))
local macro_rules | `(tactic| walk_at "rd") => `(tactic| repeat' walk_at "rd1")
seal L2.PSs L2.PS L2.PE L2.PT L2.PA L2.PI L2.PG L2.PGs L2.PW L2.PC L2.PO
local macro_rules | `(tactic| walk_at "rd1") => `(tactic| first
  | with_reducible refine L2.ifST ?_
  | with_reducible refine L2.ifSF (by decide) ?_
  | with_reducible refine L2.ifSNT ?_
  | with_reducible refine L2.ifSNF (by decide) ?_
  | ((with_reducible refine And.intro (a := L2.CDivW _ _) ?_ ?_); (exact ⟨by first | decide | omega, by first | decide | omega⟩))
  | fail)
local macro_rules | `(tactic| walk_at "rd1") => `(tactic| ((with_reducible refine L2.sqG ?_); (first | (with_reducible refine L2.sqN10 ?_) | (with_reducible refine L2.sqN9 ?_) | (with_reducible refine L2.sqN8 ?_) | (with_reducible refine L2.sqN7 ?_) | (with_reducible refine L2.sqN6 ?_) | (with_reducible refine L2.sqN5 ?_) | (with_reducible refine L2.sqN4 ?_) | (with_reducible refine L2.sqN3 ?_) | (with_reducible refine L2.sqN2 ?_)); intros))
local macro_rules | `(tactic| walk_at "s1") => `(tactic| first | exact L2.us1 (fun _ => rfl) | exact L2.us2 (fun _ _ => rfl) | exact L2.us3 (fun _ _ _ => rfl) | exact L2.us4 (fun _ _ _ _ => rfl) | exact L2.us5 (fun _ _ _ _ _ => rfl) | k_is | rfl)
namespace My
open PySem L2
def top (i : Nat) : Stmt := PySem.Challenge.pw_loanroll_k93_entries_in_words.main.body.getD i (.Pass ⟨0, 0, 0, 0⟩)
abbrev s_init_BadEntry : Stmt := inClass (top 4) 0
structure Txt (K : PySem.W.Frag) (mg : Str → Option Value) : Prop where
  n_abs : mg "abs" = none
  n_all : mg "all" = none
  n_bool : mg "bool" = none
  n_int : mg "int" = none
  n_isinstance : mg "isinstance" = none
  n_len : mg "len" = none
  n_list : mg "list" = none
  n_max : mg "max" = none
  n_min : mg "min" = none
  n_range : mg "range" = none
  n_reversed : mg "reversed" = none
  n_str : mg "str" = none
  n_sum : mg "sum" = none
  n_tuple : mg "tuple" = none
  m_BadEntry : mg "BadEntry" = some (.ref (cA K "BadEntry"))
  m_Due : mg "Due" = some (.ref (cA K "Due"))
  m_Entry : mg "Entry" = some (.ref (cA K "Entry"))
  m_Fee : mg "Fee" = some (.ref (cA K "Fee"))
  m_Late : mg "Late" = some (.ref (cA K "Late"))
  m_LoanError : mg "LoanError" = some (.ref (cA K "LoanError"))
  m_NoDay : mg "NoDay" = some (.ref (cA K "NoDay"))
  m_NoText : mg "NoText" = some (.ref (cA K "NoText"))
  m_Out : mg "Out" = some (.ref (cA K "Out"))
  m_Pay : mg "Pay" = some (.ref (cA K "Pay"))
  m_Rate : mg "Rate" = some (.ref (cA K "Rate"))
  m_Still : mg "Still" = some (.ref (cA K "Still"))
  m_Turn : mg "Turn" = some (.ref (cA K "Turn"))
  clE : ∀ k : Ek, Cls K (cA K k.cls)
  naE_amount : ∀ k : Ek, NoAttr K (cA K k.cls) "amount"
  naE_day : ∀ k : Ek, NoAttr K (cA K k.cls) "day"
  naE_rate : ∀ k : Ek, NoAttr K (cA K k.cls) "rate"
  naE_until : ∀ k : Ek, NoAttr K (cA K k.cls) "until"
  mi_Due : MkI K (cA K "Due")
  mi_Fee : MkI K (cA K "Fee")
  mi_Late : MkI K (cA K "Late")
  mi_Out : MkI K (cA K "Out")
  mi_Pay : MkI K (cA K "Pay")
  mi_Rate : MkI K (cA K "Rate")
  mi_Still : MkI K (cA K "Still")
  mi_Turn : MkI K (cA K "Turn")
  x_NoDay : XK2 K (cA K "NoDay")
  x_NoText : XK2 K (cA K "NoText")
  i_BadEntry : InitS K (cA K "BadEntry") "__init__" "BadEntry.__init__" s_init_BadEntry ["self", "place"]
  p_BadEntry_place : PySem.W.findIn K (.ref (cA K "BadEntry")) "place" = some none
  e_NoDay_NoDay : PySem.W.exmOne K (.ref (cA K "NoDay")) (.ref (cA K "NoDay")) = some true
  e_BadEntry_BadEntry : PySem.W.exmOne K (.ref (cA K "BadEntry")) (.ref (cA K "BadEntry")) = some true
  e_NoText_NoText : PySem.W.exmOne K (.ref (cA K "NoText")) (.ref (cA K "NoText")) = some true
  z_NoText : XK1 K (cA K "NoText")
  k_NoText_LoanError : PySem.W.kitOne K (.ref (cA K "NoText")) (.ref (cA K "LoanError")) = some true
  k_NoText_BadEntry : PySem.W.kitOne K (.ref (cA K "NoText")) (.ref (cA K "BadEntry")) = some false
  g_FIGURES : ∃ t, mg "FIGURES" = some (.str "0123456789" t)
  g_FIRST_YEAR : ∃ t, mg "FIRST_YEAR" = some (.int 2000 t)
  g_LAST_DAY : ∃ t, mg "LAST_DAY" = some (.int 999999 t)
  g_LENGTHS : ∃ a, mg "LENGTHS" = some (.ref a) ∧ ∀ H, SqT K H a [.int 31, .int 28, .int 31, .int 30, .int 31, .int 30, .int 31, .int 31, .int 30, .int 31, .int 30, .int 31]
  g_MOST_AMOUNT : ∃ t, mg "MOST_AMOUNT" = some (.int 1000000000000 t)
  g_MOST_FIGURES : ∃ t, mg "MOST_FIGURES" = some (.int 30 t)
  g_MOST_RATE : ∃ t, mg "MOST_RATE" = some (.int 1000000 t)
  g_PART : ∃ t, mg "PART" = some (.int 1000000000000000000 t)
  g_PART_FIGURES : ∃ t, mg "PART_FIGURES" = some (.int 18 t)
  g_ROUND_DAYS : ∃ t, mg "ROUND_DAYS" = some (.int 146097 t)
  g_ROUND_YEARS : ∃ t, mg "ROUND_YEARS" = some (.int 400 t)
  g_WORDS : ∃ a, mg "WORDS" = some (.ref a) ∧ ∀ H, SqT K H a [.str "out", .str "fee", .str "turn", .str "pay", .str "due", .str "rate", .str "late", .str "still"]
abbrev s_is_whole : Stmt := top 11
abbrev s_is_leap : Stmt := top 13
abbrev s_new_year : Stmt := top 16
abbrev s_Entry_init : Stmt := inClass (top 24) 0
abbrev s_Entry_word : Stmt := inClass (top 24) 1
abbrev s_Out_word : Stmt := inClass (top 27) 0
abbrev s_Fee_word : Stmt := inClass (top 28) 0
abbrev s_Pay_word : Stmt := inClass (top 29) 0
abbrev s_Due_word : Stmt := inClass (top 30) 0
abbrev s_Turn_word : Stmt := inClass (top 31) 0
abbrev s_Rate_word : Stmt := inClass (top 32) 0
abbrev s_Late_word : Stmt := inClass (top 33) 0
abbrev s_Still_word : Stmt := inClass (top 34) 1
abbrev s_has_form : Stmt := top 35
abbrev s_check_text : Stmt := top 45
abbrev s_are_figures : Stmt := top 46
abbrev s_show_whole : Stmt := top 52
abbrev s_two_figures : Stmt := top 53
abbrev s__law_cell_at : Stmt := top 62
abbrev s__law_draws : Stmt := top 63
abbrev s__law_leap : Stmt := top 64
abbrev s__law_two : Stmt := top 67
abbrev s__law_value : Stmt := top 71
abbrev s__law_plain : Stmt := top 75
abbrev s_is_day : Stmt := top 12
abbrev s_month_days : Stmt := top 14
abbrev s_year_of : Stmt := top 17
abbrev s_Entry_row : Stmt := inClass (top 24) 2
abbrev s_AmountEntry_init : Stmt := inClass (top 25) 0
abbrev s_AmountEntry_row : Stmt := inClass (top 25) 1
abbrev s_RateEntry_init : Stmt := inClass (top 26) 0
abbrev s_RateEntry_row : Stmt := inClass (top 26) 1
abbrev s_Still_init : Stmt := inClass (top 34) 0
abbrev s_Still_row : Stmt := inClass (top 34) 2
abbrev s_is_within : Stmt := top 36
abbrev s_read_whole : Stmt := top 47
abbrev s_show_cents : Stmt := top 54
abbrev s__law_month_size : Stmt := top 65
abbrev s__law_shown : Stmt := top 69
abbrev s__law_row : Stmt := top 72
abbrev s_is_date : Stmt := top 15
abbrev s_date_of : Stmt := top 19
abbrev s_is_third : Stmt := top 37
abbrev s_read_coins : Stmt := top 48
abbrev s_show_rate : Stmt := top 55
abbrev s__law_date : Stmt := top 66
abbrev s__law_drawn : Stmt := top 74
abbrev s_day_of : Stmt := top 18
abbrev s_made : Stmt := top 38
abbrev s_read_cents : Stmt := top 49
abbrev s_show_date : Stmt := top 56
abbrev s__law_written : Stmt := top 68
abbrev s__law_made : Stmt := top 73
abbrev s_entry_of : Stmt := top 39
abbrev s_read_rate : Stmt := top 50
abbrev s_read_date : Stmt := top 51
abbrev s_show_third : Stmt := top 58
abbrev s__law_text : Stmt := top 70
abbrev s__law_tail : Stmt := top 77
abbrev s_read_third : Stmt := top 57
abbrev s_show_entry : Stmt := top 60
abbrev s__law_bent : Stmt := top 78
abbrev s_read_entry : Stmt := top 59
abbrev s__law_read : Stmt := top 76
abbrev s_law : Stmt := top 79
section
variable {P : Program} {w : World} {K : PySem.W.Frag} {mg : Str → Option Value} {base : Heap}
theorem sc_init_BadEntry : FnScope ["self", "place"] ["self", "place"] (defScope s_init_BadEntry) := ⟨rfl, rfl, rfl, by decide +kernel, rfl, by decide +kernel, by decide +kernel⟩
theorem d_init_BadEntry (T : Txt K mg) : InitX P w K mg base 1 (cA K "BadEntry") "place" := by
  obtain ⟨f, fd, F, Z, hb⟩ := T.i_BadEntry.ex
  refine ⟨f, fd, ["self", "place"], F.ok sc_init_BadEntry (fun vs H Q E h => ?_) (fun cdv A outer s H vs Q E hr h => ?_), Z, rfl, hb⟩
  · obtain ⟨e, v, rfl, he, q⟩ := h
    rfl
  obtain ⟨e, v, rfl, he, q⟩ := h
  refine ⟨_, pss_one (ps_xfld Z T.p_BadEntry_place (pv 0) (pv 1)), ?_⟩
  exact ⟨_, rfl, _, rfl, e, rfl, he, fun d hd hn => q d hd hn⟩
--@ is_whole
def sp_is_whole (K : PySem.W.Frag) : Sp := fun vs H Q _ => ∃ x T, vs = [x] ∧ IsKind K H x T ∧ Q (.bl (decide (T = "int"))) H
theorem sc_is_whole : FnScope ["thing"] ["thing"] (defScope s_is_whole) := ⟨rfl, rfl, rfl, by decide +kernel, rfl, by decide +kernel, by decide +kernel⟩
theorem d_is_whole (S : Src K mg "is_whole" s_is_whole ["thing"]) (T : Txt K mg)  : Def P w K mg base 1 "is_whole" ["thing"] (sp_is_whole K) := by
  refine S.ok sc_is_whole (fun vs H Q E h => ?_) (fun f cdv A outer s H vs Q E hr h => ?_)
  · obtain ⟨x, Tk, rfl, hk, h⟩ := h
    rfl
  obtain ⟨x, Tk, rfl, hk, h⟩ := h
  refine ⟨_, (pss_one (ps_ret (pe_and (pe_callB call_isinst rfl T.n_isinstance PyProof.Rows.boot_isinstance (pa_cons (pv 0) (pa_cons (pe_bltn (v := .ty "int") rfl T.n_int PyProof.Rows.boot_int rfl) pa_nil))) (pe_one (pe_not (pe_callB call_isinst rfl T.n_isinstance PyProof.Rows.boot_isinstance (pa_cons (pv 0) (pa_cons (pe_bltn (v := .ty "bool") rfl T.n_bool PyProof.Rows.boot_bool rfl) pa_nil)))))))), ?_⟩
  walk_at "rd"
  refine ⟨_, _, _, _, rfl, hk.1, kit_int hk.2, ?_⟩
  walk_at "rd"
  · refine ⟨_, _, _, _, rfl, hk.1, kit_bool hk.2, ?_⟩
    walk_at "rd"
    rename_i z
    exact qb h (by rcases z with rfl | rfl <;> decide)
  · rename_i z
    exact qb h (decide_eq_false fun q => z (.inl q))
--@ is_leap
def sp_is_leap (K : PySem.W.Frag) : Sp := fun vs H Q _ => ∃ y, vs = [.int y] ∧ Q (.bl (Cal.leap y)) H
theorem sc_is_leap : FnScope ["year"] ["year"] (defScope s_is_leap) := ⟨rfl, rfl, rfl, by decide +kernel, rfl, by decide +kernel, by decide +kernel⟩
theorem d_is_leap (S : Src K mg "is_leap" s_is_leap ["year"]) (T : Txt K mg)  : Def P w K mg base 1 "is_leap" ["year"] (sp_is_leap K) := by
  refine S.ok sc_is_leap (fun vs H Q E h => ?_) (fun f cdv A outer s H vs Q E hr h => ?_)
  · obtain ⟨y, rfl, h⟩ := h
    rfl
  obtain ⟨y, rfl, h⟩ := h
  refine ⟨_, (pss_one (ps_ret (pe_and (pe_cmpR op_eq (pe_op op_mod (pv 0) pe_int) pe_int (nomark _)) (pe_one (pe_or (pe_cmpR op_ne (pe_op op_mod (pv 0) pe_int) pe_int (nomark _)) (pe_one (pe_cmpR op_eq (pe_op op_mod (pv 0) pe_int) pe_int (nomark _)))))))), ?_⟩
  walk_at "rd"
  all_goals exact qb h (by simp [Cal.leap, dI, *])
--@ new_year
def sp_new_year (K : PySem.W.Frag) : Sp := fun vs H Q _ => ∃ y, vs = [.int y] ∧ Q (.int (Cal.ny y)) H
theorem sc_new_year : FnScope ["year", "years", "leaps"] ["year"] (defScope s_new_year) := ⟨rfl, rfl, rfl, by decide +kernel, rfl, by decide +kernel, by decide +kernel⟩
theorem d_new_year (S : Src K mg "new_year" s_new_year ["year"]) (T : Txt K mg)  : Def P w K mg base 1 "new_year" ["year"] (sp_new_year K) := by
  refine S.ok sc_new_year (fun vs H Q E h => ?_) (fun f cdv A outer s H vs Q E hr h => ?_)
  · obtain ⟨y, rfl, h⟩ := h
    rfl
  obtain ⟨y, rfl, h⟩ := h
  refine ⟨_, (pss_consN (ps_set (i := 1) sc_new_year.nd rfl (by first | exact Or.inl rfl | exact Or.inr rfl) (pe_op op_sub (pv 0) (pe_gint T.g_FIRST_YEAR)))
      (pss_consN (ps_set (i := 2) sc_new_year.nd rfl (by first | exact Or.inl rfl | exact Or.inr rfl) (pe_op op_add (pe_op op_sub (pe_op op_fdiv (pe_op op_add (pv 1) pe_int) pe_int) (pe_op op_fdiv (pe_op op_add (pv 1) pe_int) pe_int)) (pe_op op_fdiv (pe_op op_add (pv 1) pe_int) pe_int)))
      (pss_one (ps_ret (pe_op op_add (pe_op op_mul pe_int (pv 1)) (pv 2)))))), ?_⟩
  walk_at "rd"
  all_goals exact qi h (by unfold Cal.ny; omega)
--@ Entry_init
def sp_Entry_init (K : PySem.W.Frag) : Sp := fun vs H Q _ => L2.Ee5 fun p C dx (fs : List (Str × V)) d => L2.Aa6 (vs = [.ref p, .int d]) (H p = some (.ins C dx fs)) (Cls K C) (NoAttr K C "day") (fs.length < 1000) (Q .non (upd H p (.ins C dx (putF "day" (.int d) fs))))
theorem sc_Entry_init : FnScope ["self", "day"] ["self", "day"] (defScope s_Entry_init) := ⟨rfl, rfl, rfl, by decide +kernel, rfl, by decide +kernel, by decide +kernel⟩
theorem d_Entry_init (x : Str) (S : MethS K (cA K x) "__init__" "Entry.__init__" s_Entry_init ["self", "day"]) (T : Txt K mg)  : DefM P w K mg base 1 (cA K x) "__init__" ["self", "day"] (sp_Entry_init K) := by

  refine S.ok sc_Entry_init (fun vs H Q E h => ?_) (fun f cdv A outer s H vs Q E hr h => ?_)
  · obtain ⟨p, C, dx, fs, d, rfl, e, hc, hn, hl, h⟩ := h
    rfl
  obtain ⟨p, C, dx, fs, d, rfl, e, hc, hn, hl, h⟩ := h
  refine ⟨_, (pss_one (ps_fld (pv 0) (pv 1) rfl)), ?_⟩
  walk_at "rd"
  refine ⟨p, C, dx, fs, rfl, e, hc, hn, hl, ?_⟩
  exact h
theorem dU_Entry_init (S : UnbS K (cA K "Entry") "__init__" "Entry.__init__" s_Entry_init ["self", "day"]) (T : Txt K mg)  : DefU P w K mg base 1 (cA K "Entry") "__init__" ["self", "day"] (sp_Entry_init K) := by

  refine S.ok sc_Entry_init (fun vs H Q E h => ?_) (fun f cdv A outer s H vs Q E hr h => ?_)
  · obtain ⟨p, C, dx, fs, d, rfl, e, hc, hn, hl, h⟩ := h
    rfl
  obtain ⟨p, C, dx, fs, d, rfl, e, hc, hn, hl, h⟩ := h
  refine ⟨_, (pss_one (ps_fld (pv 0) (pv 1) rfl)), ?_⟩
  walk_at "rd"
  refine ⟨p, C, dx, fs, rfl, e, hc, hn, hl, ?_⟩
  exact h
--@ Entry_word
def sp_e_word (k : Ek) (K : PySem.W.Frag) : Sp := fun vs H Q _ => ∃ a, vs = [.ref a] ∧ Q (.str k.word) H
theorem sc_Entry_word : FnScope ["self"] ["self"] (defScope s_Entry_word) := ⟨rfl, rfl, rfl, by decide +kernel, rfl, by decide +kernel, by decide +kernel⟩
theorem d_Entry_word (kd : Ek) (hk : kd = .base) (S : MethS K (cA K kd.cls) "word" "Entry.word" s_Entry_word ["self"]) (T : Txt K mg)  : DefM P w K mg base 1 (cA K kd.cls) "word" ["self"] (sp_e_word kd K) := by
  subst hk
  refine S.ok sc_Entry_word (fun vs H Q E h => ?_) (fun f cdv A outer s H vs Q E hr h => ?_)
  · obtain ⟨a, rfl, h⟩ := h
    rfl
  obtain ⟨a, rfl, h⟩ := h
  refine ⟨_, (pss_one (ps_ret pe_str)), ?_⟩
  walk_at "rd"
  exact h
--@ Out_word

theorem sc_Out_word : FnScope ["self"] ["self"] (defScope s_Out_word) := ⟨rfl, rfl, rfl, by decide +kernel, rfl, by decide +kernel, by decide +kernel⟩
theorem d_Out_word (kd : Ek) (hk : kd = .out) (S : MethS K (cA K kd.cls) "word" "Out.word" s_Out_word ["self"]) (T : Txt K mg)  : DefM P w K mg base 1 (cA K kd.cls) "word" ["self"] (sp_e_word kd K) := by
  subst hk
  refine S.ok sc_Out_word (fun vs H Q E h => ?_) (fun f cdv A outer s H vs Q E hr h => ?_)
  · obtain ⟨a, rfl, h⟩ := h
    rfl
  obtain ⟨a, rfl, h⟩ := h
  refine ⟨_, (pss_one (ps_ret pe_str)), ?_⟩
  walk_at "rd"
  exact h
--@ Fee_word

theorem sc_Fee_word : FnScope ["self"] ["self"] (defScope s_Fee_word) := ⟨rfl, rfl, rfl, by decide +kernel, rfl, by decide +kernel, by decide +kernel⟩
theorem d_Fee_word (kd : Ek) (hk : kd = .fee) (S : MethS K (cA K kd.cls) "word" "Fee.word" s_Fee_word ["self"]) (T : Txt K mg)  : DefM P w K mg base 1 (cA K kd.cls) "word" ["self"] (sp_e_word kd K) := by
  subst hk
  refine S.ok sc_Fee_word (fun vs H Q E h => ?_) (fun f cdv A outer s H vs Q E hr h => ?_)
  · obtain ⟨a, rfl, h⟩ := h
    rfl
  obtain ⟨a, rfl, h⟩ := h
  refine ⟨_, (pss_one (ps_ret pe_str)), ?_⟩
  walk_at "rd"
  exact h
--@ Pay_word

theorem sc_Pay_word : FnScope ["self"] ["self"] (defScope s_Pay_word) := ⟨rfl, rfl, rfl, by decide +kernel, rfl, by decide +kernel, by decide +kernel⟩
theorem d_Pay_word (kd : Ek) (hk : kd = .pay) (S : MethS K (cA K kd.cls) "word" "Pay.word" s_Pay_word ["self"]) (T : Txt K mg)  : DefM P w K mg base 1 (cA K kd.cls) "word" ["self"] (sp_e_word kd K) := by
  subst hk
  refine S.ok sc_Pay_word (fun vs H Q E h => ?_) (fun f cdv A outer s H vs Q E hr h => ?_)
  · obtain ⟨a, rfl, h⟩ := h
    rfl
  obtain ⟨a, rfl, h⟩ := h
  refine ⟨_, (pss_one (ps_ret pe_str)), ?_⟩
  walk_at "rd"
  exact h
--@ Due_word

theorem sc_Due_word : FnScope ["self"] ["self"] (defScope s_Due_word) := ⟨rfl, rfl, rfl, by decide +kernel, rfl, by decide +kernel, by decide +kernel⟩
theorem d_Due_word (kd : Ek) (hk : kd = .due) (S : MethS K (cA K kd.cls) "word" "Due.word" s_Due_word ["self"]) (T : Txt K mg)  : DefM P w K mg base 1 (cA K kd.cls) "word" ["self"] (sp_e_word kd K) := by
  subst hk
  refine S.ok sc_Due_word (fun vs H Q E h => ?_) (fun f cdv A outer s H vs Q E hr h => ?_)
  · obtain ⟨a, rfl, h⟩ := h
    rfl
  obtain ⟨a, rfl, h⟩ := h
  refine ⟨_, (pss_one (ps_ret pe_str)), ?_⟩
  walk_at "rd"
  exact h
--@ Turn_word

theorem sc_Turn_word : FnScope ["self"] ["self"] (defScope s_Turn_word) := ⟨rfl, rfl, rfl, by decide +kernel, rfl, by decide +kernel, by decide +kernel⟩
theorem d_Turn_word (kd : Ek) (hk : kd = .turn) (S : MethS K (cA K kd.cls) "word" "Turn.word" s_Turn_word ["self"]) (T : Txt K mg)  : DefM P w K mg base 1 (cA K kd.cls) "word" ["self"] (sp_e_word kd K) := by
  subst hk
  refine S.ok sc_Turn_word (fun vs H Q E h => ?_) (fun f cdv A outer s H vs Q E hr h => ?_)
  · obtain ⟨a, rfl, h⟩ := h
    rfl
  obtain ⟨a, rfl, h⟩ := h
  refine ⟨_, (pss_one (ps_ret pe_str)), ?_⟩
  walk_at "rd"
  exact h
--@ Rate_word

theorem sc_Rate_word : FnScope ["self"] ["self"] (defScope s_Rate_word) := ⟨rfl, rfl, rfl, by decide +kernel, rfl, by decide +kernel, by decide +kernel⟩
theorem d_Rate_word (kd : Ek) (hk : kd = .rate) (S : MethS K (cA K kd.cls) "word" "Rate.word" s_Rate_word ["self"]) (T : Txt K mg)  : DefM P w K mg base 1 (cA K kd.cls) "word" ["self"] (sp_e_word kd K) := by
  subst hk
  refine S.ok sc_Rate_word (fun vs H Q E h => ?_) (fun f cdv A outer s H vs Q E hr h => ?_)
  · obtain ⟨a, rfl, h⟩ := h
    rfl
  obtain ⟨a, rfl, h⟩ := h
  refine ⟨_, (pss_one (ps_ret pe_str)), ?_⟩
  walk_at "rd"
  exact h
--@ Late_word

theorem sc_Late_word : FnScope ["self"] ["self"] (defScope s_Late_word) := ⟨rfl, rfl, rfl, by decide +kernel, rfl, by decide +kernel, by decide +kernel⟩
theorem d_Late_word (kd : Ek) (hk : kd = .late) (S : MethS K (cA K kd.cls) "word" "Late.word" s_Late_word ["self"]) (T : Txt K mg)  : DefM P w K mg base 1 (cA K kd.cls) "word" ["self"] (sp_e_word kd K) := by
  subst hk
  refine S.ok sc_Late_word (fun vs H Q E h => ?_) (fun f cdv A outer s H vs Q E hr h => ?_)
  · obtain ⟨a, rfl, h⟩ := h
    rfl
  obtain ⟨a, rfl, h⟩ := h
  refine ⟨_, (pss_one (ps_ret pe_str)), ?_⟩
  walk_at "rd"
  exact h
--@ Still_word

theorem sc_Still_word : FnScope ["self"] ["self"] (defScope s_Still_word) := ⟨rfl, rfl, rfl, by decide +kernel, rfl, by decide +kernel, by decide +kernel⟩
theorem d_Still_word (kd : Ek) (hk : kd = .still) (S : MethS K (cA K kd.cls) "word" "Still.word" s_Still_word ["self"]) (T : Txt K mg)  : DefM P w K mg base 1 (cA K kd.cls) "word" ["self"] (sp_e_word kd K) := by
  subst hk
  refine S.ok sc_Still_word (fun vs H Q E h => ?_) (fun f cdv A outer s H vs Q E hr h => ?_)
  · obtain ⟨a, rfl, h⟩ := h
    rfl
  obtain ⟨a, rfl, h⟩ := h
  refine ⟨_, (pss_one (ps_ret pe_str)), ?_⟩
  walk_at "rd"
  exact h
--@ has_form
theorem at0 {v : V} {rest : List V} : atI (v :: rest) 0 = some v := (atI_nat (show (v :: rest)[0]? = some v from rfl) : atI (v :: rest) ((0 : Nat) : Int) = some v)
theorem at1 {v u : V} {rest : List V} : atI (v :: u :: rest) 1 = some u := (atI_nat (show (v :: u :: rest)[1]? = some u from rfl) : atI (v :: u :: rest) ((1 : Nat) : Int) = some u)
def FormT (H : Hp) (x : V) : Prop := ∃ r k rest, x = .ref r ∧ H r = some (.tup (.str (Ek.word k) :: rest)) ∧ k ≠ .base ∧ rest.length = lenE k
def sp_has_form (K : PySem.W.Frag) : Sp := fun vs H Q _ => ∃ x, vs = [x] ∧ ((Bad0 K H x ∧ Q (.bl false) H) ∨ (FormT H x ∧ Q (.bl true) H))
theorem sc_has_form : FnScope ["row", "word"] ["row"] (defScope s_has_form) := ⟨rfl, rfl, rfl, by decide +kernel, rfl, by decide +kernel, by decide +kernel⟩
theorem d_has_form (S : Src K mg "has_form" s_has_form ["row"]) (T : Txt K mg)  : Def P w K mg base 1 "has_form" ["row"] (sp_has_form K) := by
  refine S.ok sc_has_form (fun vs H Q E h => ?_) (fun f cdv A outer s H vs Q E hr h => ?_)
  · obtain ⟨x, rfl, hc⟩ := h
    rfl
  obtain ⟨x, rfl, hc⟩ := h
  refine ⟨_, (pss_consN (ps_if (PW.pt (pw_or (pt_not (pt_val (pe_callB call_isinst rfl T.n_isinstance PyProof.Rows.boot_isinstance (pa_cons (pv 0) (pa_cons (pe_bltn (v := .ty "tuple") rfl T.n_tuple PyProof.Rows.boot_tuple rfl) pa_nil))))) (pw_or1 (pt_cmpR op_eq (pe_callB call_len_seq rfl T.n_len PySem.boot_len (pa_cons (pv 0) pa_nil)) pe_int (nomark _)))))
      (pss_one (ps_ret pe_bl))
      pss_nil)
      (pss_consN (ps_set (i := 1) sc_has_form.nd rfl (by first | exact Or.inl rfl | exact Or.inr rfl) (pe_ix ix_tup (pv 0) pe_int (fun _ _ => rfl)))
      (pss_consN (ps_if (PW.pt (pw_or (pt_not (pt_val (pe_callB call_isinst rfl T.n_isinstance PyProof.Rows.boot_isinstance (pa_cons (pv 1) (pa_cons (pe_bltn (v := .ty "str") rfl T.n_str PyProof.Rows.boot_str rfl) pa_nil))))) (pw_or1 (pt_cmpR op_notIn_seq (pv 1) (pe_gtup T.g_WORDS) (by with_unfolding_all rfl)))))
      (pss_one (ps_ret pe_bl))
      pss_nil)
      (pss_one (ps_ret (pe_cmpR op_eq (pe_callB call_len_seq rfl T.n_len PySem.boot_len (pa_cons (pv 0) pa_nil)) (pe_ifExp (pt_cmpR op_eq (pv 1) pe_str (nomark _)) pe_int pe_int) (nomark _))))))), ?_⟩
  rcases hc with ⟨hf, h⟩ | ⟨⟨r, k, rest, rfl, e, hk, hl⟩, h⟩
  · rcases hf with ⟨Tk, kn, nt⟩ | ⟨r, vs, rfl, e, hf⟩
    · walk_at "rd"
      refine ⟨_, _, _, _, rfl, kn.1, kit_tup kn.2, ?_⟩
      rw [decide_eq_false nt]
      walk_at "rd"
      exact h
    · rcases hf with rfl | ⟨v0, rest, Tk, rfl, kn, nt⟩ | ⟨ww, rest, rfl, hw⟩ | ⟨k, rest, hk, rfl, hl⟩
      · walk_at "rd"
        refine ⟨_, _, _, _, rfl, .tup e, rfl, ?_⟩
        walk_at "rd"
        refine ⟨r, _, rfl, .inr (SqT.of e), ?_⟩
        walk_at "rd"
        · exact h
        · exact absurd rfl (by assumption)
      · walk_at "rd"
        refine ⟨_, _, _, _, rfl, .tup e, rfl, ?_⟩
        walk_at "rd"
        refine ⟨r, _, rfl, .inr (SqT.of e), ?_⟩
        walk_at "rd"
        refine ⟨r, _, _, _, rfl, rfl, SqT.of e, at0, ?_⟩
        walk_at "rd"
        refine ⟨_, _, _, _, rfl, kn.1, kit_str kn.2, ?_⟩
        rw [decide_eq_false nt]
        walk_at "rd"
        exact h
      · simp only [oddW, List.mem_cons, List.not_mem_nil, or_false] at hw
        rcases hw with rfl | rfl | rfl | rfl | rfl | rfl | rfl | rfl
        all_goals
          walk_at "rd"
          refine ⟨_, _, _, _, rfl, .tup e, rfl, ?_⟩
          walk_at "rd"
          refine ⟨r, _, rfl, .inr (SqT.of e), ?_⟩
          walk_at "rd"
          refine ⟨r, _, _, _, rfl, rfl, SqT.of e, at0, ?_⟩
          walk_at "rd"
          refine ⟨_, _, _, _, rfl, .str _, rfl, ?_⟩
          walk_at "rd"
          intro w0 hw0
          refine ⟨w0, _, rfl, .inr (hw0 _), rfl, rfl, ?_⟩
          refine ⟨_, rfl, ?_⟩
          refine ifB (fun z => ?_) (fun z => absurd z (by decide))
          walk_at "rd"
          exact h
      · cases k with
        | base => exact absurd rfl hk
        | _ =>
          dsimp only [Ek.word] at e
          dsimp only [lenE] at hl
          walk_at "rd"
          refine ⟨_, _, _, _, rfl, .tup e, rfl, ?_⟩
          walk_at "rd"
          refine ⟨r, _, rfl, .inr (SqT.of e), ?_⟩
          walk_at "rd"
          refine ⟨r, _, _, _, rfl, rfl, SqT.of e, at0, ?_⟩
          walk_at "rd"
          refine ⟨_, _, _, _, rfl, .str _, rfl, ?_⟩
          walk_at "rd"
          intro w0 hw0
          refine ⟨w0, _, rfl, .inr (hw0 _), rfl, rfl, ?_⟩
          refine ⟨_, rfl, ?_⟩
          refine ifB (fun z => absurd z (by decide)) (fun z => ?_)
          walk_at "rd"
          refine ⟨r, _, rfl, .inr (SqT.of e), ?_⟩
          walk_at "rd"
          refine qb h ?_
          symm
          refine decide_eq_false fun z => hl ?_
          have := V.int.inj z
          rw [List.length_cons] at this
          omega
  · cases k with
    | base => exact absurd rfl hk
    | _ =>
      dsimp only [Ek.word] at e
      dsimp only [lenE] at hl
      walk_at "rd"
      refine ⟨_, _, _, _, rfl, .tup e, rfl, ?_⟩
      walk_at "rd"
      refine ⟨r, _, rfl, .inr (SqT.of e), ?_⟩
      walk_at "rd"
      refine ⟨r, _, _, _, rfl, rfl, SqT.of e, at0, ?_⟩
      walk_at "rd"
      refine ⟨_, _, _, _, rfl, .str _, rfl, ?_⟩
      walk_at "rd"
      intro w0 hw0
      refine ⟨w0, _, rfl, .inr (hw0 _), rfl, rfl, ?_⟩
      refine ⟨_, rfl, ?_⟩
      refine ifB (fun z => absurd z (by decide)) (fun z => ?_)
      walk_at "rd"
      refine ⟨r, _, rfl, .inr (SqT.of e), ?_⟩
      walk_at "rd"
      refine qb h ?_
      symm
      refine decide_eq_true ?_
      rw [List.length_cons, hl]
      rfl
--@ check_text
theorem kit_txt {K : PySem.W.Frag} {T : String} (h : T ∈ kinds) : PySem.W.kitOne K (.type T) (.type "str") = some (decide (T = "str")) := by
  simp only [kinds, List.mem_cons, List.not_mem_nil, or_false] at h
  rcases h with rfl | rfl | rfl | rfl | rfl | rfl | rfl <;> rfl
def sp_check_text (K : PySem.W.Frag) : Sp := fun vs H Q E => ∃ x T, vs = [x] ∧ IsKind K H x T ∧ (T = "str" → Q .non H) ∧ (T ≠ "str" → E (.ref (cA K "NoText")) none H)
theorem sc_check_text : FnScope ["thing"] ["thing"] (defScope s_check_text) := ⟨rfl, rfl, rfl, by decide +kernel, rfl, by decide +kernel, by decide +kernel⟩
theorem d_check_text (S : Src K mg "check_text" s_check_text ["thing"]) (T : Txt K mg)  : DefX P w K mg base 1 "check_text" ["thing"] (sp_check_text K) := by
  refine S.okXF sc_check_text (fun vs H Q E h => ?_) (fun f cdv A outer s H vs Q E hr h => ?_)
  · obtain ⟨x, Tk, rfl, hk, h, hE⟩ := h
    rfl
  obtain ⟨x, Tk, rfl, hk, h, hE⟩ := h
  refine ⟨_, (pss_one (ps_if (pt_not (pt_val (pe_callB call_isinst rfl T.n_isinstance PyProof.Rows.boot_isinstance (pa_cons (pv 0) (pa_cons (pe_bltn (v := .ty "str") rfl T.n_str PyProof.Rows.boot_str rfl) pa_nil)))))
      (pss_one (ps_raise (E := fun C d H' => Same H H' ∧ E C d H) T.m_NoText T.x_NoText (fun _ _ _ _ _ _ _ I hx hE => xe_made I hx hE) (pa_cons pe_str pa_nil)))
      pss_nil)), ?_⟩
  walk_at "rd"
  refine ⟨_, _, _, _, rfl, hk.1, kit_txt hk.2, ?_⟩
  walk_at "rd"
  · rename_i z
    exact ⟨Same.refl _, hE z⟩
  · rename_i z
    exact ⟨Same.refl _, h z⟩
--@ are_figures
def wholeT : V → Option Int
  | .str z => wholeL z.cps.toList
  | _ => none
def centsT : V → Option Int
  | .str z => centsL z.cps.toList
  | _ => none
def rateT : V → Option Int
  | .str z => rateL z.cps.toList
  | _ => none
theorem V_str {a b : Str} (h : V.str a = V.str b) : a.cps.toList = b.cps.toList := by injection h with h; rw [h]
theorem str_V {a b : Str} (h : a.cps.toList = b.cps.toList) : V.str a = V.str b := congrArg V.str (str_ext h)
theorem o_list : (Str.ofString "0").cps.toList = [48] := by decide +kernel
def sp_are_figures (K : PySem.W.Frag) : Sp := fun vs H Q _ => ∃ (z : Str), vs = [.str z] ∧ z.length ≤ 1000 ∧ Q (.bl (z.cps.toList.all figB)) H
theorem sc_are_figures : FnScope ["text"] ["text"] (defScope s_are_figures) := ⟨rfl, rfl, rfl, by decide +kernel, rfl, by decide +kernel, by decide +kernel⟩
theorem d_are_figures (S : Src K mg "are_figures" s_are_figures ["text"]) (T : Txt K mg)  : Def P w K mg base 1 "are_figures" ["text"] (sp_are_figures K) := by
  refine S.okF sc_are_figures (fun vs H Q E h => ?_) (fun f cdv A outer s H vs Q E hr h => ?_)
  · obtain ⟨z, rfl, hz, h⟩ := h
    rfl
  obtain ⟨z, rfl, hz, h⟩ := h
  refine ⟨_, (pss_one (ps_ret (pe_callB (call_allB rfl) rfl T.n_all PyProof.Rows.boot_all (pa_cons (pe_comp (ix := []) ⟨rfl, by decide +kernel, rfl, by decide +kernel, rfl, (show (["sign"] : List Str).Nodup by decide +kernel), by walk_at "cap", by walk_at "sub", by walk_at "has"⟩ (pi_str (pv 0)) (fun b => (pe_cmpR op_in_str (pv 0) (pe_gstr T.g_FIGURES) (by with_unfolding_all rfl)))) pa_nil)))), ?_⟩
  have sz := sizeLine_eq
  walk_at "rd"
  intro l nl
  have zl : (z.cps.toList.map fun c => V.str ⟨#[c]⟩).length = z.length := by rw [List.length_map, Array.length_toList]; rfl
  refine comp_any walk_str nl (by omega) (fun i v _ => ∃ c, z.cps.toList[i]? = some c ∧ v = .bl (figB c)) (fun _ _ _ _ _ q => q) (fun _ _ _ _ _ _ q => q) ?_ ?_
  · rintro i v H' Q' hv sH hq
    rw [List.getElem?_map] at hv
    obtain ⟨c, hc, rfl⟩ := Option.map_eq_some_iff.mp hv
    walk_at "rd"
    rw [fig_in]
    exact hq _ _ (Same.refl _) ⟨c, hc, rfl⟩
  · rintro ys H' s' eL yl hp
    have ey : ys = (z.cps.toList.map figB).map V.bl := by
      apply List.ext_getElem?
      intro j
      cases e : ys[j]? with
      | none => rw [List.getElem?_eq_none (by have := List.getElem?_eq_none_iff.mp e; rw [List.length_map, List.length_map]; rw [List.length_map] at yl; omega)]
      | some v =>
        obtain ⟨c, h1, rfl⟩ := hp j v e
        rw [List.getElem?_map, List.getElem?_map, h1]
        rfl
    walk_at "rd"
    refine ⟨l, z.cps.toList.map figB, rfl, SqL.of (by rw [← ey]; exact eL), s', ?_⟩
    rw [List.all_map]
    exact h
--@ show_whole
def sp_show_whole (K : PySem.W.Frag) : Sp := fun vs H Q _ => ∃ (n : Nat), vs = [.int n] ∧ n < 10 ^ 80 ∧ Q (.str (Str.ofString (toString (n : Int)))) H
theorem sc_show_whole : FnScope ["number", "parts", "rest"] ["number"] (defScope s_show_whole) := ⟨rfl, rfl, rfl, by decide +kernel, rfl, by decide +kernel, by decide +kernel⟩
theorem d_show_whole (S : Src K mg "show_whole" s_show_whole ["number"]) (T : Txt K mg)  : Def P w K mg base 1 "show_whole" ["number"] (sp_show_whole K) := by
  refine S.okF sc_show_whole (fun vs H Q E h => ?_) (fun f cdv A outer s H vs Q E hr h => ?_)
  · obtain ⟨n, rfl, hn, h⟩ := h
    rfl
  obtain ⟨n, rfl, hn, h⟩ := h
  refine ⟨_, (pss_consN (ps_set (i := 1) sc_show_whole.nd rfl (by first | exact Or.inl rfl | exact Or.inr rfl) (pe_lst pa_nil))
      (pss_consN (ps_set (i := 2) sc_show_whole.nd rfl (by first | exact Or.inl rfl | exact Or.inr rfl) (pv 0))
      (pss_consN (ps_while PassesOwn.never (pt_cmpR op_ge (pv 2) (pe_gint T.g_PART) (nomark _))
      (pss_consN (ps_expr (pe_bm PySem.F.plainAttrs_list PySem.F.slot_list_append PySem.F.type_list_append mt_append (pv 1) (pa_cons (pe_bm PySem.F.plainAttrs_str PySem.F.slot_str_zfill PySem.F.type_str_zfill mt_zfill (pe_callTy call_str_int rfl T.n_str PyProof.Rows.boot_str (pa_cons (pe_op op_mod (pv 2) (pe_gint T.g_PART)) pa_nil)) (pa_cons (pe_gint T.g_PART_FIGURES) pa_nil)) pa_nil)))
      (pss_one (ps_set (i := 2) sc_show_whole.nd rfl (by first | exact Or.inl rfl | exact Or.inr rfl) (pe_op op_fdivW (pv 2) (pe_gint T.g_PART))))))
      (pss_consN (ps_expr (pe_bm PySem.F.plainAttrs_list PySem.F.slot_list_append PySem.F.type_list_append mt_append (pv 1) (pa_cons (pe_callTy call_str_int rfl T.n_str PyProof.Rows.boot_str (pa_cons (pv 2) pa_nil)) pa_nil)))
      (pss_one (ps_ret (pe_joinRev rfl T.n_reversed pe_str (pa_cons (pv 1) pa_nil)))))))), ?_⟩
  have sz := sizeLine_eq
  walk_at "rd"
  intro p np
  have sp := same_new np (.lst [])
  walk_at "rd"
  refine ⟨fun k σ H' => ∃ (r : Nat) (zs : List Str), Same H H' ∧ H' p = some (.lst (zs.map V.str)) ∧ σ = [some (.int (n : Int)), some (.ref p), some (.int (r : Int))] ∧ dg n = dg r ++ (zs.reverse.map fun z => z.cps.toList).flatten ∧ (zs.reverse.map (·.length)).sum = 18 * zs.length ∧ r ≤ n ∧ r = k, ⟨_, n, [], sp, upd_same, rfl, by simp, rfl, Nat.le_refl _, rfl⟩, ?_⟩
  rintro k σ H' ⟨r, zs, sH, eP, rfl, dn, ls, rn, rfl⟩
  have dl := congrArg List.length dn
  rw [List.length_append, List.length_flatten, List.map_map] at dl
  have d80 := dg_len 79 n hn
  have e1 : (List.map (List.length ∘ fun z : Str => z.cps.toList) zs.reverse) = zs.reverse.map (·.length) := List.map_congr_left fun z _ => Array.length_toList
  rw [e1, ls] at dl
  have zl : zs.length ≤ 4 := by omega
  walk_at "rd"
  · rename_i c
    have r18 : 10 ^ 18 ≤ r := by omega
    refine ⟨_, fun σ' H' z => z, ?_⟩
    walk_at "rd"
    refine ⟨.inl ⟨rfl, _, SqL.of eP⟩, ?_⟩
    walk_at "rd"
    have em : ((r : Int) % 1000000000000000000) = ((r % 10 ^ 18 : Nat) : Int) := by omega
    have ed : ((r : Int) / 1000000000000000000) = ((r / 10 ^ 18 : Nat) : Int) := by omega
    refine ⟨log2_small (by omega) (by omega), ?_⟩
    walk_at "rd"
    have zf := zfill_dg (z := Str.ofString (toString ((r : Int) % 1000000000000000000))) (m := r % 10 ^ 18) (k := 17) (by rw [em]; exact dg_text _) (Nat.mod_lt _ (by decide))
    generalize Txt.zfill (Str.ofString (toString ((r : Int) % 1000000000000000000))) 18 = y at zf ⊢
    refine ⟨p, _, _, rfl, rfl, eP, by rw [List.length_map]; omega, ?_⟩
    walk_at "rd"
    have yl : y.length = 18 := by
      have q := congrArg List.length zf
      rw [Array.length_toList] at q
      exact q
    refine ⟨r / 10 ^ 18, Nat.div_lt_self (by omega) (by decide), r / 10 ^ 18, zs ++ [y], same_put sH np, by rw [List.map_append]; exact upd_same, by rw [← ed]; rfl, ?_, ?_, by omega, rfl⟩
    · rw [List.reverse_append, List.map_append, List.flatten_append, show ([y].reverse.map fun z : Str => z.cps.toList).flatten = y.cps.toList by simp, zf, ← List.append_assoc, ← dg_cut 18 r r18]
      exact dn
    · rw [List.reverse_append, List.map_append, List.sum_append, ls, List.length_append, show ([y].reverse.map (·.length)).sum = 18 by simpa using yl]
      show 18 + 18 * zs.length = 18 * (zs.length + 1)
      omega
  · rename_i c
    walk_at "rd"
    refine ⟨.inl ⟨rfl, _, SqL.of eP⟩, ?_⟩
    walk_at "rd"
    refine ⟨log2_small (by omega) (by omega), ?_⟩
    walk_at "rd"
    refine ⟨p, _, _, rfl, rfl, eP, by rw [List.length_map]; omega, ?_⟩
    walk_at "rd"
    have r0 := dg_text r
    have l0 : (Str.ofString (toString (r : Int))).length ≤ 80 := by
      have q := congrArg List.length r0
      rw [Array.length_toList] at q
      show (Str.ofString (toString (r : Int))).cps.size ≤ 80
      omega
    generalize Str.ofString (toString (r : Int)) = y at r0 l0 ⊢
    have e0 : (Str.ofString "").length = 0 := by decide +kernel
    refine ⟨p, zs ++ [y], rfl, SqL.of (by rw [List.map_append]; exact upd_same), ?_, same_put sH np, ?_⟩
    · rw [e0, List.reverse_append, List.map_append, List.sum_append, ls, show ([y].reverse.map (·.length)).sum = y.length by simp]
      omega
    · rw [show Txt.join (Str.ofString "") (zs ++ [y]).reverse = Str.ofString (toString (n : Int)) from str_ext ?_]
      · exact h
      · rw [dg_text, dn]
        unfold Txt.join
        rw [show Str.ofString "" = ⟨#[]⟩ by decide +kernel, PySem.StrLaws.glued_eq_join, join_none, List.reverse_append, List.map_append, List.flatten_append, ← r0]
        simp
--@ two_figures
def sp_two_figures (K : PySem.W.Frag) : Sp := fun vs H Q _ => ∃ n, vs = [.int n] ∧ (0 ≤ n ∧ n ≤ 99) ∧ Q (.str (two n)) H
theorem sc_two_figures : FnScope ["number"] ["number"] (defScope s_two_figures) := ⟨rfl, rfl, rfl, by decide +kernel, rfl, by decide +kernel, by decide +kernel⟩
theorem d_two_figures (S : Src K mg "two_figures" s_two_figures ["number"]) (T : Txt K mg)  : Def P w K mg base 1 "two_figures" ["number"] (sp_two_figures K) := by
  refine S.ok sc_two_figures (fun vs H Q E h => ?_) (fun f cdv A outer s H vs Q E hr h => ?_)
  · obtain ⟨n, rfl, ⟨h0, h1⟩, h⟩ := h
    rfl
  obtain ⟨n, rfl, ⟨h0, h1⟩, h⟩ := h
  refine ⟨_, (pss_one (ps_ret (pe_bm PySem.F.plainAttrs_str PySem.F.slot_str_zfill PySem.F.type_str_zfill mt_zfill (pe_callTy call_str_int rfl T.n_str PyProof.Rows.boot_str (pa_cons (pv 0) pa_nil)) (pa_cons pe_int pa_nil)))), ?_⟩
  walk_at "rd"
  refine ⟨log2_small h0 (by omega), ?_⟩
  walk_at "rd"
  rw [two_eq h0 h1]
  exact h
--@ _law_cell_at
def cellAt (ns : List Int) (k : Nat) : Int := ns.getD k 0
def sp__law_cell_at (K : PySem.W.Frag) : Sp := fun vs H Q _ => ∃ (p : Addr) (ns : List Int) (k : Nat), vs = [.ref p, .int k] ∧ SqL K H p (ns.map V.int) ∧ Q (.int (cellAt ns k)) H
theorem sc__law_cell_at : FnScope ["_law_script", "_law_k"] ["_law_script", "_law_k"] (defScope s__law_cell_at) := ⟨rfl, rfl, rfl, by decide +kernel, rfl, by decide +kernel, by decide +kernel⟩
theorem d__law_cell_at (S : Src K mg "_law_cell_at" s__law_cell_at ["_law_script", "_law_k"]) (T : Txt K mg)  : Def P w K mg base 1 "_law_cell_at" ["_law_script", "_law_k"] (sp__law_cell_at K) := by
  refine S.ok sc__law_cell_at (fun vs H Q E h => ?_) (fun f cdv A outer s H vs Q E hr h => ?_)
  · obtain ⟨p, ns, k, rfl, hp, h⟩ := h
    rfl
  obtain ⟨p, ns, k, rfl, hp, h⟩ := h
  refine ⟨_, (pss_consN (ps_if (pt_cmpR op_lt (pv 1) (pe_callB call_len_seq rfl T.n_len PySem.boot_len (pa_cons (pv 0) pa_nil)) (nomark _))
      (pss_one (ps_ret (pe_ix ix_list (pv 0) (pv 1) (fun _ _ => rfl))))
      pss_nil)
      (pss_one (ps_ret pe_int))), ?_⟩
  walk_at "rd"
  · rename_i q
    rw [List.length_map] at q
    have kl : k < ns.length := by omega
    refine ⟨p, _, _, _, rfl, rfl, hp, atI_nat (by rw [List.getElem?_map, List.getElem?_eq_getElem kl]; rfl), ?_⟩
    unfold cellAt at h
    rw [List.getD_eq_getElem?_getD, List.getElem?_eq_getElem kl] at h
    exact h
  · rename_i q
    rw [List.length_map] at q
    unfold cellAt at h
    rw [List.getD_eq_getElem?_getD, List.getElem?_eq_none (by omega)] at h
    walk_at "rd"
    exact h
--@ _law_draws
def sp__law_draws (K : PySem.W.Frag) : Sp := fun vs H Q _ => ∃ c k, vs = [.int c, .int k] ∧ 0 ≤ k ∧ k ≤ 20 ∧ ∀ p (ns : List Int) H', Same H H' → H p = none → H' p = some (.lst (ns.map V.int)) → (ns.length : Int) = k → (∀ x ∈ ns, (0 : Int) ≤ x ∧ x < 10000000000000) → Q (.ref p) H'
theorem sc__law_draws : FnScope ["_law_cell", "_law_many", "_law_found", "_law_number", "_law_one", "_law_other", "_law_k"] ["_law_cell", "_law_many"] (defScope s__law_draws) := ⟨rfl, rfl, rfl, by decide +kernel, rfl, by decide +kernel, by decide +kernel⟩
theorem d__law_draws (S : Src K mg "_law_draws" s__law_draws ["_law_cell", "_law_many"]) (T : Txt K mg)  : Def P w K mg base 1 "_law_draws" ["_law_cell", "_law_many"] (sp__law_draws K) := by
  refine S.ok sc__law_draws (fun vs H Q E h => ?_) (fun f cdv A outer s H vs Q E hr h => ?_)
  · obtain ⟨c, k, rfl, k0, k1, h⟩ := h
    rfl
  obtain ⟨c, k, rfl, k0, k1, h⟩ := h
  refine ⟨_, (pss_consN (ps_set (i := 2) sc__law_draws.nd rfl (by first | exact Or.inl rfl | exact Or.inr rfl) (pe_lst pa_nil))
      (pss_consN (ps_set (i := 3) sc__law_draws.nd rfl (by first | exact Or.inl rfl | exact Or.inr rfl) (pe_op op_fdiv (pv 0) pe_int))
      (pss_consN (ps_set (i := 4) sc__law_draws.nd rfl (by first | exact Or.inl rfl | exact Or.inr rfl) (pe_op op_add (pe_op op_mod (pv 0) pe_int) pe_int))
      (pss_consN (ps_set (i := 5) sc__law_draws.nd rfl (by first | exact Or.inl rfl | exact Or.inr rfl) (pe_op op_add (pe_op op_mod (pv 0) pe_int) pe_int))
      (pss_consN (ps_for PassesOwn.never rfl (pi_range1 rfl T.n_range (pa_cons (pv 1) pa_nil)) (pg_name (i := 6) sc__law_draws.nd rfl (by first | exact Or.inl rfl | exact Or.inr rfl))
      (pss_consN (ps_set (i := 4) sc__law_draws.nd rfl (by first | exact Or.inl rfl | exact Or.inr rfl) (pe_op op_mod (pe_op op_mul (pv 4) pe_int) pe_int))
      (pss_consN (ps_set (i := 5) sc__law_draws.nd rfl (by first | exact Or.inl rfl | exact Or.inr rfl) (pe_op op_mod (pe_op op_add (pe_op op_mul (pv 5) (pv 5)) (pv 4)) pe_int))
      (pss_one (ps_if (PW.pt (pw_and (pt_cmpR op_gt (pv 0) (pe_powc (v := 1000000000000000000) (by decide +kernel) ⟨by decide, by decide, by decide⟩) (nomark _)) (pw_and (pt_cmpR op_eq (pe_op op_mod (pv 0) pe_int) pe_int (nomark _)) (pw_and1 (pt_cmpR op_gt (pv 3) pe_int (nomark _))))))
      (pss_consN (ps_expr (pe_bm PySem.F.plainAttrs_list PySem.F.slot_list_append PySem.F.type_list_append mt_append (pv 2) (pa_cons (pe_op op_mod (pv 3) (pe_powc (v := 10000000000000) (by decide +kernel) ⟨by decide, by decide, by decide⟩)) pa_nil)))
      (pss_one (ps_set (i := 3) sc__law_draws.nd rfl (by first | exact Or.inl rfl | exact Or.inr rfl) (pe_op op_fdivW (pv 3) (pe_powc (v := 10000000000000) (by decide +kernel) ⟨by decide, by decide, by decide⟩)))))
      (pss_one (ps_expr (pe_bm PySem.F.plainAttrs_list PySem.F.slot_list_append PySem.F.type_list_append mt_append (pv 2) (pa_cons (pe_op op_fdiv (pe_op op_mod (pe_op op_add (pv 4) (pe_op op_mul (pv 5) pe_int)) pe_int) pe_int) pa_nil)))))))))
      (pss_one (ps_ret (pv 2)))))))), ?_⟩
  have sz := sizeLine_eq
  walk_at "rd"
  intro p np
  have sp := same_new np (.lst [])
  walk_at "rd"
  have o0 : 0 ≤ c % 2147483647 := Int.emod_nonneg _ (by decide)
  have o1 : c % 2147483647 < 2147483647 := Int.emod_lt_of_pos _ (by decide)
  have p0 : 0 ≤ c % 998244353 := Int.emod_nonneg _ (by decide)
  have p1 : c % 998244353 < 998244353 := Int.emod_lt_of_pos _ (by decide)
  refine for_range (fun i σ H' => L2.Ee5 fun (ns : List Int) (a b e : Int) (z : Option V) => L2.Aa5 ((Same H H' ∧ H' p = some (.lst (ns.map V.int)))) (ns.length = i) ((∀ x ∈ ns, (0 : Int) ≤ x ∧ x < 10000000000000)) ((0 ≤ a ∧ a < 4294967296 ∧ 0 ≤ b ∧ b < 4294967296)) (σ = [some (.int c), some (.int k), some (.ref p), some (.int e), some (.int a), some (.int b), z]))
    ⟨[], _, _, _, _, ⟨sp, upd_same⟩, rfl, fun x hx => (by cases hx), ⟨by omega, by omega, by omega, by omega⟩, rfl⟩ ?_ ?_
  · rintro i σ H' hi ⟨ns, a, b, e, z, ⟨sH, eP⟩, nl, nn, ⟨a0, a1, b0, b1⟩, rfl⟩
    have ab := Int.emod_nonneg (a * 48271) (show (2147483647 : Int) ≠ 0 by decide)
    have ab1 := Int.emod_lt_of_pos (a * 48271) (show (0 : Int) < 2147483647 by decide)
    have bb := Int.emod_nonneg (b * b + a * 48271 % 2147483647) (show (998244353 : Int) ≠ 0 by decide)
    have bb1 := Int.emod_lt_of_pos (b * b + a * 48271 % 2147483647) (show (0 : Int) < 998244353 by decide)
    have snoc : ∀ y : Int, (0 ≤ y ∧ y < 10000000000000) → ∀ x ∈ ns ++ [y], (0 : Int) ≤ x ∧ x < 10000000000000 := fun y hy x hx => by
      rcases List.mem_append.mp hx with hx | hx
      · exact nn x hx
      · obtain rfl : x = y := by simpa using hx
        exact hy
    have eP' : ∀ y : Int, (upd H' p (.lst (ns.map V.int ++ [.int y]))) p = some (.lst ((ns ++ [y]).map V.int)) := fun y => by rw [List.map_append]; exact upd_same
    have small : ∀ z : Int, (0 : Int) ≤ z % 2147483647 / 7 ∧ z % 2147483647 / 7 < 10000000000000 := fun z => by
      have := Int.emod_nonneg z (show (2147483647 : Int) ≠ 0 by decide)
      have := Int.emod_lt_of_pos z (show (0 : Int) < 2147483647 by decide)
      omega
    have i20 : i < 20 := by omega
    walk_at "rd"
    · refine ⟨.inl ⟨rfl, _, SqL.of eP⟩, ?_⟩
      walk_at "rd"
      refine ⟨p, _, _, rfl, rfl, eP, by rw [List.length_map]; omega, ?_⟩
      walk_at "rd"
      exact ⟨ns ++ [_], _, _, _, _, ⟨same_put sH np, eP' _⟩, by rw [List.length_append, nl]; rfl, snoc _ ⟨Int.emod_nonneg _ (by decide), Int.emod_lt_of_pos _ (by decide)⟩, ⟨ab, by omega, bb, by omega⟩, rfl⟩
    all_goals
      refine ⟨.inl ⟨rfl, _, SqL.of eP⟩, ?_⟩
      walk_at "rd"
      refine ⟨p, _, _, rfl, rfl, eP, by rw [List.length_map]; omega, ?_⟩
      exact ⟨ns ++ [_], _, _, _, _, ⟨same_put sH np, eP' _⟩, by rw [List.length_append, nl]; rfl, snoc _ (small _), ⟨ab, by omega, bb, by omega⟩, rfl⟩
  · rintro σ H' ⟨ns, a, b, e, z, ⟨sH, eP⟩, nl, nn, _, rfl⟩
    walk_at "rd"
    exact h p ns H' sH np eP (by omega) nn
--@ _law_leap
def sp__law_leap (K : PySem.W.Frag) : Sp := fun vs H Q _ => ∃ y, vs = [.int y] ∧ Q (.bl (Cal.leap y)) H
theorem sc__law_leap : FnScope ["_law_year"] ["_law_year"] (defScope s__law_leap) := ⟨rfl, rfl, rfl, by decide +kernel, rfl, by decide +kernel, by decide +kernel⟩
theorem d__law_leap (S : Src K mg "_law_leap" s__law_leap ["_law_year"]) (T : Txt K mg)  : Def P w K mg base 1 "_law_leap" ["_law_year"] (sp__law_leap K) := by
  refine S.ok sc__law_leap (fun vs H Q E h => ?_) (fun f cdv A outer s H vs Q E hr h => ?_)
  · obtain ⟨y, rfl, h⟩ := h
    rfl
  obtain ⟨y, rfl, h⟩ := h
  refine ⟨_, (pss_one (ps_ret (pe_and (pe_cmpR op_eq (pe_op op_mod (pv 0) pe_int) pe_int (nomark _)) (pe_one (pe_or (pe_cmpR op_gt (pe_op op_mod (pv 0) pe_int) pe_int (nomark _)) (pe_one (pe_cmpR op_eq (pe_op op_mod (pv 0) pe_int) pe_int (nomark _)))))))), ?_⟩
  walk_at "rd"
  · exact qb h (by have : ¬ y % 100 = 0 := by omega
                   simp [Cal.leap, dI, *])
  · exact qb h (by have : y % 100 = 0 := by omega
                   simp [Cal.leap, dI, *])
  · exact qb h (by simp [Cal.leap, dI, *])
--@ _law_two
theorem two_law {n : Int} (h0 : 0 ≤ n) (h1 : n ≤ 99) : Str.ofString (toString (n / 10)) ++ Str.ofString (toString (n % 10)) = two n := by
  obtain ⟨k, rfl⟩ := Int.eq_ofNat_of_zero_le h0
  have : k < 100 := by omega
  revert this
  clear h0 h1
  revert k
  decide +kernel
def sp__law_two (K : PySem.W.Frag) : Sp := fun vs H Q _ => ∃ n, vs = [.int n] ∧ (0 ≤ n ∧ n ≤ 99) ∧ Q (.str (two n)) H
theorem sc__law_two : FnScope ["_law_number"] ["_law_number"] (defScope s__law_two) := ⟨rfl, rfl, rfl, by decide +kernel, rfl, by decide +kernel, by decide +kernel⟩
theorem d__law_two (S : Src K mg "_law_two" s__law_two ["_law_number"]) (T : Txt K mg)  : Def P w K mg base 1 "_law_two" ["_law_number"] (sp__law_two K) := by
  refine S.ok sc__law_two (fun vs H Q E h => ?_) (fun f cdv A outer s H vs Q E hr h => ?_)
  · obtain ⟨n, rfl, ⟨h0, h1⟩, h⟩ := h
    rfl
  obtain ⟨n, rfl, ⟨h0, h1⟩, h⟩ := h
  refine ⟨_, (pss_one (ps_ret (pe_op op_add_str (pe_callTy call_str_int rfl T.n_str PyProof.Rows.boot_str (pa_cons (pe_op op_fdiv (pv 0) pe_int) pa_nil)) (pe_callTy call_str_int rfl T.n_str PyProof.Rows.boot_str (pa_cons (pe_op op_mod (pv 0) pe_int) pa_nil))))), ?_⟩
  have sz := sizeLine_eq
  walk_at "rd"
  refine ⟨log2_small (by omega) (by omega), ?_⟩
  walk_at "rd"
  refine ⟨log2_small (by omega) (by omega), ?_⟩
  walk_at "rd"
  have e := two_law h0 h1
  refine ⟨?_, by rw [e]; exact h⟩
  have l2 : (Str.ofString (toString (n / 10))).length + (Str.ofString (toString (n % 10))).length = 2 := by
    have := congrArg Str.length e
    rw [Str.length_append] at this
    exact this
  omega
--@ _law_value
theorem eightI {ns : List Int} (h : ns.length = 8) : ∃ a b c d e f g i, ns = [a, b, c, d, e, f, g, i] := by
  match ns, h with
  | [a, b, c, d, e, f, g, i], _ => exact ⟨a, b, c, d, e, f, g, i, rfl⟩
def ValB (k : Ek) (d x : Int) : Prop := ThirdOk k d x ∧ (k = .still → x ≤ d + 40)
def sp__law_value (K : PySem.W.Frag) : Sp := fun vs H Q _ => L2.Ee4 fun (k : Ek) d p (ns : List Int) => L2.Aa7 (vs = [.str k.word, .int d, .ref p]) (SqL K H p (ns.map V.int)) (ns.length = 8) ((∀ x ∈ ns, (0 : Int) ≤ x ∧ x < 10000000000000)) ((0 ≤ d ∧ d ≤ 999999)) (k ≠ .base) (∀ x, ValB k d x → Q (.int x) H)
theorem sc__law_value : FnScope ["_law_word", "_law_day", "_law_xs", "_law_value_here"] ["_law_word", "_law_day", "_law_xs"] (defScope s__law_value) := ⟨rfl, rfl, rfl, by decide +kernel, rfl, by decide +kernel, by decide +kernel⟩
theorem d__law_value (S : Src K mg "_law_value" s__law_value ["_law_word", "_law_day", "_law_xs"]) (T : Txt K mg)  : Def P w K mg base 1 "_law_value" ["_law_word", "_law_day", "_law_xs"] (sp__law_value K) := by
  refine S.okF sc__law_value (fun vs H Q E h => ?_) (fun f cdv A outer s H vs Q E hr h => ?_)
  · obtain ⟨k, d, p, ns, rfl, hp, nl, nn, ⟨d0, d1⟩, hk, h⟩ := h
    rfl
  obtain ⟨k, d, p, ns, rfl, hp, nl, nn, ⟨d0, d1⟩, hk, h⟩ := h
  refine ⟨_, (pss_consN (ps_set (i := 3) sc__law_value.nd rfl (by first | exact Or.inl rfl | exact Or.inr rfl) (pe_op op_add pe_int (pe_op op_mod (pe_ix ix_list (pv 2) pe_int (fun _ _ => rfl)) (pe_ix ix_list (pe_lst (pa_cons pe_int (pa_cons pe_int (pa_cons (pe_powc (v := 1000000000) (by decide +kernel) ⟨by decide, by decide, by decide⟩) pa_nil)))) (pe_op op_mod (pe_ix ix_list (pv 2) pe_int (fun _ _ => rfl)) pe_int) (fun _ _ => rfl)))))
      (pss_consN (ps_cut (ps_if (pt_cmpR op_eq (pe_op op_mod (pe_op op_fdiv (pe_ix ix_list (pv 2) pe_int (fun _ _ => rfl)) pe_int) pe_int) pe_int (nomark _))
      (pss_one (ps_set (i := 3) sc__law_value.nd rfl (by first | exact Or.inl rfl | exact Or.inr rfl) (pe_op op_add pe_int (pe_op op_mod (pe_op op_mul (pe_ix ix_list (pv 2) pe_int (fun _ _ => rfl)) (pe_ix ix_list (pv 2) pe_int (fun _ _ => rfl))) (pe_powc (v := 1000000000000) (by decide +kernel) ⟨by decide, by decide, by decide⟩)))))
      pss_nil))
      (pss_consN (ps_if (pt_cmpR op_eq (pv 0) pe_str (nomark _))
      (pss_one (ps_ret (pe_ix ix_list (pe_lst (pa_cons (pv 3) (pa_cons (pv 3) (pa_cons (pe_op op_sub pe_int (pv 3)) (pa_cons pe_int pa_nil))))) (pe_op op_mod (pe_ix ix_list (pv 2) pe_int (fun _ _ => rfl)) pe_int) (fun _ _ => rfl))))
      pss_nil)
      (pss_consN (ps_if (pt_cmpR op_in_seq (pv 0) (pe_tup (pa_cons pe_str (pa_cons pe_str pa_nil))) (by with_unfolding_all rfl))
      (pss_one (ps_ret (pe_ix ix_list (pe_lst (pa_cons pe_int (pa_cons (pe_op op_mod (pe_ix ix_list (pv 2) pe_int (fun _ _ => rfl)) pe_int) (pa_cons (pe_op op_mod (pe_ix ix_list (pv 2) pe_int (fun _ _ => rfl)) pe_int) (pa_cons (pe_op op_mod (pe_ix ix_list (pv 2) pe_int (fun _ _ => rfl)) (pe_op op_add (pe_powc (v := 1000000) (by decide +kernel) ⟨by decide, by decide, by decide⟩) pe_int)) pa_nil))))) (pe_op op_mod (pe_ix ix_list (pv 2) pe_int (fun _ _ => rfl)) pe_int) (fun _ _ => rfl))))
      pss_nil)
      (pss_consN (ps_if (pt_cmpR op_eq (pv 0) pe_str (nomark _))
      (pss_one (ps_ret (pe_callB (call_min2 rfl) rfl T.n_min PyProof.Rows.boot_min (pa_cons (pe_powc (v := 1000000) (by decide +kernel) ⟨by decide, by decide, by decide⟩) (pa_cons (pe_op op_add (pe_op op_add (pv 1) pe_int) (pe_op op_mod (pe_ix ix_list (pv 2) pe_int (fun _ _ => rfl)) (pe_ix ix_list (pe_lst (pa_cons pe_int (pa_cons pe_int pa_nil))) (pe_op op_mod (pe_ix ix_list (pv 2) pe_int (fun _ _ => rfl)) pe_int) (fun _ _ => rfl)))) pa_nil)))))
      pss_nil)
      (pss_one (ps_ret (pv 3)))))))), ?_⟩
  have sz := sizeLine_eq
  obtain ⟨n0, n1, n2, n3, n4, n5, n6, n7, rfl⟩ := eightI nl
  have p3 := nn n3 (by simp)
  have p4 := nn n4 (by simp)
  have p5 := nn n5 (by simp)
  have p6 := nn n6 (by simp)
  walk_at "rd"
  refine ⟨p, _, _, _, rfl, rfl, hp, rfl, ?_⟩
  walk_at "rd"
  intro l1 m1
  have s1 := same_new m1 (.lst [.int 9, .int 5000, .int 1000000000])
  have hp1 := s1.seq hp
  have z1 : SqL K (upd H l1 (.lst [.int 9, .int 5000, .int 1000000000])) l1 [.int 9, .int 5000, .int 1000000000] := SqL.of upd_same
  generalize upd H l1 (.lst [.int 9, .int 5000, .int 1000000000]) = H1 at s1 hp1 z1 ⊢
  have a40 := Int.emod_nonneg n4 (show (3 : Int) ≠ 0 by decide)
  have a41 := Int.emod_lt_of_pos n4 (show (0 : Int) < 3 by decide)
  walk_at "rd"
  refine ⟨p, _, _, _, rfl, rfl, hp1, rfl, ?_⟩
  walk_at "rd"
  obtain ⟨m, am, hm⟩ := at_three (a := 9) (b := 5000) (c := 1000000000) a40 a41
  refine ⟨l1, _, _, _, rfl, rfl, z1, am, ?_⟩
  have mp : 0 < m := by omega
  have b0 := Int.emod_nonneg n3 (show m ≠ 0 by omega)
  have b1 := Int.emod_lt_of_pos n3 mp
  walk_at "rd"
  have t0 : ∀ z : Int, 1 ≤ 1 + z % 1000000000000 ∧ 1 + z % 1000000000000 ≤ 1000000000000 := fun z => by
    have := Int.emod_nonneg z (show (1000000000000 : Int) ≠ 0 by decide)
    have := Int.emod_lt_of_pos z (show (0 : Int) < 1000000000000 by decide)
    omega
  refine ⟨fun σ' H' => ∃ w : Int, (1 ≤ w ∧ w ≤ 1000000000000) ∧ H' = H1 ∧ σ' = [some (.str k.word), some (.int d), some (.ref p), some (.int w)], ?_, ?_⟩
  · walk_at "rd"
    refine ⟨p, _, _, _, rfl, rfl, hp1, rfl, ?_⟩
    walk_at "rd"
    · refine ⟨p, _, _, _, rfl, rfl, hp1, rfl, ?_⟩
      walk_at "rd"
      refine ⟨p, _, _, _, rfl, rfl, hp1, rfl, ?_⟩
      walk_at "rd"
      exact ⟨_, t0 _, rfl, rfl⟩
    · exact ⟨_, ⟨by omega, by omega⟩, rfl, rfl⟩
  rintro σ' H' ⟨w, ⟨w0, w1⟩, rfl, rfl⟩
  cases k
  all_goals first | exact absurd rfl hk | skip
  all_goals dsimp only [Ek.word]
  all_goals walk_at "rd"
  case out =>
    intro t nt
    have st := same_new nt (.tup [.str "rate", .str "late"])
    walk_at "rd"
    refine ⟨t, _, rfl, .inr (SqT.of upd_same), rfl, rfl, _, rfl, ?_⟩
    walk_at "rd"
    exact ⟨s1.trans st, h _ ⟨⟨w0, w1⟩, fun z => by cases z⟩⟩
  case pay =>
    intro t nt
    have st := same_new nt (.tup [.str "rate", .str "late"])
    walk_at "rd"
    refine ⟨t, _, rfl, .inr (SqT.of upd_same), rfl, rfl, _, rfl, ?_⟩
    walk_at "rd"
    exact ⟨s1.trans st, h _ ⟨⟨w0, w1⟩, fun z => by cases z⟩⟩
  case due =>
    intro t nt
    have st := same_new nt (.tup [.str "rate", .str "late"])
    walk_at "rd"
    refine ⟨t, _, rfl, .inr (SqT.of upd_same), rfl, rfl, _, rfl, ?_⟩
    walk_at "rd"
    exact ⟨s1.trans st, h _ ⟨⟨w0, w1⟩, fun z => by cases z⟩⟩
  case turn =>
    intro t nt
    have st := same_new nt (.tup [.str "rate", .str "late"])
    walk_at "rd"
    refine ⟨t, _, rfl, .inr (SqT.of upd_same), rfl, rfl, _, rfl, ?_⟩
    walk_at "rd"
    exact ⟨s1.trans st, h _ ⟨trivial, fun z => by cases z⟩⟩
  case fee =>
    intro l2 n2
    have s2 := same_new n2 (.lst [.int w, .int w, .int (0 - w), .int 0])
    have hp2 := s2.seq hp1
    have z2 : SqL K (upd H' l2 (.lst [.int w, .int w, .int (0 - w), .int 0])) l2 [.int w, .int w, .int (0 - w), .int 0] := SqL.of upd_same
    generalize upd H' l2 (.lst [.int w, .int w, .int (0 - w), .int 0]) = H2 at s2 hp2 z2 ⊢
    have a0 := Int.emod_nonneg n6 (show (4 : Int) ≠ 0 by decide)
    have a1 := Int.emod_lt_of_pos n6 (show (0 : Int) < 4 by decide)
    walk_at "rd"
    refine ⟨p, _, _, _, rfl, rfl, hp2, rfl, ?_⟩
    walk_at "rd"
    obtain ⟨v, hv, hm⟩ := at_mem (xs := [.int w, .int w, .int (0 - w), .int 0]) a0 (by simpa using a1)
    obtain ⟨y, rfl, y0, y1⟩ := (mem1 ⟨_, rfl, by omega, by omega⟩ (mem1 ⟨_, rfl, by omega, by omega⟩ (mem1 ⟨_, rfl, by omega, by omega⟩ (mem1 ⟨_, rfl, by omega, by omega⟩ mem0))) : ∀ v ∈ ([.int w, .int w, .int (0 - w), .int 0] : List V), ∃ w : Int, v = .int w ∧ -1000000000000 ≤ w ∧ w ≤ 1000000000000) v hm
    refine ⟨l2, _, _, _, rfl, rfl, z2, hv, ?_⟩
    exact ⟨s1.trans s2, h _ ⟨⟨y0, y1⟩, fun z => by cases z⟩⟩
  case rate =>
    intro t nt
    have st := same_new nt (.tup [.str "rate", .str "late"])
    walk_at "rd"
    refine ⟨t, _, rfl, .inr (SqT.of upd_same), rfl, rfl, _, rfl, ?_⟩
    have hpt := st.seq hp1
    generalize upd H' t (.tup [.str "rate", .str "late"]) = H3 at st hpt ⊢
    walk_at "rd"
    refine ⟨p, _, _, _, rfl, rfl, hpt, rfl, ?_⟩
    walk_at "rd"
    refine ⟨p, _, _, _, rfl, rfl, hpt, rfl, ?_⟩
    walk_at "rd"
    refine ⟨p, _, _, _, rfl, rfl, hpt, rfl, ?_⟩
    walk_at "rd"
    intro l2 n2
    have s2 := same_new n2 (.lst [.int 0, .int (n3 % 100), .int (n3 % 2000), .int (n3 % 1000001)])
    have hp2 := s2.seq hpt
    have z2 : SqL K (upd H3 l2 (.lst [.int 0, .int (n3 % 100), .int (n3 % 2000), .int (n3 % 1000001)])) l2 [.int 0, .int (n3 % 100), .int (n3 % 2000), .int (n3 % 1000001)] := SqL.of upd_same
    have a0 := Int.emod_nonneg n4 (show (4 : Int) ≠ 0 by decide)
    have a1 := Int.emod_lt_of_pos n4 (show (0 : Int) < 4 by decide)
    walk_at "rd"
    refine ⟨p, _, _, _, rfl, rfl, hp2, rfl, ?_⟩
    walk_at "rd"
    obtain ⟨v, hv, hm⟩ := at_mem (xs := [.int 0, .int (n3 % 100), .int (n3 % 2000), .int (n3 % 1000001)]) a0 (by simpa using a1)
    obtain ⟨y, rfl, y0, y1⟩ := (mem1 ⟨_, rfl, by omega, by omega⟩ (mem1 ⟨_, rfl, by omega, by omega⟩ (mem1 ⟨_, rfl, by omega, by omega⟩ (mem1 ⟨_, rfl, by omega, by omega⟩ mem0))) : ∀ v ∈ ([.int 0, .int (n3 % 100), .int (n3 % 2000), .int (n3 % 1000001)] : List V), ∃ w : Int, v = .int w ∧ 0 ≤ w ∧ w ≤ 1000000) v hm
    refine ⟨l2, _, _, _, rfl, rfl, z2, hv, ?_⟩
    exact ⟨s1.trans (st.trans s2), h _ ⟨⟨y0, y1⟩, fun z => by cases z⟩⟩
  case late =>
    intro t nt
    have st := same_new nt (.tup [.str "rate", .str "late"])
    walk_at "rd"
    refine ⟨t, _, rfl, .inr (SqT.of upd_same), rfl, rfl, _, rfl, ?_⟩
    have hpt := st.seq hp1
    generalize upd H' t (.tup [.str "rate", .str "late"]) = H3 at st hpt ⊢
    walk_at "rd"
    refine ⟨p, _, _, _, rfl, rfl, hpt, rfl, ?_⟩
    walk_at "rd"
    refine ⟨p, _, _, _, rfl, rfl, hpt, rfl, ?_⟩
    walk_at "rd"
    refine ⟨p, _, _, _, rfl, rfl, hpt, rfl, ?_⟩
    walk_at "rd"
    intro l2 n2
    have s2 := same_new n2 (.lst [.int 0, .int (n3 % 100), .int (n3 % 2000), .int (n3 % 1000001)])
    have hp2 := s2.seq hpt
    have z2 : SqL K (upd H3 l2 (.lst [.int 0, .int (n3 % 100), .int (n3 % 2000), .int (n3 % 1000001)])) l2 [.int 0, .int (n3 % 100), .int (n3 % 2000), .int (n3 % 1000001)] := SqL.of upd_same
    have a0 := Int.emod_nonneg n4 (show (4 : Int) ≠ 0 by decide)
    have a1 := Int.emod_lt_of_pos n4 (show (0 : Int) < 4 by decide)
    walk_at "rd"
    refine ⟨p, _, _, _, rfl, rfl, hp2, rfl, ?_⟩
    walk_at "rd"
    obtain ⟨v, hv, hm⟩ := at_mem (xs := [.int 0, .int (n3 % 100), .int (n3 % 2000), .int (n3 % 1000001)]) a0 (by simpa using a1)
    obtain ⟨y, rfl, y0, y1⟩ := (mem1 ⟨_, rfl, by omega, by omega⟩ (mem1 ⟨_, rfl, by omega, by omega⟩ (mem1 ⟨_, rfl, by omega, by omega⟩ (mem1 ⟨_, rfl, by omega, by omega⟩ mem0))) : ∀ v ∈ ([.int 0, .int (n3 % 100), .int (n3 % 2000), .int (n3 % 1000001)] : List V), ∃ w : Int, v = .int w ∧ 0 ≤ w ∧ w ≤ 1000000) v hm
    refine ⟨l2, _, _, _, rfl, rfl, z2, hv, ?_⟩
    exact ⟨s1.trans (st.trans s2), h _ ⟨⟨y0, y1⟩, fun z => by cases z⟩⟩
  case still =>
    intro t nt
    have st := same_new nt (.tup [.str "rate", .str "late"])
    walk_at "rd"
    refine ⟨t, _, rfl, .inr (SqT.of upd_same), rfl, rfl, _, rfl, ?_⟩
    have hpt := st.seq hp1
    generalize upd H' t (.tup [.str "rate", .str "late"]) = H3 at st hpt ⊢
    walk_at "rd"
    refine ⟨p, _, _, _, rfl, rfl, hpt, rfl, ?_⟩
    walk_at "rd"
    intro l2 n2
    have s2 := same_new n2 (.lst [.int 3, .int 40])
    have hp2 := s2.seq hpt
    have z2 : SqL K (upd H3 l2 (.lst [.int 3, .int 40])) l2 [.int 3, .int 40] := SqL.of upd_same
    generalize upd H3 l2 (.lst [.int 3, .int 40]) = H2 at s2 hp2 z2 ⊢
    have a0 := Int.emod_nonneg n4 (show (2 : Int) ≠ 0 by decide)
    have a1 := Int.emod_lt_of_pos n4 (show (0 : Int) < 2 by decide)
    walk_at "rd"
    refine ⟨p, _, _, _, rfl, rfl, hp2, rfl, ?_⟩
    walk_at "rd"
    obtain ⟨m2, am2, hm2⟩ := at_two (a := 3) (b := 40) a0 a1
    refine ⟨l2, _, _, _, rfl, rfl, z2, am2, ?_⟩
    have c0 := Int.emod_nonneg n3 (show m2 ≠ 0 by omega)
    have c1 := Int.emod_lt_of_pos n3 (show 0 < m2 by omega)
    walk_at "rd"
    refine ⟨s1.trans (st.trans s2), h _ ⟨⟨?_, ?_⟩, fun _ => ?_⟩⟩ <;> split <;> omega
--@ _law_plain
theorem word_turn {k : Ek} (h : V.str k.word = .str "turn") : k = .turn := by
  cases k <;> first | rfl | exact absurd h (by decide +kernel)
theorem word_still {k : Ek} (h : V.str k.word = .str "still") : k = .still := by
  cases k <;> first | rfl | exact absurd h (by decide +kernel)
def sp__law_plain (K : PySem.W.Frag) : Sp := fun vs H Q _ => L2.Ee4 fun r k d x => L2.Aa4 (vs = [.ref r]) (H r = some (.tup (row3 k d x))) (k ≠ .base) (∀ q H', Same H H' → H' q = some (.tup (rowV k d x)) → Q (.ref q) H')
theorem sc__law_plain : FnScope ["_law_row_here"] ["_law_row_here"] (defScope s__law_plain) := ⟨rfl, rfl, rfl, by decide +kernel, rfl, by decide +kernel, by decide +kernel⟩
theorem d__law_plain (S : Src K mg "_law_plain" s__law_plain ["_law_row_here"]) (T : Txt K mg)  : Def P w K mg base 1 "_law_plain" ["_law_row_here"] (sp__law_plain K) := by
  refine S.ok sc__law_plain (fun vs H Q E h => ?_) (fun f cdv A outer s H vs Q E hr h => ?_)
  · obtain ⟨r, k, d, x, rfl, e, hb, h⟩ := h
    rfl
  obtain ⟨r, k, d, x, rfl, e, hb, h⟩ := h
  refine ⟨_, (pss_consN (ps_if (pt_cmpR op_eq (pe_ix ix_tup (pv 0) pe_int (fun _ _ => rfl)) pe_str (nomark _))
      (pss_one (ps_ret (pe_slice sl_tup (pv 0) po_none (po_some pe_int))))
      pss_nil)
      (pss_one (ps_ret (pv 0)))), ?_⟩
  walk_at "rd"
  · rename_i c
    obtain rfl := word_turn c
    refine ⟨r, _, rfl, SqT.of e, (fun z => absurd z.2 (show ¬ HT.sIx 3 3 (some 2) = 3 by decide)), fun q nq => ?_⟩
    rw [show cutV (row3 .turn d x) none (some 2) = rowV .turn d x from cutV_hi _ 2]
    exact h q _ (same_new nq _) upd_same
  · rename_i c
    refine h r _ (Same.refl _) ?_
    rw [e]
    cases k <;> first | rfl | exact absurd rfl hb | exact absurd rfl c
--@ is_day
def dayB : V → Bool
  | .int i => decide (0 ≤ i) && decide (i ≤ 999999)
  | _ => false
def sp_is_day (K : PySem.W.Frag) : Sp := fun vs H Q _ => ∃ x T, vs = [x] ∧ IsKind K H x T ∧ Q (.bl (dayB x)) H
theorem sc_is_day : FnScope ["thing"] ["thing"] (defScope s_is_day) := ⟨rfl, rfl, rfl, by decide +kernel, rfl, by decide +kernel, by decide +kernel⟩
theorem d_is_day (S : Src K mg "is_day" s_is_day ["thing"]) (T : Txt K mg) (D_is_whole : Def P w K mg base 1 "is_whole" ["thing"] (sp_is_whole K)) : Def P w K mg base 2 "is_day" ["thing"] (sp_is_day K) := by
  refine S.ok sc_is_day (fun vs H Q E h => ?_) (fun f cdv A outer s H vs Q E hr h => ?_)
  · obtain ⟨x, Tk, rfl, hk, h⟩ := h
    rfl
  obtain ⟨x, Tk, rfl, hk, h⟩ := h
  refine ⟨_, (pss_one (ps_ret (pe_and (pe_fn D_is_whole hr (pa_cons (pv 0) pa_nil)) (pe_one (pe_chain op_le op_le pe_int (pv 0) (pe_gint T.g_LAST_DAY)))))), ?_⟩
  walk_at "rd"
  refine ⟨_, _, rfl, hk, ?_⟩
  walk_at "rd"
  · rename_i z
    subst z
    obtain ⟨i, rfl⟩ := ty_int hk.1
    walk_at "rd"
    · exact qb h (by simp [dayB, *])
    · exact qb h (by simp [dayB, *])
  · rename_i z
    refine qb h ?_
    cases x with
    | int i => exact absurd (int_ty hk.1) z
    | _ => rfl
--@ month_days
def sp_month_days (K : PySem.W.Frag) : Sp := fun vs H Q _ => ∃ y m, vs = [.int y, .int m] ∧ 1 ≤ m ∧ m ≤ 12 ∧ Q (.int (Cal.mlen y m)) H
theorem sc_month_days : FnScope ["year", "month"] ["year", "month"] (defScope s_month_days) := ⟨rfl, rfl, rfl, by decide +kernel, rfl, by decide +kernel, by decide +kernel⟩
theorem d_month_days (S : Src K mg "month_days" s_month_days ["year", "month"]) (T : Txt K mg) (D_is_leap : Def P w K mg base 1 "is_leap" ["year"] (sp_is_leap K)) : Def P w K mg base 2 "month_days" ["year", "month"] (sp_month_days K) := by
  refine S.ok sc_month_days (fun vs H Q E h => ?_) (fun f cdv A outer s H vs Q E hr h => ?_)
  · obtain ⟨y, m, rfl, h1, h2, h⟩ := h
    rfl
  obtain ⟨y, m, rfl, h1, h2, h⟩ := h
  refine ⟨_, (pss_consN (ps_if (PW.pt (pw_and (pt_cmpR op_eq (pv 1) pe_int (nomark _)) (pw_and1 (pt_val (pe_fn D_is_leap hr (pa_cons (pv 0) pa_nil))))))
      (pss_one (ps_ret pe_int))
      pss_nil)
      (pss_one (ps_ret (pe_ix ix_tup (pe_gtup T.g_LENGTHS) (pe_op op_sub (pv 1) pe_int) (fun _ _ => rfl))))), ?_⟩
  have tab : ∀ a : Addr, (∀ H, SqT K H a [.int 31, .int 28, .int 31, .int 30, .int 31, .int 30, .int 31, .int 31, .int 30, .int 31, .int 30, .int 31]) → (m = 2 → Cal.leap y = false) →
      ∃ p xs i v, V.ref a = .ref p ∧ V.int (m - 1) = .int i ∧ SqT K H p xs ∧ atI xs i = some v ∧ Q v H := fun a ha hb => by
    have q : m = 1 ∨ m = 2 ∨ m = 3 ∨ m = 4 ∨ m = 5 ∨ m = 6 ∨ m = 7 ∨ m = 8 ∨ m = 9 ∨ m = 10 ∨ m = 11 ∨ m = 12 := by omega
    rcases q with rfl | rfl | rfl | rfl | rfl | rfl | rfl | rfl | rfl | rfl | rfl | rfl
    all_goals refine ⟨_, _, _, _, rfl, rfl, ha H, rfl, qi h (by simp [Cal.mlen, Cal.lp, *])⟩
  walk_at "rd"
  · refine ifB (fun hb => ?_) (fun hb => ?_)
    · exact qi h (by simp [Cal.mlen, Cal.lp, *])
    · intro a ha
      walk_at "rd"
      exact tab a ha (fun _ => hb)
  · intro a ha
    walk_at "rd"
    exact tab a ha (fun z => absurd z (by assumption))
--@ year_of
def sp_year_of (K : PySem.W.Frag) : Sp := fun vs H Q _ => ∃ d, vs = [.int d] ∧ ∀ y, Cal.ny y ≤ d → d < Cal.ny (y + 1) → Q (.int y) H
theorem sc_year_of : FnScope ["day", "year"] ["day"] (defScope s_year_of) := ⟨rfl, rfl, rfl, by decide +kernel, rfl, by decide +kernel, by decide +kernel⟩
theorem d_year_of (S : Src K mg "year_of" s_year_of ["day"]) (T : Txt K mg) (D_new_year : Def P w K mg base 1 "new_year" ["year"] (sp_new_year K)) : Def P w K mg base 2 "year_of" ["day"] (sp_year_of K) := by
  refine S.ok sc_year_of (fun vs H Q E h => ?_) (fun f cdv A outer s H vs Q E hr h => ?_)
  · obtain ⟨d, rfl, h⟩ := h
    rfl
  obtain ⟨d, rfl, h⟩ := h
  refine ⟨_, (pss_consN (ps_set (i := 1) sc_year_of.nd rfl (by first | exact Or.inl rfl | exact Or.inr rfl) (pe_op op_sub (pe_op op_add (pe_gint T.g_FIRST_YEAR) (pe_op op_fdivW (pe_op op_mul (pv 0) (pe_gint T.g_ROUND_YEARS)) (pe_gint T.g_ROUND_DAYS))) pe_int))
      (pss_consN (ps_while PassesOwn.never (pt_cmpR op_le (pe_fn D_new_year hr (pa_cons (pe_op op_add (pv 1) pe_int) pa_nil)) (pv 0) (nomark _))
      (pss_one (ps_set (i := 1) sc_year_of.nd rfl (by first | exact Or.inl rfl | exact Or.inr rfl) (pe_op op_add (pv 1) pe_int))))
      (pss_one (ps_ret (pv 1))))), ?_⟩
  walk_at "rd"
  refine ⟨fun n σ H' => H = H' ∧ ∃ y, σ = [some (.int d), some (.int y)] ∧ Cal.ny y ≤ d ∧ n = (d - Cal.ny y).toNat, ⟨_, rfl, _, rfl, Cal.year_guess, rfl⟩, ?_⟩
  rintro n σ H' ⟨rfl, y, rfl, hy, rfl⟩
  walk_at "rd"
  · refine ⟨_, fun σ' H' z => z, ?_⟩
    walk_at "rd"
    have e := Cal.ny_succ y
    have l := Cal.lp_01 y
    exact ⟨_, by omega, rfl, _, rfl, by assumption, rfl⟩
  · exact h y hy (by omega)
--@ Entry_row
def sp_e_row (k : Ek) (K : PySem.W.Frag) : Sp := fun vs H Q _ => L2.Ee4 fun a dx d x => L2.Aa3 (vs = [.ref a]) (IsEnt K H a dx k d x) (∀ q, H q = none → Q (.ref q) (upd H q (.tup (rowV k d x))))
theorem sc_Entry_row : FnScope ["self"] ["self"] (defScope s_Entry_row) := ⟨rfl, rfl, rfl, by decide +kernel, rfl, by decide +kernel, by decide +kernel⟩
theorem d_Entry_row (kd : Ek) (hk : kd = .turn ∨ kd = .base) (S : MethS K (cA K kd.cls) "row" "Entry.row" s_Entry_row ["self"]) (T : Txt K mg) (D_e_word : ∀ k : Ek, DefM P w K mg base 1 (cA K k.cls) "word" ["self"] (sp_e_word k K)) : DefM P w K mg base 2 (cA K kd.cls) "row" ["self"] (sp_e_row kd K) := by

  refine S.ok sc_Entry_row (fun vs H Q E h => ?_) (fun f cdv A outer s H vs Q E hr h => ?_)
  · obtain ⟨a, dx, d, x, rfl, e, h⟩ := h
    rfl
  obtain ⟨a, dx, d, x, rfl, e, h⟩ := h
  refine ⟨_, (pss_one (ps_ret (pe_tup (pa_cons (pe_methE0 D_e_word T.clE hr (pv 0)) (pa_cons (pe_fld (pv 0) rfl) pa_nil))))), ?_⟩
  rcases hk with rfl | rfl
  · walk_at "rd"
    refine ⟨.turn, a, dx, _, rfl, e, entF_word .turn d x, a, rfl, ?_⟩
    walk_at "rd"
    refine ⟨a, _, dx, _, _, rfl, e, T.clE .turn, T.naE_day .turn, rfl, ?_⟩
    walk_at "rd"
    intro q nq
    exact h q nq
  · walk_at "rd"
    refine ⟨.base, a, dx, _, rfl, e, entF_word .base d x, a, rfl, ?_⟩
    walk_at "rd"
    refine ⟨a, _, dx, _, _, rfl, e, T.clE .base, T.naE_day .base, rfl, ?_⟩
    walk_at "rd"
    intro q nq
    exact h q nq
--@ AmountEntry_init
def sp_AmountEntry_init (K : PySem.W.Frag) : Sp := fun vs H Q _ => L2.Ee5 fun p C dx d x => L2.Aa6 (vs = [.ref p, .int d, .int x]) (H p = some (.ins C dx [])) (Cls K C) (NoAttr K C "day") (NoAttr K C "amount") (Q .non (upd H p (.ins C dx [("day", .int d), ("amount", .int x)])))
theorem sc_AmountEntry_init : FnScope ["self", "day", "amount"] ["self", "day", "amount"] (defScope s_AmountEntry_init) := ⟨rfl, rfl, rfl, by decide +kernel, rfl, by decide +kernel, by decide +kernel⟩
theorem d_AmountEntry_init (x : Str) (S : MethS K (cA K x) "__init__" "AmountEntry.__init__" s_AmountEntry_init ["self", "day", "amount"]) (T : Txt K mg) (D_U_Entry_init : DefU P w K mg base 1 (cA K "Entry") "__init__" ["self", "day"] (sp_Entry_init K)) : DefM P w K mg base 2 (cA K x) "__init__" ["self", "day", "amount"] (sp_AmountEntry_init K) := by

  refine S.ok sc_AmountEntry_init (fun vs H Q E h => ?_) (fun f cdv A outer s H vs Q E hr h => ?_)
  · obtain ⟨p, C, dx, d, x, rfl, e, hc, n1, n2, h⟩ := h
    rfl
  obtain ⟨p, C, dx, d, x, rfl, e, hc, n1, n2, h⟩ := h
  refine ⟨_, (pss_consN (ps_expr (pe_unb D_U_Entry_init (pe_glob (v := .ref (cA K "Entry")) rfl T.m_Entry rfl) hr (pa_cons (pv 0) (pa_cons (pv 1) pa_nil))))
      (pss_one (ps_fld (pv 0) (pv 2) rfl))), ?_⟩
  walk_at "rd"
  refine ⟨p, C, dx, [], d, rfl, e, hc, n1, by decide, ?_⟩
  walk_at "rd"
  refine ⟨p, C, dx, _, rfl, upd_same, hc, n2, Nat.lt_of_le_of_lt (Nat.le_refl 1) (by decide), ?_⟩
  rw [upd_upd]
  exact h
--@ AmountEntry_row

theorem sc_AmountEntry_row : FnScope ["self"] ["self"] (defScope s_AmountEntry_row) := ⟨rfl, rfl, rfl, by decide +kernel, rfl, by decide +kernel, by decide +kernel⟩
theorem d_AmountEntry_row (kd : Ek) (hk : kd = .out ∨ kd = .fee ∨ kd = .pay ∨ kd = .due) (S : MethS K (cA K kd.cls) "row" "AmountEntry.row" s_AmountEntry_row ["self"]) (T : Txt K mg) (D_e_word : ∀ k : Ek, DefM P w K mg base 1 (cA K k.cls) "word" ["self"] (sp_e_word k K)) : DefM P w K mg base 2 (cA K kd.cls) "row" ["self"] (sp_e_row kd K) := by

  refine S.ok sc_AmountEntry_row (fun vs H Q E h => ?_) (fun f cdv A outer s H vs Q E hr h => ?_)
  · obtain ⟨a, dx, d, x, rfl, e, h⟩ := h
    rfl
  obtain ⟨a, dx, d, x, rfl, e, h⟩ := h
  refine ⟨_, (pss_one (ps_ret (pe_tup (pa_cons (pe_methE0 D_e_word T.clE hr (pv 0)) (pa_cons (pe_fld (pv 0) rfl) (pa_cons (pe_fld (pv 0) rfl) pa_nil)))))), ?_⟩
  rcases hk with rfl | rfl | rfl | rfl
  · walk_at "rd"
    refine ⟨.out, a, dx, _, rfl, e, entF_word .out d x, a, rfl, ?_⟩
    walk_at "rd"
    refine ⟨a, _, dx, _, _, rfl, e, T.clE .out, T.naE_day .out, rfl, ?_⟩
    walk_at "rd"
    refine ⟨a, _, dx, _, _, rfl, e, T.clE .out, T.naE_amount .out, rfl, ?_⟩
    walk_at "rd"
    intro q nq
    exact h q nq
  · walk_at "rd"
    refine ⟨.fee, a, dx, _, rfl, e, entF_word .fee d x, a, rfl, ?_⟩
    walk_at "rd"
    refine ⟨a, _, dx, _, _, rfl, e, T.clE .fee, T.naE_day .fee, rfl, ?_⟩
    walk_at "rd"
    refine ⟨a, _, dx, _, _, rfl, e, T.clE .fee, T.naE_amount .fee, rfl, ?_⟩
    walk_at "rd"
    intro q nq
    exact h q nq
  · walk_at "rd"
    refine ⟨.pay, a, dx, _, rfl, e, entF_word .pay d x, a, rfl, ?_⟩
    walk_at "rd"
    refine ⟨a, _, dx, _, _, rfl, e, T.clE .pay, T.naE_day .pay, rfl, ?_⟩
    walk_at "rd"
    refine ⟨a, _, dx, _, _, rfl, e, T.clE .pay, T.naE_amount .pay, rfl, ?_⟩
    walk_at "rd"
    intro q nq
    exact h q nq
  · walk_at "rd"
    refine ⟨.due, a, dx, _, rfl, e, entF_word .due d x, a, rfl, ?_⟩
    walk_at "rd"
    refine ⟨a, _, dx, _, _, rfl, e, T.clE .due, T.naE_day .due, rfl, ?_⟩
    walk_at "rd"
    refine ⟨a, _, dx, _, _, rfl, e, T.clE .due, T.naE_amount .due, rfl, ?_⟩
    walk_at "rd"
    intro q nq
    exact h q nq
--@ RateEntry_init
def sp_RateEntry_init (K : PySem.W.Frag) : Sp := fun vs H Q _ => L2.Ee5 fun p C dx d x => L2.Aa6 (vs = [.ref p, .int d, .int x]) (H p = some (.ins C dx [])) (Cls K C) (NoAttr K C "day") (NoAttr K C "rate") (Q .non (upd H p (.ins C dx [("day", .int d), ("rate", .int x)])))
theorem sc_RateEntry_init : FnScope ["self", "day", "rate"] ["self", "day", "rate"] (defScope s_RateEntry_init) := ⟨rfl, rfl, rfl, by decide +kernel, rfl, by decide +kernel, by decide +kernel⟩
theorem d_RateEntry_init (x : Str) (S : MethS K (cA K x) "__init__" "RateEntry.__init__" s_RateEntry_init ["self", "day", "rate"]) (T : Txt K mg) (D_U_Entry_init : DefU P w K mg base 1 (cA K "Entry") "__init__" ["self", "day"] (sp_Entry_init K)) : DefM P w K mg base 2 (cA K x) "__init__" ["self", "day", "rate"] (sp_RateEntry_init K) := by

  refine S.ok sc_RateEntry_init (fun vs H Q E h => ?_) (fun f cdv A outer s H vs Q E hr h => ?_)
  · obtain ⟨p, C, dx, d, x, rfl, e, hc, n1, n2, h⟩ := h
    rfl
  obtain ⟨p, C, dx, d, x, rfl, e, hc, n1, n2, h⟩ := h
  refine ⟨_, (pss_consN (ps_expr (pe_unb D_U_Entry_init (pe_glob (v := .ref (cA K "Entry")) rfl T.m_Entry rfl) hr (pa_cons (pv 0) (pa_cons (pv 1) pa_nil))))
      (pss_one (ps_fld (pv 0) (pv 2) rfl))), ?_⟩
  walk_at "rd"
  refine ⟨p, C, dx, [], d, rfl, e, hc, n1, by decide, ?_⟩
  walk_at "rd"
  refine ⟨p, C, dx, _, rfl, upd_same, hc, n2, Nat.lt_of_le_of_lt (Nat.le_refl 1) (by decide), ?_⟩
  rw [upd_upd]
  exact h
--@ RateEntry_row

theorem sc_RateEntry_row : FnScope ["self"] ["self"] (defScope s_RateEntry_row) := ⟨rfl, rfl, rfl, by decide +kernel, rfl, by decide +kernel, by decide +kernel⟩
theorem d_RateEntry_row (kd : Ek) (hk : kd = .rate ∨ kd = .late) (S : MethS K (cA K kd.cls) "row" "RateEntry.row" s_RateEntry_row ["self"]) (T : Txt K mg) (D_e_word : ∀ k : Ek, DefM P w K mg base 1 (cA K k.cls) "word" ["self"] (sp_e_word k K)) : DefM P w K mg base 2 (cA K kd.cls) "row" ["self"] (sp_e_row kd K) := by

  refine S.ok sc_RateEntry_row (fun vs H Q E h => ?_) (fun f cdv A outer s H vs Q E hr h => ?_)
  · obtain ⟨a, dx, d, x, rfl, e, h⟩ := h
    rfl
  obtain ⟨a, dx, d, x, rfl, e, h⟩ := h
  refine ⟨_, (pss_one (ps_ret (pe_tup (pa_cons (pe_methE0 D_e_word T.clE hr (pv 0)) (pa_cons (pe_fld (pv 0) rfl) (pa_cons (pe_fld (pv 0) rfl) pa_nil)))))), ?_⟩
  rcases hk with rfl | rfl
  · walk_at "rd"
    refine ⟨.rate, a, dx, _, rfl, e, entF_word .rate d x, a, rfl, ?_⟩
    walk_at "rd"
    refine ⟨a, _, dx, _, _, rfl, e, T.clE .rate, T.naE_day .rate, rfl, ?_⟩
    walk_at "rd"
    refine ⟨a, _, dx, _, _, rfl, e, T.clE .rate, T.naE_rate .rate, rfl, ?_⟩
    walk_at "rd"
    intro q nq
    exact h q nq
  · walk_at "rd"
    refine ⟨.late, a, dx, _, rfl, e, entF_word .late d x, a, rfl, ?_⟩
    walk_at "rd"
    refine ⟨a, _, dx, _, _, rfl, e, T.clE .late, T.naE_day .late, rfl, ?_⟩
    walk_at "rd"
    refine ⟨a, _, dx, _, _, rfl, e, T.clE .late, T.naE_rate .late, rfl, ?_⟩
    walk_at "rd"
    intro q nq
    exact h q nq
--@ Still_init
def sp_Still_init (K : PySem.W.Frag) : Sp := fun vs H Q _ => L2.Ee5 fun p C dx d x => L2.Aa6 (vs = [.ref p, .int d, .int x]) (H p = some (.ins C dx [])) (Cls K C) (NoAttr K C "day") (NoAttr K C "until") (Q .non (upd H p (.ins C dx [("day", .int d), ("until", .int x)])))
theorem sc_Still_init : FnScope ["self", "day", "until"] ["self", "day", "until"] (defScope s_Still_init) := ⟨rfl, rfl, rfl, by decide +kernel, rfl, by decide +kernel, by decide +kernel⟩
theorem d_Still_init (x : Str) (S : MethS K (cA K x) "__init__" "Still.__init__" s_Still_init ["self", "day", "until"]) (T : Txt K mg) (D_U_Entry_init : DefU P w K mg base 1 (cA K "Entry") "__init__" ["self", "day"] (sp_Entry_init K)) : DefM P w K mg base 2 (cA K x) "__init__" ["self", "day", "until"] (sp_Still_init K) := by

  refine S.ok sc_Still_init (fun vs H Q E h => ?_) (fun f cdv A outer s H vs Q E hr h => ?_)
  · obtain ⟨p, C, dx, d, x, rfl, e, hc, n1, n2, h⟩ := h
    rfl
  obtain ⟨p, C, dx, d, x, rfl, e, hc, n1, n2, h⟩ := h
  refine ⟨_, (pss_consN (ps_expr (pe_unb D_U_Entry_init (pe_glob (v := .ref (cA K "Entry")) rfl T.m_Entry rfl) hr (pa_cons (pv 0) (pa_cons (pv 1) pa_nil))))
      (pss_one (ps_fld (pv 0) (pv 2) rfl))), ?_⟩
  walk_at "rd"
  refine ⟨p, C, dx, [], d, rfl, e, hc, n1, by decide, ?_⟩
  walk_at "rd"
  refine ⟨p, C, dx, _, rfl, upd_same, hc, n2, Nat.lt_of_le_of_lt (Nat.le_refl 1) (by decide), ?_⟩
  rw [upd_upd]
  exact h
--@ Still_row

theorem sc_Still_row : FnScope ["self"] ["self"] (defScope s_Still_row) := ⟨rfl, rfl, rfl, by decide +kernel, rfl, by decide +kernel, by decide +kernel⟩
theorem d_Still_row (kd : Ek) (hk : kd = .still) (S : MethS K (cA K kd.cls) "row" "Still.row" s_Still_row ["self"]) (T : Txt K mg) (D_e_word : ∀ k : Ek, DefM P w K mg base 1 (cA K k.cls) "word" ["self"] (sp_e_word k K)) : DefM P w K mg base 2 (cA K kd.cls) "row" ["self"] (sp_e_row kd K) := by
  subst hk
  refine S.ok sc_Still_row (fun vs H Q E h => ?_) (fun f cdv A outer s H vs Q E hr h => ?_)
  · obtain ⟨a, dx, d, x, rfl, e, h⟩ := h
    rfl
  obtain ⟨a, dx, d, x, rfl, e, h⟩ := h
  refine ⟨_, (pss_one (ps_ret (pe_tup (pa_cons (pe_methE0 D_e_word T.clE hr (pv 0)) (pa_cons (pe_fld (pv 0) rfl) (pa_cons (pe_fld (pv 0) rfl) pa_nil)))))), ?_⟩
  · walk_at "rd"
    refine ⟨.still, a, dx, _, rfl, e, entF_word .still d x, a, rfl, ?_⟩
    walk_at "rd"
    refine ⟨a, _, dx, _, _, rfl, e, T.clE .still, T.naE_day .still, rfl, ?_⟩
    walk_at "rd"
    refine ⟨a, _, dx, _, _, rfl, e, T.clE .still, T.naE_until .still, rfl, ?_⟩
    walk_at "rd"
    intro q nq
    exact h q nq
--@ is_within
def sp_is_within (K : PySem.W.Frag) : Sp := fun vs H Q _ => L2.Ee4 fun x (T : String) a b => L2.Aa3 (vs = [x, .int a, .int b]) (IsKind K H x T) (Q (.bl (withB x a b)) H)
theorem sc_is_within : FnScope ["thing", "least", "most"] ["thing", "least", "most"] (defScope s_is_within) := ⟨rfl, rfl, rfl, by decide +kernel, rfl, by decide +kernel, by decide +kernel⟩
theorem d_is_within (S : Src K mg "is_within" s_is_within ["thing", "least", "most"]) (T : Txt K mg) (D_is_whole : Def P w K mg base 1 "is_whole" ["thing"] (sp_is_whole K)) : Def P w K mg base 2 "is_within" ["thing", "least", "most"] (sp_is_within K) := by
  refine S.ok sc_is_within (fun vs H Q E h => ?_) (fun f cdv A outer s H vs Q E hr h => ?_)
  · obtain ⟨x, Tk, a, b, rfl, hk, h⟩ := h
    rfl
  obtain ⟨x, Tk, a, b, rfl, hk, h⟩ := h
  refine ⟨_, (pss_one (ps_ret (pe_and (pe_fn D_is_whole hr (pa_cons (pv 0) pa_nil)) (pe_one (pe_chain op_le op_le (pv 1) (pv 0) (pv 2)))))), ?_⟩
  walk_at "rd"
  refine ⟨_, _, rfl, hk, ?_⟩
  walk_at "rd"
  · rename_i z
    subst z
    obtain ⟨i, rfl⟩ := ty_int hk.1
    walk_at "rd"
    · exact qb h (by simp [withB, *])
    · exact qb h (by simp [withB, *])
  · rename_i z
    refine qb h ?_
    cases x with
    | int i => exact absurd (int_ty hk.1) z
    | _ => rfl
--@ read_whole
def sp_read_whole (K : PySem.W.Frag) : Sp := fun vs H Q E => ∃ x T, vs = [x] ∧ IsKind K H x T ∧ (∀ z, x = .str z → z.length ≤ 1000) ∧ (∀ n, wholeT x = some n → Q (.int n) H) ∧ (wholeT x = none → E (.ref (cA K "NoText")) none H)
theorem sc_read_whole : FnScope ["text"] ["text"] (defScope s_read_whole) := ⟨rfl, rfl, rfl, by decide +kernel, rfl, by decide +kernel, by decide +kernel⟩
theorem d_read_whole (S : Src K mg "read_whole" s_read_whole ["text"]) (T : Txt K mg) (D_check_text : DefX P w K mg base 1 "check_text" ["thing"] (sp_check_text K)) (D_are_figures : Def P w K mg base 1 "are_figures" ["text"] (sp_are_figures K)) : DefX P w K mg base 2 "read_whole" ["text"] (sp_read_whole K) := by
  refine S.okXF sc_read_whole (fun vs H Q E h => ?_) (fun f cdv A outer s H vs Q E hr h => ?_)
  · obtain ⟨x, Tk, rfl, hk, hl, h, hE⟩ := h
    rfl
  obtain ⟨x, Tk, rfl, hk, hl, h, hE⟩ := h
  refine ⟨_, (pss_consN (ps_expr (pe_fnX (E := fun C d H' => Same H H' ∧ E C d H) D_check_text hr passX (pa_cons (pv 0) pa_nil)))
      (pss_consN (ps_if (PW.pt (pw_or (pt_not (pt_chain op_le op_le pe_int (pe_callB call_len rfl T.n_len PySem.boot_len (pa_cons (pv 0) pa_nil)) (pe_gint T.g_MOST_FIGURES))) (pw_or1 (pt_not (pt_val (pe_fn D_are_figures hr (pa_cons (pv 0) pa_nil)))))))
      (pss_one (ps_raise (E := fun C d H' => Same H H' ∧ E C d H) T.m_NoText T.x_NoText (fun _ _ _ _ _ _ _ I hx hE => xe_made I hx hE) (pa_cons pe_str pa_nil)))
      pss_nil)
      (pss_consN (ps_if (PW.pt (pw_and (pt_cmpR op_eq (pe_item_str (pv 0) pe_int (fun _ _ => rfl)) pe_str (nomark _)) (pw_and1 (pt_cmpR op_ne (pv 0) pe_str (nomark _)))))
      (pss_one (ps_raise (E := fun C d H' => Same H H' ∧ E C d H) T.m_NoText T.x_NoText (fun _ _ _ _ _ _ _ I hx hE => xe_made I hx hE) (pa_cons pe_str pa_nil)))
      pss_nil)
      (pss_one (ps_ret (pe_callTy call_intT rfl T.n_int PyProof.Rows.boot_int (pa_cons (pv 0) pa_nil))))))), ?_⟩
  have sz := sizeLine_eq
  walk_at "rd"
  refine ⟨x, Tk, rfl, hk, fun e => ?_, fun e => ?_⟩
  rotate_left
  · refine ⟨Same.refl _, hE ?_⟩
    cases x <;> first | rfl | skip
    cases hk.1
    exact absurd rfl e
  obtain ⟨z, rfl⟩ : ∃ z, x = .str z := by
    cases x <;> first | exact ⟨_, rfl⟩ | (cases hk.1 <;> exact absurd e (by decide))
  have zl := hl z rfl
  walk_at "rd"
  refine ⟨.str z, z.length, rfl, ⟨by omega, rfl⟩, ?_⟩
  walk_at "rd"
  · rename_i c1 c2
    exact ⟨Same.refl _, hE (if_neg fun q => c2 (by have y := q.1.2; rw [Array.length_toList] at y; show ((z.cps.size : Nat) : Int) ≤ 30; omega))⟩
  · rename_i c1 c2
    have l1 : 1 ≤ z.length := by omega
    have l2 : z.length ≤ 30 := by omega
    have ll : z.cps.toList.length = z.length := Array.length_toList
    obtain ⟨c, hc⟩ : ∃ c, z.cps[0]? = some c := ⟨_, Array.getElem?_eq_getElem (show 0 < z.cps.size from l1)⟩
    have hc' : z.cps.toList[0]? = some c := by rw [Array.getElem?_toList]; exact hc
    cases eq : z.cps.toList.all figB with
    | false =>
      walk_at "rd"
      exact ⟨Same.refl _, hE (if_neg fun q => by rw [eq] at q; cases q.2.2)⟩
    | true =>
      walk_at "rd"
      refine ⟨z, 0, c, rfl, rfl, by decide, by decide, by omega, hc, ?_⟩
      walk_at "rd"
      · rename_i v1 v2
        refine ⟨Same.refl _, hE (if_neg fun q => v2 (str_V ?_))⟩
        have l1 := q.2.1 (hc'.trans (by rw [show c = 48 by have y := (V_str v1).trans o_list; simpa using y]))
        rw [o_list]
        match e : z.cps.toList, l1, hc' with
        | [d], _, hc' =>
          cases hc'
          have y := (V_str v1).trans o_list
          simpa using y
      · rename_i v1 v2
        have ez := (V_str v2).trans o_list
        walk_at "rd"
        refine ⟨z, _, rfl, by omega, fig_text eq (fun q => by rw [q] at ll; exact absurd ll (by simp; omega)) (by omega), ?_⟩
        exact ⟨Same.refl _, h _ (if_pos ⟨⟨by omega, by omega⟩, fun _ => by rw [ez]; rfl, eq⟩)⟩
      · rename_i v1
        walk_at "rd"
        refine ⟨z, _, rfl, by omega, fig_text eq (fun q => by rw [q] at ll; exact absurd ll (by simp; omega)) (by omega), ?_⟩
        exact ⟨Same.refl _, h _ (if_pos ⟨⟨by omega, by omega⟩, fun q => absurd (by rw [hc'] at q; cases q; exact str_V o_list.symm) v1, eq⟩)⟩
  · rename_i c1
    exact ⟨Same.refl _, hE (if_neg fun q => c1 (by have y := q.1.1; rw [Array.length_toList] at y; show 1 ≤ ((z.cps.size : Nat) : Int); omega))⟩
--@ show_cents
def sp_show_cents (K : PySem.W.Frag) : Sp := fun vs H Q _ => ∃ (n : Int), vs = [.int n] ∧ n.natAbs < 10 ^ 80 ∧ Q (.str (shC n)) H
theorem sc_show_cents : FnScope ["cents", "sign", "coins", "rest"] ["cents"] (defScope s_show_cents) := ⟨rfl, rfl, rfl, by decide +kernel, rfl, by decide +kernel, by decide +kernel⟩
theorem d_show_cents (S : Src K mg "show_cents" s_show_cents ["cents"]) (T : Txt K mg) (D_show_whole : Def P w K mg base 1 "show_whole" ["number"] (sp_show_whole K)) (D_two_figures : Def P w K mg base 1 "two_figures" ["number"] (sp_two_figures K)) : Def P w K mg base 2 "show_cents" ["cents"] (sp_show_cents K) := by
  refine S.ok sc_show_cents (fun vs H Q E h => ?_) (fun f cdv A outer s H vs Q E hr h => ?_)
  · obtain ⟨n, rfl, hn, h⟩ := h
    rfl
  obtain ⟨n, rfl, hn, h⟩ := h
  refine ⟨_, (pss_consN (ps_set (i := 1) sc_show_cents.nd rfl (by first | exact Or.inl rfl | exact Or.inr rfl) (pe_ifExp (pt_cmpR op_lt (pv 0) pe_int (nomark _)) pe_str pe_str))
      (pss_consN (ps_set (i := 2) sc_show_cents.nd rfl (by first | exact Or.inl rfl | exact Or.inr rfl) (pe_fn D_show_whole hr (pa_cons (pe_op op_fdiv (pe_callB call_abs rfl T.n_abs PyProof.Rows.boot_abs (pa_cons (pv 0) pa_nil)) pe_int) pa_nil)))
      (pss_consN (ps_set (i := 3) sc_show_cents.nd rfl (by first | exact Or.inl rfl | exact Or.inr rfl) (pe_fn D_two_figures hr (pa_cons (pe_op op_mod (pe_callB call_abs rfl T.n_abs PyProof.Rows.boot_abs (pa_cons (pv 0) pa_nil)) pe_int) pa_nil)))
      (pss_one (ps_ret (pe_fstr (pj_val (pv 1) (pj_val (pv 2) (pj_txt pe_str (pj_val (pv 3) pj_nil)))))))))), ?_⟩
  have sz := sizeLine_eq
  have ab : (if n < 0 then -n else n) = (n.natAbs : Int) := by split <;> omega
  have eq1 : (if n < 0 then -n else n) / 100 = ((n.natAbs / 100 : Nat) : Int) := by rw [ab]; omega
  have eq2 : (if n < 0 then -n else n) % 100 = ((n.natAbs % 100 : Nat) : Int) := by rw [ab]; omega
  have q80 : n.natAbs / 100 < 10 ^ 80 := Nat.lt_of_le_of_lt (Nat.div_le_self _ _) hn
  have m99 : n.natAbs % 100 < 100 := Nat.mod_lt _ (by decide)
  have dl := dg_len 79 _ q80
  have tl : (Str.ofString (toString ((n.natAbs / 100 : Nat) : Int))).length ≤ 80 := by
    have q := congrArg List.length (dg_text (n.natAbs / 100))
    rw [Array.length_toList] at q
    show (Str.ofString (toString ((n.natAbs / 100 : Nat) : Int))).cps.size ≤ 80
    omega
  have sl : (sgn n).length ≤ 1 := by unfold sgn; split <;> decide +kernel
  have e1 : (Str.ofString ".").length = 1 := by decide +kernel
  have lt2 : ∀ m : Int, (two m).length = 2 := fun _ => rfl
  have e2 : (two ((n.natAbs % 100 : Nat) : Int)).length = 2 := rfl
  have key : ∀ g : Str, sgn n = g → Q (.str (((Str.empty ++ g ++ Str.ofString (toString ((n.natAbs / 100 : Nat) : Int))) ++ Str.ofString ".") ++ two ((n.natAbs % 100 : Nat) : Int))) H := fun g hg => by
    rw [show Str.empty ++ g = sgn n by rw [hg]; exact str_ext (by rw [app_list]; rfl)]
    exact h
  walk_at "rd"
  · rename_i c
    have sg : sgn n = Str.ofString "-" := by unfold sgn; rw [if_pos c]
    have ky := key _ sg
    rw [sg] at sl
    have s0 : (Str.empty ++ Str.ofString "-").length ≤ 1 := by decide +kernel
    refine ⟨n.natAbs / 100, congrArg (fun v => [V.int v]) eq1, q80, ?_⟩
    walk_at "rd"
    refine ⟨by rw [Str.length_append]; omega, ?_⟩
    walk_at "rd"
    refine ⟨by rw [Str.length_append, Str.length_append, lt2]; omega, ?_⟩
    walk_at "rd"
    rw [eq2]
    refine ⟨by rw [Str.length_append, Str.length_append, Str.length_append, e2]; omega, ?_⟩
    exact ky
  · rename_i c
    have sg : sgn n = Str.ofString "" := by unfold sgn; rw [if_neg c]
    have ky := key _ sg
    rw [sg] at sl
    have s0 : (Str.empty ++ Str.ofString "").length ≤ 1 := by decide +kernel
    refine ⟨n.natAbs / 100, congrArg (fun v => [V.int v]) eq1, q80, ?_⟩
    walk_at "rd"
    refine ⟨by rw [Str.length_append]; omega, ?_⟩
    walk_at "rd"
    refine ⟨by rw [Str.length_append, Str.length_append, lt2]; omega, ?_⟩
    walk_at "rd"
    rw [eq2]
    refine ⟨by rw [Str.length_append, Str.length_append, Str.length_append, e2]; omega, ?_⟩
    exact ky
--@ _law_month_size
theorem mon_at {y m : Int} (h1 : 1 ≤ m) (h2 : m ≤ 12) : atI [V.int 31, .int (28 + Cal.lp y), .int 31, .int 30, .int 31, .int 30, .int 31, .int 31, .int 30, .int 31, .int 30, .int 31] (m - 1) = some (.int (Cal.mlen y m)) := by
  obtain ⟨k, rfl⟩ : ∃ k : Nat, m = k := ⟨m.toNat, by omega⟩
  match k, h1, h2 with
  | 1, _, _ | 2, _, _ | 3, _, _ | 4, _, _ | 5, _, _ | 6, _, _ | 7, _, _ | 8, _, _ | 9, _, _ | 10, _, _ | 11, _, _ | 12, _, _ => rfl
def sp__law_month_size (K : PySem.W.Frag) : Sp := fun vs H Q _ => ∃ y m, vs = [.int y, .int m] ∧ 1 ≤ m ∧ m ≤ 12 ∧ Q (.int (Cal.mlen y m)) H
theorem sc__law_month_size : FnScope ["_law_year", "_law_month"] ["_law_year", "_law_month"] (defScope s__law_month_size) := ⟨rfl, rfl, rfl, by decide +kernel, rfl, by decide +kernel, by decide +kernel⟩
theorem d__law_month_size (S : Src K mg "_law_month_size" s__law_month_size ["_law_year", "_law_month"]) (T : Txt K mg) (D__law_leap : Def P w K mg base 1 "_law_leap" ["_law_year"] (sp__law_leap K)) : Def P w K mg base 2 "_law_month_size" ["_law_year", "_law_month"] (sp__law_month_size K) := by
  refine S.okF sc__law_month_size (fun vs H Q E h => ?_) (fun f cdv A outer s H vs Q E hr h => ?_)
  · obtain ⟨y, m, rfl, h1, h2, h⟩ := h
    rfl
  obtain ⟨y, m, rfl, h1, h2, h⟩ := h
  refine ⟨_, (pss_one (ps_ret (pe_ix ix_list (pe_lst (pa_cons pe_int (pa_cons (pe_op op_add pe_int (pe_callTy call_int1 rfl T.n_int PyProof.Rows.boot_int (pa_cons (pe_fn D__law_leap hr (pa_cons (pv 0) pa_nil)) pa_nil))) (pa_cons pe_int (pa_cons pe_int (pa_cons pe_int (pa_cons pe_int (pa_cons pe_int (pa_cons pe_int (pa_cons pe_int (pa_cons pe_int (pa_cons pe_int (pa_cons pe_int pa_nil))))))))))))) (pe_op op_sub (pv 1) pe_int) (fun _ _ => rfl)))), ?_⟩
  walk_at "rd"
  refine .inr ⟨_, rfl, ?_⟩
  walk_at "rd"
  intro p np
  walk_at "rd"
  refine ⟨p, _, _, _, rfl, rfl, SqL.of upd_same, mon_at (y := y) h1 h2, ?_⟩
  exact ⟨same_new np _, h⟩
--@ _law_shown
def sp__law_shown (K : PySem.W.Frag) : Sp := fun vs H Q _ => ∃ (n : Int), vs = [.int n] ∧ n.natAbs < 10 ^ 80 ∧ ∀ z, z = shC n → Q (.str z) H
theorem sc__law_shown : FnScope ["_law_number", "_law_sign"] ["_law_number"] (defScope s__law_shown) := ⟨rfl, rfl, rfl, by decide +kernel, rfl, by decide +kernel, by decide +kernel⟩
theorem d__law_shown (S : Src K mg "_law_shown" s__law_shown ["_law_number"]) (T : Txt K mg) (D__law_two : Def P w K mg base 1 "_law_two" ["_law_number"] (sp__law_two K)) : Def P w K mg base 2 "_law_shown" ["_law_number"] (sp__law_shown K) := by
  refine S.ok sc__law_shown (fun vs H Q E h => ?_) (fun f cdv A outer s H vs Q E hr h => ?_)
  · obtain ⟨n, rfl, hn, h⟩ := h
    rfl
  obtain ⟨n, rfl, hn, h⟩ := h
  refine ⟨_, (pss_consN (ps_set (i := 1) sc__law_shown.nd rfl (by first | exact Or.inl rfl | exact Or.inr rfl) pe_str)
      (pss_consN (ps_if (pt_cmpR op_lt (pv 0) pe_int (nomark _))
      (pss_consN (ps_set (i := 1) sc__law_shown.nd rfl (by first | exact Or.inl rfl | exact Or.inr rfl) pe_str)
      (pss_one (ps_set (i := 0) sc__law_shown.nd rfl (by first | exact Or.inl rfl | exact Or.inr rfl) (pe_op op_sub pe_int (pv 0)))))
      pss_nil)
      (pss_one (ps_ret (pe_op op_add_str (pe_op op_add_str (pe_op op_add_str (pv 1) (pe_callTy call_str_int rfl T.n_str PyProof.Rows.boot_str (pa_cons (pe_op op_fdiv (pv 0) pe_int) pa_nil))) pe_str) (pe_fn D__law_two hr (pa_cons (pe_op op_mod (pv 0) pe_int) pa_nil))))))), ?_⟩
  replace h := h _ rfl
  have sz := sizeLine_eq
  have q80 : n.natAbs / 100 < 10 ^ 80 := Nat.lt_of_le_of_lt (Nat.div_le_self _ _) hn
  have dl := dg_len 79 _ q80
  have tl : (Str.ofString (toString ((n.natAbs / 100 : Nat) : Int))).length ≤ 80 := by
    have q := congrArg List.length (dg_text (n.natAbs / 100))
    rw [Array.length_toList] at q
    show (Str.ofString (toString ((n.natAbs / 100 : Nat) : Int))).cps.size ≤ 80
    omega
  have e1 : (Str.ofString ".").length = 1 := by decide +kernel
  have lt : ∀ n : Int, (two n).length = 2 := fun n => rfl
  have sl : (sgn n).length ≤ 1 := by unfold sgn; split <;> decide +kernel
  have b1 : ((n.natAbs / 100 : Nat) : Int).natAbs.log2 < 1920 := log2_small (by omega) (by omega)
  walk_at "rd"
  · rename_i c _
    have f1 : (0 - n) / 100 = ((n.natAbs / 100 : Nat) : Int) := by omega
    have f2 : (0 - n) % 100 = ((n.natAbs % 100 : Nat) : Int) := by omega
    have sg : Str.ofString "-" = sgn n := by unfold sgn; rw [if_pos c]
    rw [f1]
    refine ⟨b1, ?_⟩
    walk_at "rd"
    rw [sg]
    refine ⟨by omega, ?_⟩
    walk_at "rd"
    refine ⟨by rw [Str.length_append]; omega, ?_⟩
    walk_at "rd"
    rw [f2]
    refine ⟨by rw [Str.length_append, Str.length_append, lt]; omega, ?_⟩
    exact h
  · rename_i c
    have f1 : n / 100 = ((n.natAbs / 100 : Nat) : Int) := by omega
    have f2 : n % 100 = ((n.natAbs % 100 : Nat) : Int) := by omega
    have sg : Str.ofString "" = sgn n := by unfold sgn; rw [if_neg c]
    rw [f1]
    refine ⟨b1, ?_⟩
    walk_at "rd"
    rw [sg]
    refine ⟨by omega, ?_⟩
    walk_at "rd"
    refine ⟨by rw [Str.length_append]; omega, ?_⟩
    walk_at "rd"
    rw [f2]
    refine ⟨by rw [Str.length_append, Str.length_append, lt]; omega, ?_⟩
    exact h
--@ _law_row
def sp__law_row (K : PySem.W.Frag) : Sp := fun vs H Q _ => ∃ c b wd, vs = [.int c, .int b, .int wd] ∧ (0 ≤ b ∧ b ≤ 999800) ∧ (1 ≤ wd ∧ wd ≤ 200) ∧ ∀ r k d x H', Same H H' → H r = none → H' r = some (.tup (row3 k d x)) → k ≠ .base → (b ≤ d ∧ d < b + 200) → ValB k d x → Q (.ref r) H'
theorem sc__law_row : FnScope ["_law_cell", "_law_base", "_law_wide", "_law_xs", "_law_day", "_law_words", "_law_word"] ["_law_cell", "_law_base", "_law_wide"] (defScope s__law_row) := ⟨rfl, rfl, rfl, by decide +kernel, rfl, by decide +kernel, by decide +kernel⟩
theorem d__law_row (S : Src K mg "_law_row" s__law_row ["_law_cell", "_law_base", "_law_wide"]) (T : Txt K mg) (D__law_draws : Def P w K mg base 1 "_law_draws" ["_law_cell", "_law_many"] (sp__law_draws K)) (D__law_value : Def P w K mg base 1 "_law_value" ["_law_word", "_law_day", "_law_xs"] (sp__law_value K)) : Def P w K mg base 2 "_law_row" ["_law_cell", "_law_base", "_law_wide"] (sp__law_row K) := by
  refine S.ok sc__law_row (fun vs H Q E h => ?_) (fun f cdv A outer s H vs Q E hr h => ?_)
  · obtain ⟨c, b, wd, rfl, ⟨b0, b1⟩, ⟨w0, w1⟩, h⟩ := h
    rfl
  obtain ⟨c, b, wd, rfl, ⟨b0, b1⟩, ⟨w0, w1⟩, h⟩ := h
  refine ⟨_, (pss_consN (ps_set (i := 3) sc__law_row.nd rfl (by first | exact Or.inl rfl | exact Or.inr rfl) (pe_fn D__law_draws hr (pa_cons (pv 0) (pa_cons pe_int pa_nil))))
      (pss_consN (ps_set (i := 4) sc__law_row.nd rfl (by first | exact Or.inl rfl | exact Or.inr rfl) (pe_op op_add (pv 1) (pe_op op_mod (pe_ix ix_list (pv 3) pe_int (fun _ _ => rfl)) (pe_ix ix_list (pe_lst (pa_cons pe_int (pa_cons pe_int (pa_cons (pv 2) pa_nil)))) (pe_op op_mod (pe_ix ix_list (pv 3) pe_int (fun _ _ => rfl)) pe_int) (fun _ _ => rfl)))))
      (pss_consN (ps_set (i := 5) sc__law_row.nd rfl (by first | exact Or.inl rfl | exact Or.inr rfl) (pe_lst (pa_cons pe_str (pa_cons pe_str (pa_cons pe_str (pa_cons pe_str (pa_cons pe_str (pa_cons pe_str (pa_cons pe_str (pa_cons pe_str (pa_cons pe_str (pa_cons pe_str (pa_cons pe_str (pa_cons pe_str (pa_cons pe_str pa_nil)))))))))))))))
      (pss_consN (ps_set (i := 6) sc__law_row.nd rfl (by first | exact Or.inl rfl | exact Or.inr rfl) (pe_ix ix_list (pv 5) (pe_op op_mod (pe_ix ix_list (pv 3) pe_int (fun _ _ => rfl)) pe_int) (fun _ _ => rfl)))
      (pss_one (ps_ret (pe_tup (pa_cons (pv 6) (pa_cons (pv 4) (pa_cons (pe_fn D__law_value hr (pa_cons (pv 6) (pa_cons (pv 4) (pa_cons (pv 3) pa_nil)))) pa_nil)))))))))), ?_⟩
  have sz := sizeLine_eq
  walk_at "rd"
  intro p ns H1 s1 np ep nl nn
  have nl8 : ns.length = 8 := by omega
  obtain ⟨n0, n1, n2, n3, n4, n5, n6, n7, rfl⟩ := eightI nl8
  have p0 := nn n0 (by simp)
  have p1 := nn n1 (by simp)
  have p2 := nn n2 (by simp)
  have hp : SqL K H1 p (List.map V.int [n0, n1, n2, n3, n4, n5, n6, n7]) := SqL.of ep
  walk_at "rd"
  refine ⟨p, _, _, _, rfl, rfl, hp, rfl, ?_⟩
  walk_at "rd"
  intro l2 m2
  have s2 := same_new m2 (.lst [.int 4, .int 30, .int wd])
  have hp2 := s2.seq hp
  have z2 : SqL K (upd H1 l2 (.lst [.int 4, .int 30, .int wd])) l2 [.int 4, .int 30, .int wd] := SqL.of upd_same
  generalize upd H1 l2 (.lst [.int 4, .int 30, .int wd]) = H2 at s2 hp2 z2 ⊢
  have a0 := Int.emod_nonneg n1 (show (3 : Int) ≠ 0 by decide)
  have a1 := Int.emod_lt_of_pos n1 (show (0 : Int) < 3 by decide)
  walk_at "rd"
  refine ⟨p, _, _, _, rfl, rfl, hp2, rfl, ?_⟩
  walk_at "rd"
  obtain ⟨m, am, hm⟩ := at_three (a := 4) (b := 30) (c := wd) a0 a1
  refine ⟨l2, _, _, _, rfl, rfl, z2, am, ?_⟩
  have c0 := Int.emod_nonneg n0 (show m ≠ 0 by omega)
  have c1 := Int.emod_lt_of_pos n0 (show 0 < m by omega)
  walk_at "rd"
  intro l3 m3
  have s3 := same_new m3 (.lst [.str "out", .str "pay", .str "due", .str "rate", .str "fee", .str "pay", .str "out", .str "late", .str "turn", .str "due", .str "still", .str "pay", .str "rate"])
  have hp3 := s3.seq hp2
  have z3 : SqL K (upd H2 l3 (.lst [.str "out", .str "pay", .str "due", .str "rate", .str "fee", .str "pay", .str "out", .str "late", .str "turn", .str "due", .str "still", .str "pay", .str "rate"])) l3 [.str "out", .str "pay", .str "due", .str "rate", .str "fee", .str "pay", .str "out", .str "late", .str "turn", .str "due", .str "still", .str "pay", .str "rate"] := SqL.of upd_same
  generalize upd H2 l3 (.lst [.str "out", .str "pay", .str "due", .str "rate", .str "fee", .str "pay", .str "out", .str "late", .str "turn", .str "due", .str "still", .str "pay", .str "rate"]) = H3 at s3 hp3 z3 ⊢
  have e0 := Int.emod_nonneg n2 (show (13 : Int) ≠ 0 by decide)
  have e1 := Int.emod_lt_of_pos n2 (show (0 : Int) < 13 by decide)
  walk_at "rd"
  refine ⟨p, _, _, _, rfl, rfl, hp3, rfl, ?_⟩
  walk_at "rd"
  obtain ⟨v, hv, hw⟩ := at_mem (xs := [.str "out", .str "pay", .str "due", .str "rate", .str "fee", .str "pay", .str "out", .str "late", .str "turn", .str "due", .str "still", .str "pay", .str "rate"]) e0 (by simpa using e1)
  obtain ⟨k, rfl, hk⟩ := ((mem1 ⟨.out, rfl, by intro z; cases z⟩ (mem1 ⟨.pay, rfl, by intro z; cases z⟩ (mem1 ⟨.due, rfl, by intro z; cases z⟩ (mem1 ⟨.rate, rfl, by intro z; cases z⟩ (mem1 ⟨.fee, rfl, by intro z; cases z⟩ (mem1 ⟨.pay, rfl, by intro z; cases z⟩ (mem1 ⟨.out, rfl, by intro z; cases z⟩ (mem1 ⟨.late, rfl, by intro z; cases z⟩ (mem1 ⟨.turn, rfl, by intro z; cases z⟩ (mem1 ⟨.due, rfl, by intro z; cases z⟩ (mem1 ⟨.still, rfl, by intro z; cases z⟩ (mem1 ⟨.pay, rfl, by intro z; cases z⟩ (mem1 ⟨.rate, rfl, by intro z; cases z⟩ mem0))))))))))))) : ∀ v ∈ ([.str "out", .str "pay", .str "due", .str "rate", .str "fee", .str "pay", .str "out", .str "late", .str "turn", .str "due", .str "still", .str "pay", .str "rate"] : List V), ∃ k : Ek, v = .str k.word ∧ k ≠ .base) v hw
  refine ⟨l3, _, _, _, rfl, rfl, z3, hv, ?_⟩
  walk_at "rd"
  refine ⟨k, _, p, _, rfl, hp3, nl8, nn, ⟨by omega, by omega⟩, hk, fun x hx => ?_⟩
  walk_at "rd"
  intro r nr
  exact h r k _ x _ (s1.trans (s2.trans (s3.trans (same_new nr _)))) (same_gone (s1.trans (s2.trans s3)) nr) upd_same hk ⟨by omega, by omega⟩ hx
--@ is_date
def dateV : V → V → V → Bool
  | .int y, .int m, .int d => decide (1 ≤ m) && decide (m ≤ 12) && decide (1 ≤ d) && decide (d ≤ Cal.mlen y m)
  | _, _, _ => false
theorem dateV_iff {y m d : Int} : dateV (.int y) (.int m) (.int d) = true ↔ Cal.IsDate y m d := by
  simp only [dateV, Bool.and_eq_true, decide_eq_true_eq]
  exact ⟨fun h => ⟨h.1.1.1, h.1.1.2, h.1.2, h.2⟩, fun h => ⟨⟨⟨h.1, h.2⟩, h.3⟩, h.4⟩⟩
theorem dateV_no1 {x y z : V} (h : ∀ i, x ≠ .int i) : dateV x y z = false := by
  cases x <;> first | rfl | exact absurd rfl (h _)
theorem dateV_no2 {x y z : V} (h : ∀ i, y ≠ .int i) : dateV x y z = false := by
  cases x <;> first | rfl | (cases y <;> first | rfl | exact absurd rfl (h _))
theorem dateV_no3 {x y z : V} (h : ∀ i, z ≠ .int i) : dateV x y z = false := by
  cases x <;> first | rfl | (cases y <;> first | rfl | (cases z <;> first | rfl | exact absurd rfl (h _)))
def sp_is_date (K : PySem.W.Frag) : Sp := fun vs H Q _ => L2.Ee6 fun x y z S T U => L2.Aa5 (vs = [x, y, z]) (IsKind K H x S) (IsKind K H y T) (IsKind K H z U) (Q (.bl (dateV x y z)) H)
theorem sc_is_date : FnScope ["year", "month", "day"] ["year", "month", "day"] (defScope s_is_date) := ⟨rfl, rfl, rfl, by decide +kernel, rfl, by decide +kernel, by decide +kernel⟩
theorem d_is_date (S : Src K mg "is_date" s_is_date ["year", "month", "day"]) (T : Txt K mg) (D_is_whole : Def P w K mg base 1 "is_whole" ["thing"] (sp_is_whole K)) (D_month_days : Def P w K mg base 2 "month_days" ["year", "month"] (sp_month_days K)) : Def P w K mg base 3 "is_date" ["year", "month", "day"] (sp_is_date K) := by
  refine S.ok sc_is_date (fun vs H Q E h => ?_) (fun f cdv A outer s H vs Q E hr h => ?_)
  · obtain ⟨x, y, z, Sk, Tk, Uk, rfl, kx, ky, kz, h⟩ := h
    rfl
  obtain ⟨x, y, z, Sk, Tk, Uk, rfl, kx, ky, kz, h⟩ := h
  refine ⟨_, (pss_consN (ps_if (pt_not (PW.pt (pw_and (pt_val (pe_fn D_is_whole hr (pa_cons (pv 0) pa_nil))) (pw_and (pt_val (pe_fn D_is_whole hr (pa_cons (pv 1) pa_nil))) (pw_and1 (pt_val (pe_fn D_is_whole hr (pa_cons (pv 2) pa_nil))))))))
      (pss_one (ps_ret pe_bl))
      pss_nil)
      (pss_one (ps_ret (pe_and (pe_chain op_le op_le pe_int (pv 1) pe_int) (pe_one (pe_chain op_le op_le pe_int (pv 2) (pe_fn D_month_days hr (pa_cons (pv 0) (pa_cons (pv 1) pa_nil))))))))), ?_⟩
  walk_at "rd"
  refine ⟨_, _, rfl, kx, ?_⟩
  walk_at "rd"
  · rename_i q1
    refine ⟨_, _, rfl, ky, ?_⟩
    walk_at "rd"
    · rename_i q2
      refine ⟨_, _, rfl, kz, ?_⟩
      walk_at "rd"
      · rename_i q3
        exact qb h (dateV_no3 fun i e => by subst e; simp [int_ty kz.1] at q3)
      · rename_i q3
        have e3 : Uk = "int" := by simpa using q3
        subst q1 q2 e3
        obtain ⟨i, rfl⟩ := ty_int kx.1
        obtain ⟨j, rfl⟩ := ty_int ky.1
        obtain ⟨k, rfl⟩ := ty_int kz.1
        walk_at "rd"
        · exact qb h (by simp [dateV, *])
        · exact qb h (by simp [dateV, *])
        · exact qb h (by simp [dateV, *])
        · exact qb h (by simp [dateV, *])
    · rename_i q2
      walk_at "rd"
      exact qb h (dateV_no2 fun i e => by subst e; exact q2 (int_ty ky.1))
  · rename_i q1
    walk_at "rd"
    exact qb h (dateV_no1 fun i e => by subst e; exact q1 (int_ty kx.1))
--@ date_of
def sp_date_of (K : PySem.W.Frag) : Sp := fun vs H Q _ => ∃ d, vs = [.int d] ∧ ∀ y m r p, Cal.IsDate y m r → Cal.num y m r = d → H p = none → Q (.ref p) (upd H p (.tup [.int y, .int m, .int r]))
theorem sc_date_of : FnScope ["day", "year", "month", "rest"] ["day"] (defScope s_date_of) := ⟨rfl, rfl, rfl, by decide +kernel, rfl, by decide +kernel, by decide +kernel⟩
theorem d_date_of (S : Src K mg "date_of" s_date_of ["day"]) (T : Txt K mg) (D_year_of : Def P w K mg base 2 "year_of" ["day"] (sp_year_of K)) (D_new_year : Def P w K mg base 1 "new_year" ["year"] (sp_new_year K)) (D_month_days : Def P w K mg base 2 "month_days" ["year", "month"] (sp_month_days K)) : Def P w K mg base 3 "date_of" ["day"] (sp_date_of K) := by
  refine S.ok sc_date_of (fun vs H Q E h => ?_) (fun f cdv A outer s H vs Q E hr h => ?_)
  · obtain ⟨d, rfl, h⟩ := h
    rfl
  obtain ⟨d, rfl, h⟩ := h
  refine ⟨_, (pss_consN (ps_set (i := 1) sc_date_of.nd rfl (by first | exact Or.inl rfl | exact Or.inr rfl) (pe_fn D_year_of hr (pa_cons (pv 0) pa_nil)))
      (pss_consN (ps_set (i := 2) sc_date_of.nd rfl (by first | exact Or.inl rfl | exact Or.inr rfl) pe_int)
      (pss_consN (ps_set (i := 3) sc_date_of.nd rfl (by first | exact Or.inl rfl | exact Or.inr rfl) (pe_op op_sub (pv 0) (pe_fn D_new_year hr (pa_cons (pv 1) pa_nil))))
      (pss_consN (ps_while PassesOwn.never (pt_cmpR op_ge (pv 3) (pe_fn D_month_days hr (pa_cons (pv 1) (pa_cons (pv 2) pa_nil))) (nomark _))
      (pss_consN (ps_set (i := 3) sc_date_of.nd rfl (by first | exact Or.inl rfl | exact Or.inr rfl) (pe_op op_sub (pv 3) (pe_fn D_month_days hr (pa_cons (pv 1) (pa_cons (pv 2) pa_nil)))))
      (pss_one (ps_set (i := 2) sc_date_of.nd rfl (by first | exact Or.inl rfl | exact Or.inr rfl) (pe_op op_add (pv 2) pe_int)))))
      (pss_one (ps_ret (pe_tup (pa_cons (pv 1) (pa_cons (pv 2) (pa_cons (pe_op op_add (pv 3) pe_int) pa_nil)))))))))), ?_⟩
  walk_at "rd"
  intro y hy1 hy2
  walk_at "rd"
  have e := Cal.ny_succ y
  refine ⟨fun n σ H' => H = H' ∧ ∃ m r, σ = [some (.int d), some (.int y), some (.int m), some (.int r)] ∧ 1 ≤ m ∧ m ≤ 12 ∧ r = d - Cal.ny y - Cal.cum y m ∧ 0 ≤ r ∧ n = r.toNat, ⟨_, rfl, _, _, rfl, by decide, by decide, (by simp [Cal.cum]), by omega, rfl⟩, ?_⟩
  rintro n σ H' ⟨rfl, m, r, rfl, m1, m2, hr, r0, rfl⟩
  have b := @Cal.mlen_in y m m1 m2
  walk_at "rd"
  · refine ⟨_, fun σ' H' z => z, ?_⟩
    walk_at "rd"
    have c := @Cal.cum_in y m m1 m2
    have c12 := Cal.cum_12 y
    have m3 : m ≤ 11 := by
      by_cases q : m = 12
      · subst q; omega
      · omega
    have cs := @Cal.cum_succ y m m1 m3
    exact ⟨_, by omega, rfl, _, _, rfl, by omega, by omega, by omega, by omega, rfl⟩
  · intro p hp
    exact h _ _ _ p ⟨m1, m2, by omega, by omega⟩ (by unfold Cal.num; omega) hp
--@ is_third
def sp_is_third (K : PySem.W.Frag) : Sp := fun vs H Q _ => L2.Ee4 fun (k : Ek) d x (T : String) => L2.Aa5 (vs = [.str k.word, .int d, x]) (k ≠ .turn) (k ≠ .base) (IsKind K H x T) (Q (.bl (withB x (loE k d) (hiE k))) H)
theorem sc_is_third : FnScope ["word", "day", "thing"] ["word", "day", "thing"] (defScope s_is_third) := ⟨rfl, rfl, rfl, by decide +kernel, rfl, by decide +kernel, by decide +kernel⟩
theorem d_is_third (S : Src K mg "is_third" s_is_third ["word", "day", "thing"]) (T : Txt K mg) (D_is_within : Def P w K mg base 2 "is_within" ["thing", "least", "most"] (sp_is_within K)) : Def P w K mg base 3 "is_third" ["word", "day", "thing"] (sp_is_third K) := by
  refine S.okF sc_is_third (fun vs H Q E h => ?_) (fun f cdv A outer s H vs Q E hr h => ?_)
  · obtain ⟨k, d, x, Tk, rfl, hk, hb, kn, h⟩ := h
    rfl
  obtain ⟨k, d, x, Tk, rfl, hk, hb, kn, h⟩ := h
  refine ⟨_, (pss_consN (ps_if (pt_cmpR op_eq (pv 0) pe_str (nomark _))
      (pss_one (ps_ret (pe_fn D_is_within hr (pa_cons (pv 2) (pa_cons (pe_un un_neg (pe_gint T.g_MOST_AMOUNT)) (pa_cons (pe_gint T.g_MOST_AMOUNT) pa_nil))))))
      pss_nil)
      (pss_consN (ps_if (pt_cmpR op_in_seq (pv 0) (pe_tup (pa_cons pe_str (pa_cons pe_str pa_nil))) (by with_unfolding_all rfl))
      (pss_one (ps_ret (pe_fn D_is_within hr (pa_cons (pv 2) (pa_cons pe_int (pa_cons (pe_gint T.g_MOST_RATE) pa_nil))))))
      pss_nil)
      (pss_consN (ps_if (pt_cmpR op_eq (pv 0) pe_str (nomark _))
      (pss_one (ps_ret (pe_fn D_is_within hr (pa_cons (pv 2) (pa_cons (pe_op op_add (pv 1) pe_int) (pa_cons (pe_op op_add (pe_gint T.g_LAST_DAY) pe_int) pa_nil))))))
      pss_nil)
      (pss_one (ps_ret (pe_fn D_is_within hr (pa_cons (pv 2) (pa_cons pe_int (pa_cons (pe_gint T.g_MOST_AMOUNT) pa_nil))))))))), ?_⟩
  have sz := sizeLine_eq
  cases k with
  | base => exact absurd rfl hb
  | turn => exact absurd rfl hk
  | fee =>
    dsimp only [Ek.word]
    dsimp only [loE, hiE] at h
    walk_at "rd"
    refine ⟨x, Tk, _, _, rfl, kn, ?_⟩
    exact (show Same H H ∧ _ from ⟨Same.refl _, h⟩)
  | out =>
    dsimp only [Ek.word]
    dsimp only [loE, hiE] at h
    walk_at "rd"
    intro t nt
    have st := same_new nt (.tup [.str "rate", .str "late"])
    have kn' := kind_same kn st
    walk_at "rd"
    refine ⟨t, _, rfl, .inr (SqT.of upd_same), rfl, rfl, ?_⟩
    refine ⟨_, rfl, ?_⟩
    refine ifB (fun z => ?_) (fun z => ?_)
    · first
        | exact absurd z (by decide)
        | (walk_at "rd"
           refine ⟨x, Tk, _, _, rfl, kn', ?_⟩
           first | exact ⟨st, h⟩ | exact h)
    · first
        | exact absurd z (by decide)
        | (walk_at "rd"
           refine ⟨x, Tk, _, _, rfl, kn', ?_⟩
           first | exact ⟨st, h⟩ | exact h)
  | pay =>
    dsimp only [Ek.word]
    dsimp only [loE, hiE] at h
    walk_at "rd"
    intro t nt
    have st := same_new nt (.tup [.str "rate", .str "late"])
    have kn' := kind_same kn st
    walk_at "rd"
    refine ⟨t, _, rfl, .inr (SqT.of upd_same), rfl, rfl, ?_⟩
    refine ⟨_, rfl, ?_⟩
    refine ifB (fun z => ?_) (fun z => ?_)
    · first
        | exact absurd z (by decide)
        | (walk_at "rd"
           refine ⟨x, Tk, _, _, rfl, kn', ?_⟩
           first | exact ⟨st, h⟩ | exact h)
    · first
        | exact absurd z (by decide)
        | (walk_at "rd"
           refine ⟨x, Tk, _, _, rfl, kn', ?_⟩
           first | exact ⟨st, h⟩ | exact h)
  | due =>
    dsimp only [Ek.word]
    dsimp only [loE, hiE] at h
    walk_at "rd"
    intro t nt
    have st := same_new nt (.tup [.str "rate", .str "late"])
    have kn' := kind_same kn st
    walk_at "rd"
    refine ⟨t, _, rfl, .inr (SqT.of upd_same), rfl, rfl, ?_⟩
    refine ⟨_, rfl, ?_⟩
    refine ifB (fun z => ?_) (fun z => ?_)
    · first
        | exact absurd z (by decide)
        | (walk_at "rd"
           refine ⟨x, Tk, _, _, rfl, kn', ?_⟩
           first | exact ⟨st, h⟩ | exact h)
    · first
        | exact absurd z (by decide)
        | (walk_at "rd"
           refine ⟨x, Tk, _, _, rfl, kn', ?_⟩
           first | exact ⟨st, h⟩ | exact h)
  | rate =>
    dsimp only [Ek.word]
    dsimp only [loE, hiE] at h
    walk_at "rd"
    intro t nt
    have st := same_new nt (.tup [.str "rate", .str "late"])
    have kn' := kind_same kn st
    walk_at "rd"
    refine ⟨t, _, rfl, .inr (SqT.of upd_same), rfl, rfl, ?_⟩
    refine ⟨_, rfl, ?_⟩
    refine ifB (fun z => ?_) (fun z => ?_)
    · first
        | exact absurd z (by decide)
        | (walk_at "rd"
           refine ⟨x, Tk, _, _, rfl, kn', ?_⟩
           first | exact ⟨st, h⟩ | exact h)
    · first
        | exact absurd z (by decide)
        | (walk_at "rd"
           refine ⟨x, Tk, _, _, rfl, kn', ?_⟩
           first | exact ⟨st, h⟩ | exact h)
  | late =>
    dsimp only [Ek.word]
    dsimp only [loE, hiE] at h
    walk_at "rd"
    intro t nt
    have st := same_new nt (.tup [.str "rate", .str "late"])
    have kn' := kind_same kn st
    walk_at "rd"
    refine ⟨t, _, rfl, .inr (SqT.of upd_same), rfl, rfl, ?_⟩
    refine ⟨_, rfl, ?_⟩
    refine ifB (fun z => ?_) (fun z => ?_)
    · first
        | exact absurd z (by decide)
        | (walk_at "rd"
           refine ⟨x, Tk, _, _, rfl, kn', ?_⟩
           first | exact ⟨st, h⟩ | exact h)
    · first
        | exact absurd z (by decide)
        | (walk_at "rd"
           refine ⟨x, Tk, _, _, rfl, kn', ?_⟩
           first | exact ⟨st, h⟩ | exact h)
  | still =>
    dsimp only [Ek.word]
    dsimp only [loE, hiE] at h
    walk_at "rd"
    intro t nt
    have st := same_new nt (.tup [.str "rate", .str "late"])
    have kn' := kind_same kn st
    walk_at "rd"
    refine ⟨t, _, rfl, .inr (SqT.of upd_same), rfl, rfl, ?_⟩
    refine ⟨_, rfl, ?_⟩
    refine ifB (fun z => ?_) (fun z => ?_)
    · first
        | exact absurd z (by decide)
        | (walk_at "rd"
           refine ⟨x, Tk, _, _, rfl, kn', ?_⟩
           first | exact ⟨st, h⟩ | exact h)
    · first
        | exact absurd z (by decide)
        | (walk_at "rd"
           refine ⟨x, Tk, _, _, rfl, kn', ?_⟩
           first | exact ⟨st, h⟩ | exact h)
--@ read_coins
def sp_read_coins (K : PySem.W.Frag) : Sp := fun vs H Q E => ∃ z, vs = [.str z] ∧ z.length ≤ 1000 ∧ (∀ n, coinsL z.cps.toList = some n → Q (.int n) H) ∧ (coinsL z.cps.toList = none → E (.ref (cA K "NoText")) none H)
theorem sc_read_coins : FnScope ["text", "parts"] ["text"] (defScope s_read_coins) := ⟨rfl, rfl, rfl, by decide +kernel, rfl, by decide +kernel, by decide +kernel⟩
theorem d_read_coins (S : Src K mg "read_coins" s_read_coins ["text"]) (T : Txt K mg) (D_are_figures : Def P w K mg base 1 "are_figures" ["text"] (sp_are_figures K)) (D_read_whole : DefX P w K mg base 2 "read_whole" ["text"] (sp_read_whole K)) : DefX P w K mg base 3 "read_coins" ["text"] (sp_read_coins K) := by
  refine S.okXF sc_read_coins (fun vs H Q E h => ?_) (fun f cdv A outer s H vs Q E hr h => ?_)
  · obtain ⟨z, rfl, zl, h, hE⟩ := h
    rfl
  obtain ⟨z, rfl, zl, h, hE⟩ := h
  refine ⟨_, (pss_consN (ps_set (i := 1) sc_read_coins.nd rfl (by first | exact Or.inl rfl | exact Or.inr rfl) (pe_bm PySem.F.plainAttrs_str PySem.F.slot_str_partition PySem.F.type_str_partition mt_partition (pv 0) (pa_cons pe_str pa_nil)))
      (pss_consN (ps_if (PW.pt (pw_or (pt_cmpR op_ne (pe_callB call_len rfl T.n_len PySem.boot_len (pa_cons (pe_ix ix_tup (pv 1) pe_int (fun _ _ => rfl)) pa_nil)) pe_int (nomark _)) (pw_or1 (pt_not (pt_val (pe_fn D_are_figures hr (pa_cons (pe_ix ix_tup (pv 1) pe_int (fun _ _ => rfl)) pa_nil)))))))
      (pss_one (ps_raise (E := fun C d H' => Same H H' ∧ E C d H) T.m_NoText T.x_NoText (fun _ _ _ _ _ _ _ I hx hE => xe_made I hx hE) (pa_cons pe_str pa_nil)))
      pss_nil)
      (pss_one (ps_ret (pe_op op_add (pe_op op_mul pe_int (pe_fnX (E := fun C d H' => Same H H' ∧ E C d H) D_read_whole hr passX (pa_cons (pe_ix ix_tup (pv 1) pe_int (fun _ _ => rfl)) pa_nil))) (pe_callTy call_intT rfl T.n_int PyProof.Rows.boot_int (pa_cons (pe_ix ix_tup (pv 1) pe_int (fun _ _ => rfl)) pa_nil))))))), ?_⟩
  have sz := sizeLine_eq
  walk_at "rd"
  intro p np
  have sp := same_new np (.tup [V.str (Txt.partition z (Str.ofString ".")).fst, V.str (Txt.partition z (Str.ofString ".")).snd.fst, V.str (Txt.partition z (Str.ofString ".")).snd.snd])
  have ep := at_new (.tup [V.str (Txt.partition z (Str.ofString ".")).fst, V.str (Txt.partition z (Str.ofString ".")).snd.fst, V.str (Txt.partition z (Str.ofString ".")).snd.snd]) np
  generalize upd H p (.tup [V.str (Txt.partition z (Str.ofString ".")).fst, V.str (Txt.partition z (Str.ofString ".")).snd.fst, V.str (Txt.partition z (Str.ofString ".")).snd.snd]) = H1 at sp ep ⊢
  have pt := part_one z 46
  rw [show (⟨#[46]⟩ : Str) = Str.ofString "." by decide +kernel] at pt
  generalize (Txt.partition z (Str.ofString ".")).1 = a at pt ep
  generalize (Txt.partition z (Str.ofString ".")).2.1 = b at pt ep
  generalize (Txt.partition z (Str.ofString ".")).2.2 = c at pt ep
  have cp := coins_part (a := a.cps.toList) (b := c.cps.toList) pt
  have al : a.cps.toList.length = a.length := Array.length_toList
  have cl : c.cps.toList.length = c.length := Array.length_toList
  have ll : z.cps.toList.length = z.length := Array.length_toList
  have c1 : c.length ≤ 1000 := by
    rcases pt with pt | pt
    · rw [← cl, pt.2]; decide
    · have := congrArg List.length pt.1
      rw [List.length_append, List.length_cons] at this
      omega
  walk_at "rd"
  refine ⟨.str c, c.length, rfl, ⟨by omega, rfl⟩, ?_⟩
  walk_at "rd"
  · rename_i q
    exact hE (cp.trans (if_neg fun y => q (by have := y.1; omega)))
  rename_i q
  have c2 : c.cps.toList.length = 2 := by omega
  walk_at "rd"
  cases eq : c.cps.toList.all figB with
  | false =>
    walk_at "rd"
    exact hE (cp.trans (if_neg fun y => by rw [eq] at y; cases y.2))
  | true =>
    rw [if_pos ⟨c2, eq⟩] at cp
    walk_at "rd"
    have a1 : a.length ≤ 1000 := by
      rcases pt with pt | pt
      · rw [pt.2] at c2; cases c2
      · have := congrArg List.length pt.1
        rw [List.length_append, List.length_cons] at this
        omega
    walk_at "rd"
    refine ⟨.str a, "str", rfl, ⟨.str _, by simp [kinds]⟩, (fun y e => by cases e; exact a1), fun n hn => ?_, fun hn => ?_⟩
    · walk_at "rd"
      refine ⟨c, _, rfl, by omega, fig_text eq (fun y => by rw [y] at c2; cases c2) (by omega), ?_⟩
      walk_at "rd"
      exact h _ (cp.trans (by rw [show wholeL a.cps.toList = some n from hn]; rfl))
    · exact ⟨sp, hE (cp.trans (by rw [show wholeL a.cps.toList = none from hn]; rfl))⟩
--@ show_rate
def sp_show_rate (K : PySem.W.Frag) : Sp := fun vs H Q _ => ∃ (n : Int), vs = [.int n] ∧ n.natAbs < 10 ^ 80 ∧ Q (.str (shC n)) H
theorem sc_show_rate : FnScope ["rate"] ["rate"] (defScope s_show_rate) := ⟨rfl, rfl, rfl, by decide +kernel, rfl, by decide +kernel, by decide +kernel⟩
theorem d_show_rate (S : Src K mg "show_rate" s_show_rate ["rate"]) (T : Txt K mg) (D_show_cents : Def P w K mg base 2 "show_cents" ["cents"] (sp_show_cents K)) : Def P w K mg base 3 "show_rate" ["rate"] (sp_show_rate K) := by
  refine S.ok sc_show_rate (fun vs H Q E h => ?_) (fun f cdv A outer s H vs Q E hr h => ?_)
  · obtain ⟨n, rfl, hn, h⟩ := h
    rfl
  obtain ⟨n, rfl, hn, h⟩ := h
  refine ⟨_, (pss_one (ps_ret (pe_fn D_show_cents hr (pa_cons (pv 0) pa_nil)))), ?_⟩
  walk_at "rd"
  exact h
--@ _law_date
def sp__law_date (K : PySem.W.Frag) : Sp := fun vs H Q _ => ∃ d, vs = [.int d] ∧ 0 ≤ d ∧ ∀ y m r p, Cal.IsDate y m r → Cal.num y m r = d → H p = none → Q (.ref p) (upd H p (.tup [.int y, .int m, .int r]))
theorem sc__law_date : FnScope ["_law_day", "_law_year", "_law_rest", "_law_month"] ["_law_day"] (defScope s__law_date) := ⟨rfl, rfl, rfl, by decide +kernel, rfl, by decide +kernel, by decide +kernel⟩
theorem d__law_date (S : Src K mg "_law_date" s__law_date ["_law_day"]) (T : Txt K mg) (D__law_leap : Def P w K mg base 1 "_law_leap" ["_law_year"] (sp__law_leap K)) (D__law_month_size : Def P w K mg base 2 "_law_month_size" ["_law_year", "_law_month"] (sp__law_month_size K)) : Def P w K mg base 3 "_law_date" ["_law_day"] (sp__law_date K) := by
  refine S.ok sc__law_date (fun vs H Q E h => ?_) (fun f cdv A outer s H vs Q E hr h => ?_)
  · obtain ⟨d, rfl, h0, h⟩ := h
    rfl
  obtain ⟨d, rfl, h0, h⟩ := h
  refine ⟨_, (pss_consN (ps_set (i := 1) sc__law_date.nd rfl (by first | exact Or.inl rfl | exact Or.inr rfl) (pe_op op_add pe_int (pe_op op_mul (pe_op op_fdiv (pv 0) pe_int) pe_int)))
      (pss_consN (ps_set (i := 2) sc__law_date.nd rfl (by first | exact Or.inl rfl | exact Or.inr rfl) (pe_op op_mod (pv 0) pe_int))
      (pss_consN (ps_while PassesOwn.never (pt_cmpR op_ge (pv 2) (pe_op op_add pe_int (pe_callTy call_int1 rfl T.n_int PyProof.Rows.boot_int (pa_cons (pe_fn D__law_leap hr (pa_cons (pv 1) pa_nil)) pa_nil))) (nomark _))
      (pss_consN (ps_set (i := 2) sc__law_date.nd rfl (by first | exact Or.inl rfl | exact Or.inr rfl) (pe_op op_sub (pe_op op_sub (pv 2) pe_int) (pe_callTy call_int1 rfl T.n_int PyProof.Rows.boot_int (pa_cons (pe_fn D__law_leap hr (pa_cons (pv 1) pa_nil)) pa_nil))))
      (pss_one (ps_set (i := 1) sc__law_date.nd rfl (by first | exact Or.inl rfl | exact Or.inr rfl) (pe_op op_add (pv 1) pe_int)))))
      (pss_consN (ps_set (i := 3) sc__law_date.nd rfl (by first | exact Or.inl rfl | exact Or.inr rfl) pe_int)
      (pss_consN (ps_while PassesOwn.never (pt_cmpR op_ge (pv 2) (pe_fn D__law_month_size hr (pa_cons (pv 1) (pa_cons (pv 3) pa_nil))) (nomark _))
      (pss_consN (ps_set (i := 2) sc__law_date.nd rfl (by first | exact Or.inl rfl | exact Or.inr rfl) (pe_op op_sub (pv 2) (pe_fn D__law_month_size hr (pa_cons (pv 1) (pa_cons (pv 3) pa_nil)))))
      (pss_one (ps_set (i := 3) sc__law_date.nd rfl (by first | exact Or.inl rfl | exact Or.inr rfl) (pe_op op_add (pv 3) pe_int)))))
      (pss_one (ps_ret (pe_tup (pa_cons (pv 1) (pa_cons (pv 3) (pa_cons (pe_op op_add (pv 2) pe_int) pa_nil))))))))))), ?_⟩
  have lpd : ∀ y : Int, (if Cal.leap y = true then (1 : Int) else 0) = Cal.lp y := fun y => rfl
  walk_at "rd"
  refine ⟨fun n σ H' => H = H' ∧ ∃ y r : Int, σ = [some (.int d), some (.int y), some (.int r), none] ∧ Cal.ny y + r = d ∧ 0 ≤ r ∧ n = r.toNat, ⟨_, rfl, _, _, rfl, ?_, by omega, rfl⟩, ?_⟩
  · unfold Cal.ny
    omega
  rintro n σ H' ⟨rfl, y, r, rfl, e1, r0, rfl⟩
  have e := Cal.ny_succ y
  have l := Cal.lp_01 y
  walk_at "rd"
  refine .inr ⟨_, rfl, ?_⟩
  rw [lpd]
  walk_at "rd"
  · rename_i q
    refine ⟨_, fun σ' H' z => z, ?_⟩
    walk_at "rd"
    refine .inr ⟨_, rfl, ?_⟩
    rw [lpd]
    walk_at "rd"
    exact ⟨(r - 365 - Cal.lp y).toNat, by omega, rfl, _, _, rfl, by omega, by omega, rfl⟩
  rename_i q
  refine ⟨fun n σ H' => H = H' ∧ ∃ m r : Int, σ = [some (.int d), some (.int y), some (.int r), some (.int m)] ∧ 1 ≤ m ∧ m ≤ 12 ∧ r = d - Cal.ny y - Cal.cum y m ∧ 0 ≤ r ∧ n = r.toNat, ⟨_, rfl, _, _, rfl, by decide, by decide, (by simp [Cal.cum]; omega), by omega, rfl⟩, ?_⟩
  rintro n σ H' ⟨rfl, m, r', rfl, m1, m2, hr, r0', rfl⟩
  have b := @Cal.mlen_in y m m1 m2
  walk_at "rd"
  · refine ⟨_, fun σ' H' z => z, ?_⟩
    walk_at "rd"
    have c := @Cal.cum_in y m m1 m2
    have c12 := Cal.cum_12 y
    have m3 : m ≤ 11 := by
      by_cases q : m = 12
      · subst q; omega
      · omega
    have cs := @Cal.cum_succ y m m1 m3
    exact ⟨(r' - Cal.mlen y m).toNat, by omega, rfl, _, _, rfl, by omega, by omega, by omega, by omega, rfl⟩
  · intro p hp
    exact h _ _ _ p ⟨m1, m2, by omega, by omega⟩ (by unfold Cal.num; omega) hp
--@ _law_drawn
theorem third_small {k : Ek} {d x : Int} (h : ThirdOk k d x) (nk : k ≠ .still) (nt : k ≠ .turn) : x.natAbs < 10 ^ 20 := by
  cases k <;> first | exact absurd rfl nk | exact absurd rfl nt | exact absurd h id | (have h' := h; dsimp only [ThirdOk] at h'; omega)
def sp__law_drawn (K : PySem.W.Frag) : Sp := fun vs H Q _ => ∃ c, vs = [.int c] ∧ ∀ r k (d x : Int) H', Same H H' → H r = none → H' r = some (.tup (row3 k d x)) → k ≠ .base → (0 ≤ d ∧ d ≤ 999998) → ThirdOk k d x → (k = .still → x ≤ 999999) → (k ≠ .turn → x.natAbs < 10 ^ 20) → Q (.ref r) H'
theorem sc__law_drawn : FnScope ["_law_cell", "_law_xs", "_law_base", "_law_word", "_law_day", "_law_value_here"] ["_law_cell"] (defScope s__law_drawn) := ⟨rfl, rfl, rfl, by decide +kernel, rfl, by decide +kernel, by decide +kernel⟩
theorem d__law_drawn (S : Src K mg "_law_drawn" s__law_drawn ["_law_cell"]) (T : Txt K mg) (D__law_draws : Def P w K mg base 1 "_law_draws" ["_law_cell", "_law_many"] (sp__law_draws K)) (D__law_row : Def P w K mg base 2 "_law_row" ["_law_cell", "_law_base", "_law_wide"] (sp__law_row K)) : Def P w K mg base 3 "_law_drawn" ["_law_cell"] (sp__law_drawn K) := by
  refine S.ok sc__law_drawn (fun vs H Q E h => ?_) (fun f cdv A outer s H vs Q E hr h => ?_)
  · obtain ⟨c, rfl, h⟩ := h
    rfl
  obtain ⟨c, rfl, h⟩ := h
  refine ⟨_, (pss_consN (ps_set (i := 1) sc__law_drawn.nd rfl (by first | exact Or.inl rfl | exact Or.inr rfl) (pe_fn D__law_draws hr (pa_cons (pe_op op_fdiv (pv 0) pe_int) (pa_cons pe_int pa_nil))))
      (pss_consN (ps_set (i := 2) sc__law_drawn.nd rfl (by first | exact Or.inl rfl | exact Or.inr rfl) (pe_op op_mod (pe_ix ix_list (pv 1) pe_int (fun _ _ => rfl)) pe_int))
      (pss_consN (ps_asg (pe_fn D__law_row hr (pa_cons (pv 0) (pa_cons (pv 2) (pa_cons pe_int pa_nil)))) (pg_tup rfl (pgs_cons (pg_name (i := 3) sc__law_drawn.nd rfl (by first | exact Or.inl rfl | exact Or.inr rfl)) (pgs_cons (pg_name (i := 4) sc__law_drawn.nd rfl (by first | exact Or.inl rfl | exact Or.inr rfl)) (pgs_cons (pg_name (i := 5) sc__law_drawn.nd rfl (by first | exact Or.inl rfl | exact Or.inr rfl)) pgs_nil)))))
      (pss_consN (ps_if (pt_cmpR op_eq (pv 3) pe_str (nomark _))
      (pss_one (ps_set (i := 5) sc__law_drawn.nd rfl (by first | exact Or.inl rfl | exact Or.inr rfl) (pe_callB (call_min2 rfl) rfl T.n_min PyProof.Rows.boot_min (pa_cons pe_int (pa_cons (pv 5) pa_nil)))))
      pss_nil)
      (pss_one (ps_ret (pe_tup (pa_cons (pv 3) (pa_cons (pv 4) (pa_cons (pv 5) pa_nil)))))))))), ?_⟩
  have sz := sizeLine_eq
  walk_at "rd"
  intro px ns H1 s1 npx epx nl nn
  obtain ⟨n0, n1, rfl⟩ : ∃ a b, ns = [a, b] := by
    match ns, nl with
    | [a, b], _ => exact ⟨a, b, rfl⟩
    | [], q => simp at q
    | [_], q => simp at q
    | _ :: _ :: _ :: _, q => simp at q; omega
  have p0 := nn n0 (by simp)
  walk_at "rd"
  refine ⟨px, _, _, _, rfl, rfl, SqL.of epx, rfl, ?_⟩
  have b0 := Int.emod_nonneg n0 (show (999800 : Int) ≠ 0 by decide)
  have b1 := Int.emod_lt_of_pos n0 (show (0 : Int) < 999800 by decide)
  walk_at "rd"
  intro r k d x H2 s2 nr er kb ⟨dl, dh⟩ ⟨tv, ts⟩
  have e2 := s2 _ _ epx
  dsimp only [row3] at er
  refine ⟨r, _, rfl, SqT.of er, rfl, ?_⟩
  walk_at "rd"
  · rename_i c
    obtain rfl := word_still c
    have tv' : d + 1 ≤ x ∧ x ≤ 1000000 := tv
    intro p np
    have q1 : d + 1 ≤ (if x < 999999 then x else 999999) ∧ (if x < 999999 then x else 999999) ≤ 999999 := by split <;> omega
    exact h p .still d _ _ (s1.trans (s2.trans (same_new np _))) (same_gone (s1.trans s2) np) upd_same kb ⟨by omega, by omega⟩ ⟨q1.1, by omega⟩ (fun _ => q1.2) (fun _ => by omega)
  · rename_i c
    intro p np
    have nk : k ≠ .still := fun z => c (by rw [z]; rfl)
    exact h p k d x _ (s1.trans (s2.trans (same_new np _))) (same_gone (s1.trans s2) np) upd_same kb ⟨by omega, by omega⟩ tv (fun z => absurd z nk) (third_small tv nk)
--@ day_of
theorem sum_mlen (y : Int) : ∀ n : Nat, n ≤ 11 → ((List.range n).map fun i : Nat => Cal.mlen y (1 + (i : Int))).sum = Cal.cum y ((n : Int) + 1)
  | 0, _ => by simp [Cal.cum]
  | n + 1, h => by
    have ih := sum_mlen y n (by omega)
    rw [List.range_succ, List.map_append, List.sum_append, ih]
    have cs := @Cal.cum_succ y ((n : Int) + 1) (by omega) (by omega)
    rw [show ((n + 1 : Nat) : Int) + 1 = (n : Int) + 1 + 1 by omega, cs]
    simp [Int.add_comm]
theorem xs_ints {xs : List V} {n : Nat} {f : Nat → Int} (hl : xs.length = n) (h : ∀ (j : Nat) (v : V), xs[j]? = some v → v = V.int (f j)) : xs = ((List.range n).map f).map V.int := by
  apply List.ext_getElem?
  intro j
  by_cases hj : j < n
  · have e : xs[j]? = some xs[j] := List.getElem?_eq_getElem (by omega)
    rw [e, h j _ e, List.getElem?_map, List.getElem?_map, List.getElem?_range hj]
    rfl
  · rw [List.getElem?_eq_none (by omega), List.getElem?_eq_none (by simp; omega)]
/-- the day of a date, if it is one -/
def dayV : V → V → V → Option Int
  | .int y, .int m, .int d => if dateV (.int y) (.int m) (.int d) = true ∧ 0 ≤ Cal.num y m d ∧ Cal.num y m d ≤ 999999 then some (Cal.num y m d) else none
  | _, _, _ => none
theorem dayV_no {x y z : V} (h : dateV x y z = false) : dayV x y z = none := by
  cases x <;> first | rfl | (cases y <;> first | rfl | (cases z <;> first | rfl | simp [dayV, h]))
theorem date_ints {x y z : V} (h : dateV x y z = true) : ∃ i j k, x = .int i ∧ y = .int j ∧ z = .int k := by
  cases x <;> first | cases h | (cases y <;> first | cases h | (cases z <;> first | cases h | exact ⟨_, _, _, rfl, rfl, rfl⟩))
theorem dayV_yes {y m d : Int} (h : dateV (.int y) (.int m) (.int d) = true) (n : 0 ≤ Cal.num y m d ∧ Cal.num y m d ≤ 999999) : dayV (.int y) (.int m) (.int d) = some (Cal.num y m d) := if_pos ⟨h, n⟩
theorem dayV_out {y m d : Int} (n : ¬ (0 ≤ Cal.num y m d ∧ Cal.num y m d ≤ 999999)) : dayV (.int y) (.int m) (.int d) = none := if_neg (fun q => n q.2)
def sp_day_of (K : PySem.W.Frag) : Sp := fun vs H Q E => L2.Ee6 fun x y z S T U => L2.Aa6 (vs = [x, y, z]) (IsKind K H x S) (IsKind K H y T) (IsKind K H z U) ((∀ n, dayV x y z = some n → Q (.int n) H)) ((dayV x y z = none → E (.ref (cA K "NoDay")) none H))
theorem sc_day_of : FnScope ["year", "month", "day", "months_ahead", "number"] ["year", "month", "day"] (defScope s_day_of) := ⟨rfl, rfl, rfl, by decide +kernel, rfl, by decide +kernel, by decide +kernel⟩
theorem d_day_of (S : Src K mg "day_of" s_day_of ["year", "month", "day"]) (T : Txt K mg) (D_is_date : Def P w K mg base 3 "is_date" ["year", "month", "day"] (sp_is_date K)) (D_month_days : Def P w K mg base 2 "month_days" ["year", "month"] (sp_month_days K)) (D_new_year : Def P w K mg base 1 "new_year" ["year"] (sp_new_year K)) (D_is_day : Def P w K mg base 2 "is_day" ["thing"] (sp_is_day K)) : DefC P w K mg base 4 "day_of" ["year", "month", "day"] (sp_day_of K) := by
  refine S.okXFc sc_day_of (fun vs H Q E h => ?_) (fun f cdv A outer s H vs Q E hr h => ?_)
  · obtain ⟨x, y, z, S1, S2, S3, rfl, kx, ky, kz, h, hE⟩ := h
    rfl
  obtain ⟨x, y, z, S1, S2, S3, rfl, kx, ky, kz, h, hE⟩ := h
  refine ⟨_, (pss_consN (ps_if (pt_not (pt_val (pe_fn D_is_date hr (pa_cons (pv 0) (pa_cons (pv 1) (pa_cons (pv 2) pa_nil))))))
      (pss_one (ps_raise (E := fun C d H' => Same H H' ∧ E C d H) T.m_NoDay T.x_NoDay (fun _ _ _ _ _ _ _ I hx hE => xe_madeC I hx hE) (pa_cons pe_str pa_nil)))
      pss_nil)
      (pss_consN (ps_setc (i := 3) sc_day_of.nd rfl rfl (ix := [0]) ⟨rfl, by decide +kernel, rfl, by decide +kernel, rfl, (show (["ahead", "year"] : List Str).Nodup by decide +kernel), by walk_at "cap", by walk_at "sub", by walk_at "has"⟩ (pi_range2 rfl T.n_range (pa_cons pe_int (pa_cons (pv 1) pa_nil))) (fun b => (pe_fn D_month_days hr (pa_cons (pv 1) (pa_cons (pv 0) pa_nil)))))
      (pss_consN (ps_set (i := 4) sc_day_of.nd rfl (by first | exact Or.inl rfl | exact Or.inr rfl) (pe_op op_sub (pe_op op_add (pe_op op_add (pe_fn D_new_year hr (pa_cons (pv 0) pa_nil)) (pe_callB (call_sumI rfl) rfl T.n_sum PyProof.Rows.boot_sum (pa_cons (pv 3) pa_nil))) (pv 2)) pe_int))
      (pss_consN (ps_if (pt_not (pt_val (pe_fn D_is_day hr (pa_cons (pv 4) pa_nil))))
      (pss_one (ps_raise (E := fun C d H' => Same H H' ∧ E C d H) T.m_NoDay T.x_NoDay (fun _ _ _ _ _ _ _ I hx hE => xe_madeC I hx hE) (pa_cons pe_str pa_nil)))
      pss_nil)
      (pss_one (ps_ret (pv 4))))))), ?_⟩
  walk_at "rd"
  refine ⟨_, _, _, _, _, _, rfl, kx, ky, kz, ?_⟩
  cases eq : dateV x y z with
  | false =>
    walk_at "rd"
    exact ⟨Same.refl _, hE (dayV_no eq)⟩
  | true =>
    obtain ⟨yy, m, d, rfl, rfl, rfl⟩ := date_ints eq
    have D := dateV_iff.mp eq
    have m1 := D.m1
    have m2 := D.m2
    walk_at "rd"
    intro l hl
    refine comp_range (fun i v => v = .int (Cal.mlen yy (1 + (i : Int)))) hl (by have := sizeLine_eq; omega) ?_ ?_
    · intro i H' Q' hi hs hq
      walk_at "rd"
      exact hq _ rfl
    · intro xs hx hp
      have ex := xs_ints hx hp
      walk_at "rd"
      refine ⟨_, ((List.range (m - 1).toNat).map fun i : Nat => Cal.mlen yy (1 + (i : Int))), rfl, SqL.of (by rw [← ex]; exact upd_same), ?_⟩
      have es := sum_mlen yy (m - 1).toNat (by omega)
      rw [show (((m - 1).toNat : Nat) : Int) + 1 = m by omega] at es
      rw [es]
      walk_at "rd"
      refine ⟨V.int (Cal.num yy m d), "int", rfl, ⟨.int _, by decide⟩, ?_⟩
      by_cases n0 : 0 ≤ Cal.num yy m d ∧ Cal.num yy m d ≤ 999999
      · have eb : dayB (.int (Cal.num yy m d)) = true := by simp [dayB, n0.1, n0.2]
        rw [eb]
        walk_at "rd"
        exact ⟨same_new hl _, h _ (dayV_yes eq n0)⟩
      · have eb : dayB (.int (Cal.num yy m d)) = false := by
          cases q : dayB (.int (Cal.num yy m d)) with
          | false => rfl
          | true => exact absurd (by simpa [dayB] using q) n0
        rw [eb]
        walk_at "rd"
        exact ⟨same_new hl _, hE (dayV_out n0)⟩
--@ made
def sp_made (K : PySem.W.Frag) : Sp := fun vs H Q _ => ∃ (k : Ek) (d x : Int), vs = [.str k.word, .int d, .int x] ∧ k ≠ .turn ∧ k ≠ .base ∧ ∀ a dx H', Same H H' → H a = none → IsEnt K H' a dx k d x → Q (.ref a) H'
theorem sc_made : FnScope ["word", "day", "thing"] ["word", "day", "thing"] (defScope s_made) := ⟨rfl, rfl, rfl, by decide +kernel, rfl, by decide +kernel, by decide +kernel⟩
theorem d_made (S : Src K mg "made" s_made ["word", "day", "thing"]) (T : Txt K mg) (D_init_Out : DefM P w K mg base 2 (cA K "Out") "__init__" ["self", "day", "amount"] (sp_AmountEntry_init K)) (D_init_Fee : DefM P w K mg base 2 (cA K "Fee") "__init__" ["self", "day", "amount"] (sp_AmountEntry_init K)) (D_init_Pay : DefM P w K mg base 2 (cA K "Pay") "__init__" ["self", "day", "amount"] (sp_AmountEntry_init K)) (D_init_Due : DefM P w K mg base 2 (cA K "Due") "__init__" ["self", "day", "amount"] (sp_AmountEntry_init K)) (D_init_Rate : DefM P w K mg base 2 (cA K "Rate") "__init__" ["self", "day", "rate"] (sp_RateEntry_init K)) (D_init_Late : DefM P w K mg base 2 (cA K "Late") "__init__" ["self", "day", "rate"] (sp_RateEntry_init K)) (D_init_Still : DefM P w K mg base 2 (cA K "Still") "__init__" ["self", "day", "until"] (sp_Still_init K)) : Def P w K mg base 4 "made" ["word", "day", "thing"] (sp_made K) := by
  refine S.ok sc_made (fun vs H Q E h => ?_) (fun f cdv A outer s H vs Q E hr h => ?_)
  · obtain ⟨k, d, x, rfl, h1, h2, h⟩ := h
    rfl
  obtain ⟨k, d, x, rfl, h1, h2, h⟩ := h
  refine ⟨_, (pss_consN (ps_if (pt_cmpR op_eq (pv 0) pe_str (nomark _))
      (pss_one (ps_ret (pe_makeC T.mi_Out D_init_Out hr T.m_Out (pa_cons (pv 1) (pa_cons (pv 2) pa_nil)))))
      pss_nil)
      (pss_consN (ps_if (pt_cmpR op_eq (pv 0) pe_str (nomark _))
      (pss_one (ps_ret (pe_makeC T.mi_Fee D_init_Fee hr T.m_Fee (pa_cons (pv 1) (pa_cons (pv 2) pa_nil)))))
      pss_nil)
      (pss_consN (ps_if (pt_cmpR op_eq (pv 0) pe_str (nomark _))
      (pss_one (ps_ret (pe_makeC T.mi_Pay D_init_Pay hr T.m_Pay (pa_cons (pv 1) (pa_cons (pv 2) pa_nil)))))
      pss_nil)
      (pss_consN (ps_if (pt_cmpR op_eq (pv 0) pe_str (nomark _))
      (pss_one (ps_ret (pe_makeC T.mi_Due D_init_Due hr T.m_Due (pa_cons (pv 1) (pa_cons (pv 2) pa_nil)))))
      pss_nil)
      (pss_consN (ps_if (pt_cmpR op_eq (pv 0) pe_str (nomark _))
      (pss_one (ps_ret (pe_makeC T.mi_Rate D_init_Rate hr T.m_Rate (pa_cons (pv 1) (pa_cons (pv 2) pa_nil)))))
      pss_nil)
      (pss_consN (ps_if (pt_cmpR op_eq (pv 0) pe_str (nomark _))
      (pss_one (ps_ret (pe_makeC T.mi_Late D_init_Late hr T.m_Late (pa_cons (pv 1) (pa_cons (pv 2) pa_nil)))))
      pss_nil)
      (pss_one (ps_ret (pe_makeC T.mi_Still D_init_Still hr T.m_Still (pa_cons (pv 1) (pa_cons (pv 2) pa_nil))))))))))), ?_⟩
  cases k with
  | turn => exact absurd rfl h1
  | base => exact absurd rfl h2
  | out =>
    dsimp only [Ek.word]
    walk_at "rd"
    intro a dx na nd ne
    refine ⟨a, _, dx, d, x, rfl, upd_same, T.clE .out, T.naE_day .out, T.naE_amount .out, rfl, ?_⟩
    rw [upd_upd]
    walk_at "rd"
    exact h a dx _ ((same_new nd _).trans (same_new (by rw [upd_ne ne.symm]; exact na) _)) na upd_same
  | fee =>
    dsimp only [Ek.word]
    walk_at "rd"
    intro a dx na nd ne
    refine ⟨a, _, dx, d, x, rfl, upd_same, T.clE .fee, T.naE_day .fee, T.naE_amount .fee, rfl, ?_⟩
    rw [upd_upd]
    walk_at "rd"
    exact h a dx _ ((same_new nd _).trans (same_new (by rw [upd_ne ne.symm]; exact na) _)) na upd_same
  | pay =>
    dsimp only [Ek.word]
    walk_at "rd"
    intro a dx na nd ne
    refine ⟨a, _, dx, d, x, rfl, upd_same, T.clE .pay, T.naE_day .pay, T.naE_amount .pay, rfl, ?_⟩
    rw [upd_upd]
    walk_at "rd"
    exact h a dx _ ((same_new nd _).trans (same_new (by rw [upd_ne ne.symm]; exact na) _)) na upd_same
  | due =>
    dsimp only [Ek.word]
    walk_at "rd"
    intro a dx na nd ne
    refine ⟨a, _, dx, d, x, rfl, upd_same, T.clE .due, T.naE_day .due, T.naE_amount .due, rfl, ?_⟩
    rw [upd_upd]
    walk_at "rd"
    exact h a dx _ ((same_new nd _).trans (same_new (by rw [upd_ne ne.symm]; exact na) _)) na upd_same
  | rate =>
    dsimp only [Ek.word]
    walk_at "rd"
    intro a dx na nd ne
    refine ⟨a, _, dx, d, x, rfl, upd_same, T.clE .rate, T.naE_day .rate, T.naE_rate .rate, rfl, ?_⟩
    rw [upd_upd]
    walk_at "rd"
    exact h a dx _ ((same_new nd _).trans (same_new (by rw [upd_ne ne.symm]; exact na) _)) na upd_same
  | late =>
    dsimp only [Ek.word]
    walk_at "rd"
    intro a dx na nd ne
    refine ⟨a, _, dx, d, x, rfl, upd_same, T.clE .late, T.naE_day .late, T.naE_rate .late, rfl, ?_⟩
    rw [upd_upd]
    walk_at "rd"
    exact h a dx _ ((same_new nd _).trans (same_new (by rw [upd_ne ne.symm]; exact na) _)) na upd_same
  | still =>
    dsimp only [Ek.word]
    walk_at "rd"
    intro a dx na nd ne
    refine ⟨a, _, dx, d, x, rfl, upd_same, T.clE .still, T.naE_day .still, T.naE_until .still, rfl, ?_⟩
    rw [upd_upd]
    walk_at "rd"
    exact h a dx _ ((same_new nd _).trans (same_new (by rw [upd_ne ne.symm]; exact na) _)) na upd_same
--@ read_cents
def sp_read_cents (K : PySem.W.Frag) : Sp := fun vs H Q E => ∃ x T, vs = [x] ∧ IsKind K H x T ∧ (∀ z, x = .str z → z.length ≤ 1000) ∧ (∀ n, centsT x = some n → Q (.int n) H) ∧ (centsT x = none → E (.ref (cA K "NoText")) none H)
theorem sc_read_cents : FnScope ["text", "cents"] ["text"] (defScope s_read_cents) := ⟨rfl, rfl, rfl, by decide +kernel, rfl, by decide +kernel, by decide +kernel⟩
theorem d_read_cents (S : Src K mg "read_cents" s_read_cents ["text"]) (T : Txt K mg) (D_check_text : DefX P w K mg base 1 "check_text" ["thing"] (sp_check_text K)) (D_read_coins : DefX P w K mg base 3 "read_coins" ["text"] (sp_read_coins K)) : DefX P w K mg base 4 "read_cents" ["text"] (sp_read_cents K) := by
  refine S.okXF sc_read_cents (fun vs H Q E h => ?_) (fun f cdv A outer s H vs Q E hr h => ?_)
  · obtain ⟨x, Tk, rfl, hk, hl, h, hE⟩ := h
    rfl
  obtain ⟨x, Tk, rfl, hk, hl, h, hE⟩ := h
  refine ⟨_, (pss_consN (ps_expr (pe_fnX (E := fun C d H' => Same H H' ∧ E C d H) D_check_text hr passX (pa_cons (pv 0) pa_nil)))
      (pss_consN (ps_if (pt_not (pt_val (pe_bm PySem.F.plainAttrs_str PySem.F.slot_str_startswith PySem.F.type_str_startswith mt_startswith (pv 0) (pa_cons pe_str pa_nil))))
      (pss_one (ps_ret (pe_fnX (E := fun C d H' => Same H H' ∧ E C d H) D_read_coins hr passX (pa_cons (pv 0) pa_nil))))
      pss_nil)
      (pss_consN (ps_set (i := 1) sc_read_cents.nd rfl (by first | exact Or.inl rfl | exact Or.inr rfl) (pe_fnX (E := fun C d H' => Same H H' ∧ E C d H) D_read_coins hr passX (pa_cons (pe_slice sl_strE (pv 0) (po_some pe_int) po_none) pa_nil)))
      (pss_consN (ps_if (pt_cmpR op_eq (pv 1) pe_int (nomark _))
      (pss_one (ps_raise (E := fun C d H' => Same H H' ∧ E C d H) T.m_NoText T.x_NoText (fun _ _ _ _ _ _ _ I hx hE => xe_made I hx hE) (pa_cons pe_str pa_nil)))
      pss_nil)
      (pss_one (ps_ret (pe_un un_neg (pv 1)))))))), ?_⟩
  have sz := sizeLine_eq
  walk_at "rd"
  refine ⟨x, Tk, rfl, hk, fun e => ?_, fun e => ?_⟩
  rotate_left
  · refine ⟨Same.refl _, hE ?_⟩
    cases x <;> first | rfl | skip
    cases hk.1
    exact absurd rfl e
  obtain ⟨z, rfl⟩ : ∃ z, x = .str z := by
    cases x <;> first | exact ⟨_, rfl⟩ | (cases hk.1 <;> exact absurd e (by decide))
  have zl := hl z rfl
  walk_at "rd"
  rw [show (Str.ofString "-") = ⟨#[45]⟩ by decide +kernel, starts_one]
  by_cases q : z.cps.toList[0]? = some 45
  · rw [decide_eq_true q]
    have ct : centsT (.str z) = (coinsL (z.cps.toList.drop 1)).bind (fun c => if c = 0 then none else some (-c)) := if_pos q
    walk_at "rd"
    have s1 : (Txt.slice z (some 1) none).cps.toList = z.cps.toList.drop 1 := slice_from z (by decide)
    have s2 := Txt.slice_le z (some 1) none
    generalize Txt.slice z (some 1) none = y at s1 s2 ⊢
    rw [← s1] at ct
    refine ⟨by omega, fun n hn => ?_, fun hn => ?_⟩
    · rw [hn] at ct
      walk_at "rd"
      · rename_i c
        exact ⟨Same.refl _, hE (ct.trans (if_pos c))⟩
      · rename_i c
        exact ⟨Same.refl _, h _ (ct.trans (if_neg c))⟩
    · exact ⟨Same.refl _, hE (ct.trans (by rw [hn]; rfl))⟩
  · rw [decide_eq_false q]
    have ct : centsT (.str z) = coinsL z.cps.toList := if_neg q
    walk_at "rd"
    exact ⟨fun n hn => ⟨Same.refl _, h n (ct.trans hn)⟩, fun hn => ⟨Same.refl _, hE (ct.trans hn)⟩⟩
--@ show_date
def sp_show_date (K : PySem.W.Frag) : Sp := fun vs H Q _ => ∃ n, vs = [.int n] ∧ (0 ≤ n ∧ n ≤ 999999) ∧ ∀ z, IsDt n z → Q (.str z) H
theorem sc_show_date : FnScope ["day", "date"] ["day"] (defScope s_show_date) := ⟨rfl, rfl, rfl, by decide +kernel, rfl, by decide +kernel, by decide +kernel⟩
theorem d_show_date (S : Src K mg "show_date" s_show_date ["day"]) (T : Txt K mg) (D_date_of : Def P w K mg base 3 "date_of" ["day"] (sp_date_of K)) (D_two_figures : Def P w K mg base 1 "two_figures" ["number"] (sp_two_figures K)) : Def P w K mg base 4 "show_date" ["day"] (sp_show_date K) := by
  refine S.okF sc_show_date (fun vs H Q E h => ?_) (fun f cdv A outer s H vs Q E hr h => ?_)
  · obtain ⟨n, rfl, ⟨n0, n1⟩, h⟩ := h
    rfl
  obtain ⟨n, rfl, ⟨n0, n1⟩, h⟩ := h
  refine ⟨_, (pss_consN (ps_set (i := 1) sc_show_date.nd rfl (by first | exact Or.inl rfl | exact Or.inr rfl) (pe_fn D_date_of hr (pa_cons (pv 0) pa_nil)))
      (pss_one (ps_ret (pe_bm PySem.F.plainAttrs_str PySem.F.slot_str_join PySem.F.type_str_join mt_join pe_str (pa_cons (pe_lst (pa_cons (pe_callTy call_str_int rfl T.n_str PyProof.Rows.boot_str (pa_cons (pe_ix ix_tup (pv 1) pe_int (fun _ _ => rfl)) pa_nil)) (pa_cons (pe_fn D_two_figures hr (pa_cons (pe_ix ix_tup (pv 1) pe_int (fun _ _ => rfl)) pa_nil)) (pa_cons (pe_fn D_two_figures hr (pa_cons (pe_ix ix_tup (pv 1) pe_int (fun _ _ => rfl)) pa_nil)) pa_nil)))) pa_nil))))), ?_⟩
  have sz := sizeLine_eq
  walk_at "rd"
  intro y m d p D e np
  have s1 := same_new np (.tup [.int y, .int m, .int d])
  have ep := at_new (.tup [.int y, .int m, .int d]) np
  generalize upd H p (.tup [.int y, .int m, .int d]) = H1 at s1 ep ⊢
  obtain ⟨⟨y0, y1⟩, ⟨m0, m1⟩, ⟨d0, d1⟩⟩ := year_in D (by omega) (by omega)
  have ly := len_y y0 y1
  have l1 : (Str.ofString "-").length = 1 := by decide +kernel
  have lt : ∀ n : Int, (two n).length = 2 := fun n => rfl
  walk_at "rd"
  refine ⟨log2_small y0 (by omega), ?_⟩
  walk_at "rd"
  intro l nl
  have s2 := same_new nl (.lst ([Str.ofString (toString y), two m, two d].map V.str))
  have el := at_new (.lst ([Str.ofString (toString y), two m, two d].map V.str)) nl
  walk_at "rd"
  refine ⟨_, l, [Str.ofString (toString y), two m, two d], rfl, rfl, SqL.of el, ?_, s1.trans s2, ?_⟩
  · show (Str.ofString (toString y)).length + ((two m).length + ((two d).length + 0)) + 3 * (Str.ofString "-").length ≤ 16777216
    rw [lt, lt, l1]
    omega
  · rw [join_shown]
    exact h _ ⟨y, m, d, D, e, rfl⟩
--@ _law_written
def sp__law_written (K : PySem.W.Frag) : Sp := fun vs H Q _ => ∃ n, vs = [.int n] ∧ (0 ≤ n ∧ n ≤ 999999) ∧ ∀ z, IsDt n z → Q (.str z) H
theorem sc__law_written : FnScope ["_law_day", "_law_year", "_law_month", "_law_at"] ["_law_day"] (defScope s__law_written) := ⟨rfl, rfl, rfl, by decide +kernel, rfl, by decide +kernel, by decide +kernel⟩
theorem d__law_written (S : Src K mg "_law_written" s__law_written ["_law_day"]) (T : Txt K mg) (D__law_date : Def P w K mg base 3 "_law_date" ["_law_day"] (sp__law_date K)) (D__law_two : Def P w K mg base 1 "_law_two" ["_law_number"] (sp__law_two K)) : Def P w K mg base 4 "_law_written" ["_law_day"] (sp__law_written K) := by
  refine S.okF sc__law_written (fun vs H Q E h => ?_) (fun f cdv A outer s H vs Q E hr h => ?_)
  · obtain ⟨n, rfl, ⟨n0, n1⟩, h⟩ := h
    rfl
  obtain ⟨n, rfl, ⟨n0, n1⟩, h⟩ := h
  refine ⟨_, (pss_consN (ps_asg (pe_fn D__law_date hr (pa_cons (pv 0) pa_nil)) (pg_tup rfl (pgs_cons (pg_name (i := 1) sc__law_written.nd rfl (by first | exact Or.inl rfl | exact Or.inr rfl)) (pgs_cons (pg_name (i := 2) sc__law_written.nd rfl (by first | exact Or.inl rfl | exact Or.inr rfl)) (pgs_cons (pg_name (i := 3) sc__law_written.nd rfl (by first | exact Or.inl rfl | exact Or.inr rfl)) pgs_nil)))))
      (pss_one (ps_ret (pe_op op_add_str (pe_op op_add_str (pe_op op_add_str (pe_op op_add_str (pe_callTy call_str_int rfl T.n_str PyProof.Rows.boot_str (pa_cons (pv 1) pa_nil)) pe_str) (pe_fn D__law_two hr (pa_cons (pv 2) pa_nil))) pe_str) (pe_fn D__law_two hr (pa_cons (pv 3) pa_nil)))))), ?_⟩
  have sz := sizeLine_eq
  walk_at "rd"
  intro y m d p D e np
  have s1 := same_new np (.tup [.int y, .int m, .int d])
  have ep := at_new (.tup [.int y, .int m, .int d]) np
  generalize upd H p (.tup [.int y, .int m, .int d]) = H1 at s1 ep ⊢
  obtain ⟨⟨y0, y1⟩, ⟨m0, m1⟩, ⟨d0, d1⟩⟩ := year_in D (by omega) (by omega)
  have ly := len_y y0 y1
  have l1 : (Str.ofString "-").length = 1 := by decide +kernel
  have lt : ∀ n : Int, (two n).length = 2 := fun n => rfl
  walk_at "rd"
  refine ⟨p, _, rfl, SqT.of ep, rfl, ?_⟩
  walk_at "rd"
  refine ⟨log2_small y0 (by omega), ?_⟩
  walk_at "rd"
  refine ⟨by rw [Str.length_append, lt]; omega, ?_⟩
  walk_at "rd"
  refine ⟨by rw [Str.length_append, Str.length_append, lt]; omega, ?_⟩
  walk_at "rd"
  refine ⟨by rw [Str.length_append, Str.length_append, Str.length_append, lt, lt]; omega, ?_⟩
  exact ⟨s1, h _ ⟨y, m, d, D, e, rfl⟩⟩
--@ _law_made
def sp__law_made (K : PySem.W.Frag) : Sp := fun vs H Q _ => L2.Ee4 fun r k d x => L2.Aa4 (vs = [.ref r]) (H r = some (.tup (row3 k d x))) (k ≠ .base) (∀ a dx H', Same H H' → H a = none → IsEnt K H' a dx k d x → Q (.ref a) H')
theorem sc__law_made : FnScope ["_law_row_here", "_law_word", "_law_day", "_law_value_here"] ["_law_row_here"] (defScope s__law_made) := ⟨rfl, rfl, rfl, by decide +kernel, rfl, by decide +kernel, by decide +kernel⟩
theorem d__law_made (S : Src K mg "_law_made" s__law_made ["_law_row_here"]) (T : Txt K mg) (D_init_Out : DefM P w K mg base 2 (cA K "Out") "__init__" ["self", "day", "amount"] (sp_AmountEntry_init K)) (D_init_Fee : DefM P w K mg base 2 (cA K "Fee") "__init__" ["self", "day", "amount"] (sp_AmountEntry_init K)) (D_init_Turn : DefM P w K mg base 1 (cA K "Turn") "__init__" ["self", "day"] (sp_Entry_init K)) (D_init_Pay : DefM P w K mg base 2 (cA K "Pay") "__init__" ["self", "day", "amount"] (sp_AmountEntry_init K)) (D_init_Due : DefM P w K mg base 2 (cA K "Due") "__init__" ["self", "day", "amount"] (sp_AmountEntry_init K)) (D_init_Rate : DefM P w K mg base 2 (cA K "Rate") "__init__" ["self", "day", "rate"] (sp_RateEntry_init K)) (D_init_Late : DefM P w K mg base 2 (cA K "Late") "__init__" ["self", "day", "rate"] (sp_RateEntry_init K)) (D_init_Still : DefM P w K mg base 2 (cA K "Still") "__init__" ["self", "day", "until"] (sp_Still_init K)) : Def P w K mg base 4 "_law_made" ["_law_row_here"] (sp__law_made K) := by
  refine S.ok sc__law_made (fun vs H Q E h => ?_) (fun f cdv A outer s H vs Q E hr h => ?_)
  · obtain ⟨r, k, d, x, rfl, e, h2, h⟩ := h
    rfl
  obtain ⟨r, k, d, x, rfl, e, h2, h⟩ := h
  refine ⟨_, (pss_consN (ps_asg (pv 0) (pg_tup rfl (pgs_cons (pg_name (i := 1) sc__law_made.nd rfl (by first | exact Or.inl rfl | exact Or.inr rfl)) (pgs_cons (pg_name (i := 2) sc__law_made.nd rfl (by first | exact Or.inl rfl | exact Or.inr rfl)) (pgs_cons (pg_name (i := 3) sc__law_made.nd rfl (by first | exact Or.inl rfl | exact Or.inr rfl)) pgs_nil)))))
      (pss_consN (ps_if (pt_cmpR op_eq (pv 1) pe_str (nomark _))
      (pss_one (ps_ret (pe_makeC T.mi_Out D_init_Out hr T.m_Out (pa_cons (pv 2) (pa_cons (pv 3) pa_nil)))))
      pss_nil)
      (pss_consN (ps_if (pt_cmpR op_eq (pv 1) pe_str (nomark _))
      (pss_one (ps_ret (pe_makeC T.mi_Fee D_init_Fee hr T.m_Fee (pa_cons (pv 2) (pa_cons (pv 3) pa_nil)))))
      pss_nil)
      (pss_consN (ps_if (pt_cmpR op_eq (pv 1) pe_str (nomark _))
      (pss_one (ps_ret (pe_makeC T.mi_Turn D_init_Turn hr T.m_Turn (pa_cons (pv 2) pa_nil))))
      pss_nil)
      (pss_consN (ps_if (pt_cmpR op_eq (pv 1) pe_str (nomark _))
      (pss_one (ps_ret (pe_makeC T.mi_Pay D_init_Pay hr T.m_Pay (pa_cons (pv 2) (pa_cons (pv 3) pa_nil)))))
      pss_nil)
      (pss_consN (ps_if (pt_cmpR op_eq (pv 1) pe_str (nomark _))
      (pss_one (ps_ret (pe_makeC T.mi_Due D_init_Due hr T.m_Due (pa_cons (pv 2) (pa_cons (pv 3) pa_nil)))))
      pss_nil)
      (pss_consN (ps_if (pt_cmpR op_eq (pv 1) pe_str (nomark _))
      (pss_one (ps_ret (pe_makeC T.mi_Rate D_init_Rate hr T.m_Rate (pa_cons (pv 2) (pa_cons (pv 3) pa_nil)))))
      pss_nil)
      (pss_consN (ps_if (pt_cmpR op_eq (pv 1) pe_str (nomark _))
      (pss_one (ps_ret (pe_makeC T.mi_Late D_init_Late hr T.m_Late (pa_cons (pv 2) (pa_cons (pv 3) pa_nil)))))
      pss_nil)
      (pss_one (ps_ret (pe_makeC T.mi_Still D_init_Still hr T.m_Still (pa_cons (pv 2) (pa_cons (pv 3) pa_nil))))))))))))), ?_⟩
  cases k with
  | base => exact absurd rfl h2
  | turn =>
    dsimp only [row3, Ek.word] at e
    walk_at "rd"
    refine ⟨r, _, rfl, SqT.of e, rfl, ?_⟩
    walk_at "rd"
    intro a dx na nd ne
    refine ⟨a, _, dx, [], d, rfl, upd_same, T.clE .turn, T.naE_day .turn, by decide, rfl, ?_⟩
    rw [upd_upd]
    exact h a dx _ ((same_new nd _).trans (same_new (by rw [upd_ne ne.symm]; exact na) _)) na upd_same
  | out =>
    dsimp only [row3, Ek.word] at e
    walk_at "rd"
    refine ⟨r, _, rfl, SqT.of e, rfl, ?_⟩
    walk_at "rd"
    intro a dx na nd ne
    refine ⟨a, _, dx, d, x, rfl, upd_same, T.clE .out, T.naE_day .out, T.naE_amount .out, rfl, ?_⟩
    rw [upd_upd]
    walk_at "rd"
    exact h a dx _ ((same_new nd _).trans (same_new (by rw [upd_ne ne.symm]; exact na) _)) na upd_same
  | fee =>
    dsimp only [row3, Ek.word] at e
    walk_at "rd"
    refine ⟨r, _, rfl, SqT.of e, rfl, ?_⟩
    walk_at "rd"
    intro a dx na nd ne
    refine ⟨a, _, dx, d, x, rfl, upd_same, T.clE .fee, T.naE_day .fee, T.naE_amount .fee, rfl, ?_⟩
    rw [upd_upd]
    walk_at "rd"
    exact h a dx _ ((same_new nd _).trans (same_new (by rw [upd_ne ne.symm]; exact na) _)) na upd_same
  | pay =>
    dsimp only [row3, Ek.word] at e
    walk_at "rd"
    refine ⟨r, _, rfl, SqT.of e, rfl, ?_⟩
    walk_at "rd"
    intro a dx na nd ne
    refine ⟨a, _, dx, d, x, rfl, upd_same, T.clE .pay, T.naE_day .pay, T.naE_amount .pay, rfl, ?_⟩
    rw [upd_upd]
    walk_at "rd"
    exact h a dx _ ((same_new nd _).trans (same_new (by rw [upd_ne ne.symm]; exact na) _)) na upd_same
  | due =>
    dsimp only [row3, Ek.word] at e
    walk_at "rd"
    refine ⟨r, _, rfl, SqT.of e, rfl, ?_⟩
    walk_at "rd"
    intro a dx na nd ne
    refine ⟨a, _, dx, d, x, rfl, upd_same, T.clE .due, T.naE_day .due, T.naE_amount .due, rfl, ?_⟩
    rw [upd_upd]
    walk_at "rd"
    exact h a dx _ ((same_new nd _).trans (same_new (by rw [upd_ne ne.symm]; exact na) _)) na upd_same
  | rate =>
    dsimp only [row3, Ek.word] at e
    walk_at "rd"
    refine ⟨r, _, rfl, SqT.of e, rfl, ?_⟩
    walk_at "rd"
    intro a dx na nd ne
    refine ⟨a, _, dx, d, x, rfl, upd_same, T.clE .rate, T.naE_day .rate, T.naE_rate .rate, rfl, ?_⟩
    rw [upd_upd]
    walk_at "rd"
    exact h a dx _ ((same_new nd _).trans (same_new (by rw [upd_ne ne.symm]; exact na) _)) na upd_same
  | late =>
    dsimp only [row3, Ek.word] at e
    walk_at "rd"
    refine ⟨r, _, rfl, SqT.of e, rfl, ?_⟩
    walk_at "rd"
    intro a dx na nd ne
    refine ⟨a, _, dx, d, x, rfl, upd_same, T.clE .late, T.naE_day .late, T.naE_rate .late, rfl, ?_⟩
    rw [upd_upd]
    walk_at "rd"
    exact h a dx _ ((same_new nd _).trans (same_new (by rw [upd_ne ne.symm]; exact na) _)) na upd_same
  | still =>
    dsimp only [row3, Ek.word] at e
    walk_at "rd"
    refine ⟨r, _, rfl, SqT.of e, rfl, ?_⟩
    walk_at "rd"
    intro a dx na nd ne
    refine ⟨a, _, dx, d, x, rfl, upd_same, T.clE .still, T.naE_day .still, T.naE_until .still, rfl, ?_⟩
    rw [upd_upd]
    walk_at "rd"
    exact h a dx _ ((same_new nd _).trans (same_new (by rw [upd_ne ne.symm]; exact na) _)) na upd_same
--@ entry_of
def BadAs (K : PySem.W.Frag) (H : Hp) (E : XK) (i : Int) : Prop := ∀ (dd : Addr) (H' : Hp), Same H H' → H dd = none → H' dd = some (.xd [("place", .int i)]) → E (.ref (cA K "BadEntry")) (some dd) H'
def sp_entry_of (K : PySem.W.Frag) : Sp := fun vs H Q E => ∃ x, vs = [x] ∧ ((Bad0 K H x ∧ BadAs K H E 0) ∨ (Bad1 K H x ∧ BadAs K H E 1) ∨ (Bad2 K H x ∧ BadAs K H E 2) ∨
  ∃ r k d y, x = .ref r ∧ H r = some (.tup (rowV k d y)) ∧ GoodRow k d y ∧ ∀ a dx H', Same H H' → H a = none → IsEnt K H' a dx k d y → Q (.ref a) H')
theorem sc_entry_of : FnScope ["row"] ["row"] (defScope s_entry_of) := ⟨rfl, rfl, rfl, by decide +kernel, rfl, by decide +kernel, by decide +kernel⟩
theorem d_entry_of (S : Src K mg "entry_of" s_entry_of ["row"]) (T : Txt K mg) (D_has_form : Def P w K mg base 1 "has_form" ["row"] (sp_has_form K)) (D_is_day : Def P w K mg base 2 "is_day" ["thing"] (sp_is_day K)) (D_init_Turn : DefM P w K mg base 1 (cA K "Turn") "__init__" ["self", "day"] (sp_Entry_init K)) (D_is_third : Def P w K mg base 3 "is_third" ["word", "day", "thing"] (sp_is_third K)) (D_made : Def P w K mg base 4 "made" ["word", "day", "thing"] (sp_made K)) : DefK P w K mg base 5 "entry_of" ["row"] (sp_entry_of K) := by
  refine S.okK sc_entry_of (fun vs H Q E h => ?_) (fun f cdv A outer s H vs Q E hr h => ?_)
  · obtain ⟨x, rfl, hc⟩ := h
    rfl
  obtain ⟨x, rfl, hc⟩ := h
  refine ⟨_, (pss_consN (ps_if (pt_not (pt_val (pe_fn D_has_form hr (pa_cons (pv 0) pa_nil))))
      (pss_one (ps_raiseI (E := E) T.m_BadEntry (d_init_BadEntry T) hr (fun _ _ _ _ _ _ I he h0 hE => xe_instK I he h0 hE) (pa_cons pe_int pa_nil)))
      pss_nil)
      (pss_consN (ps_if (pt_not (pt_val (pe_fn D_is_day hr (pa_cons (pe_ix ix_tup (pv 0) pe_int (fun _ _ => rfl)) pa_nil))))
      (pss_one (ps_raiseI (E := E) T.m_BadEntry (d_init_BadEntry T) hr (fun _ _ _ _ _ _ I he h0 hE => xe_instK I he h0 hE) (pa_cons pe_int pa_nil)))
      pss_nil)
      (pss_consN (ps_if (pt_cmpR op_eq (pe_ix ix_tup (pv 0) pe_int (fun _ _ => rfl)) pe_str (nomark _))
      (pss_one (ps_ret (pe_makeC T.mi_Turn D_init_Turn hr T.m_Turn (pa_cons (pe_ix ix_tup (pv 0) pe_int (fun _ _ => rfl)) pa_nil))))
      pss_nil)
      (pss_consN (ps_if (pt_not (pt_val (pe_fn D_is_third hr (pa_cons (pe_ix ix_tup (pv 0) pe_int (fun _ _ => rfl)) (pa_cons (pe_ix ix_tup (pv 0) pe_int (fun _ _ => rfl)) (pa_cons (pe_ix ix_tup (pv 0) pe_int (fun _ _ => rfl)) pa_nil))))))
      (pss_one (ps_raiseI (E := E) T.m_BadEntry (d_init_BadEntry T) hr (fun _ _ _ _ _ _ I he h0 hE => xe_instK I he h0 hE) (pa_cons pe_int pa_nil)))
      pss_nil)
      (pss_one (ps_ret (pe_fn D_made hr (pa_cons (pe_ix ix_tup (pv 0) pe_int (fun _ _ => rfl)) (pa_cons (pe_ix ix_tup (pv 0) pe_int (fun _ _ => rfl)) (pa_cons (pe_ix ix_tup (pv 0) pe_int (fun _ _ => rfl)) pa_nil)))))))))), ?_⟩
  rcases hc with ⟨hf, h⟩ | ⟨hf, h⟩ | ⟨hf, h⟩ | ⟨r, k, d, y, rfl, e, ⟨⟨d0, d1⟩, ok⟩, h⟩
  · walk_at "rd"
    refine .inl ⟨hf, ?_⟩
    walk_at "rd"
    exact raiseI_of fun dd H' s n e => h dd H' s n e
  · obtain ⟨r, k, v1, rest, Tk, rfl, e, hk, hl, kn, nd⟩ := hf
    have nd' : dayB v1 = false := by cases v1 <;> exact nd
    walk_at "rd"
    refine .inr ⟨⟨r, k, v1 :: rest, rfl, e, hk, by rw [List.length_cons]; exact hl⟩, ?_⟩
    walk_at "rd"
    refine ⟨r, _, _, _, rfl, rfl, SqT.of e, at1, ?_⟩
    walk_at "rd"
    refine ⟨_, Tk, rfl, kn, ?_⟩
    rw [nd']
    walk_at "rd"
    exact raiseI_of fun dd H' s n e => h dd H' s n e
  · obtain ⟨r, k, d, v2, Tk, rfl, e, hb, ht, ⟨d0, d1⟩, kn, nw⟩ := hf
    have hd : dayB (.int d) = true := by simp [dayB, d0, d1]
    cases k with
    | base => exact absurd rfl hb
    | turn => exact absurd rfl ht
    | out =>
      dsimp only [Ek.word] at e
      walk_at "rd"
      refine .inr ⟨⟨r, .out, [.int d, v2], rfl, e, hb, rfl⟩, ?_⟩
      walk_at "rd"
      refine ⟨_, "int", rfl, kn_int d, ?_⟩
      rw [hd]
      walk_at "rd"
      refine ⟨.out, d, v2, Tk, rfl, ht, hb, kn, ?_⟩
      rw [nw]
      walk_at "rd"
      exact raiseI_of fun dd H' s n e => h dd H' s n e
    | fee =>
      dsimp only [Ek.word] at e
      walk_at "rd"
      refine .inr ⟨⟨r, .fee, [.int d, v2], rfl, e, hb, rfl⟩, ?_⟩
      walk_at "rd"
      refine ⟨_, "int", rfl, kn_int d, ?_⟩
      rw [hd]
      walk_at "rd"
      refine ⟨.fee, d, v2, Tk, rfl, ht, hb, kn, ?_⟩
      rw [nw]
      walk_at "rd"
      exact raiseI_of fun dd H' s n e => h dd H' s n e
    | pay =>
      dsimp only [Ek.word] at e
      walk_at "rd"
      refine .inr ⟨⟨r, .pay, [.int d, v2], rfl, e, hb, rfl⟩, ?_⟩
      walk_at "rd"
      refine ⟨_, "int", rfl, kn_int d, ?_⟩
      rw [hd]
      walk_at "rd"
      refine ⟨.pay, d, v2, Tk, rfl, ht, hb, kn, ?_⟩
      rw [nw]
      walk_at "rd"
      exact raiseI_of fun dd H' s n e => h dd H' s n e
    | due =>
      dsimp only [Ek.word] at e
      walk_at "rd"
      refine .inr ⟨⟨r, .due, [.int d, v2], rfl, e, hb, rfl⟩, ?_⟩
      walk_at "rd"
      refine ⟨_, "int", rfl, kn_int d, ?_⟩
      rw [hd]
      walk_at "rd"
      refine ⟨.due, d, v2, Tk, rfl, ht, hb, kn, ?_⟩
      rw [nw]
      walk_at "rd"
      exact raiseI_of fun dd H' s n e => h dd H' s n e
    | rate =>
      dsimp only [Ek.word] at e
      walk_at "rd"
      refine .inr ⟨⟨r, .rate, [.int d, v2], rfl, e, hb, rfl⟩, ?_⟩
      walk_at "rd"
      refine ⟨_, "int", rfl, kn_int d, ?_⟩
      rw [hd]
      walk_at "rd"
      refine ⟨.rate, d, v2, Tk, rfl, ht, hb, kn, ?_⟩
      rw [nw]
      walk_at "rd"
      exact raiseI_of fun dd H' s n e => h dd H' s n e
    | late =>
      dsimp only [Ek.word] at e
      walk_at "rd"
      refine .inr ⟨⟨r, .late, [.int d, v2], rfl, e, hb, rfl⟩, ?_⟩
      walk_at "rd"
      refine ⟨_, "int", rfl, kn_int d, ?_⟩
      rw [hd]
      walk_at "rd"
      refine ⟨.late, d, v2, Tk, rfl, ht, hb, kn, ?_⟩
      rw [nw]
      walk_at "rd"
      exact raiseI_of fun dd H' s n e => h dd H' s n e
    | still =>
      dsimp only [Ek.word] at e
      walk_at "rd"
      refine .inr ⟨⟨r, .still, [.int d, v2], rfl, e, hb, rfl⟩, ?_⟩
      walk_at "rd"
      refine ⟨_, "int", rfl, kn_int d, ?_⟩
      rw [hd]
      walk_at "rd"
      refine ⟨.still, d, v2, Tk, rfl, ht, hb, kn, ?_⟩
      rw [nw]
      walk_at "rd"
      exact raiseI_of fun dd H' s n e => h dd H' s n e
  · have hk : k ≠ .base := fun z => by subst z; exact ok
    have hd : dayB (.int d) = true := by simp [dayB, d0, d1]
    cases k with
    | base => exact absurd rfl hk
    | turn =>
      dsimp only [rowV, Ek.word] at e
      walk_at "rd"
      refine .inr ⟨⟨r, .turn, [.int d], rfl, e, hk, rfl⟩, ?_⟩
      walk_at "rd"
      refine ⟨_, "int", rfl, kn_int d, ?_⟩
      rw [hd]
      walk_at "rd"
      intro a dx na nd ne
      refine ⟨a, _, dx, [], d, rfl, upd_same, T.clE .turn, T.naE_day .turn, by decide, rfl, ?_⟩
      rw [upd_upd]
      exact h a dx _ ((same_new nd _).trans (same_new (by rw [upd_ne ne.symm]; exact na) _)) na upd_same
    | out =>
      dsimp only [rowV, Ek.word] at e
      have ok' : withB (.int y) (loE .out d) (hiE .out) = true := by
        obtain ⟨o1, o2⟩ := ok
        simp [withB, loE, hiE, o1, o2]
      walk_at "rd"
      refine .inr ⟨⟨r, .out, [.int d, .int y], rfl, e, hk, rfl⟩, ?_⟩
      walk_at "rd"
      refine ⟨_, "int", rfl, kn_int d, ?_⟩
      rw [hd]
      walk_at "rd"
      refine ⟨.out, d, .int y, "int", rfl, (by intro z; cases z), hk, kn_int y, ?_⟩
      rw [ok']
      walk_at "rd"
      refine ⟨.out, d, y, rfl, (by intro z; cases z), (by intro z; cases z), ?_⟩
      exact h
    | fee =>
      dsimp only [rowV, Ek.word] at e
      have ok' : withB (.int y) (loE .fee d) (hiE .fee) = true := by
        obtain ⟨o1, o2⟩ := ok
        simp [withB, loE, hiE, o1, o2]
      walk_at "rd"
      refine .inr ⟨⟨r, .fee, [.int d, .int y], rfl, e, hk, rfl⟩, ?_⟩
      walk_at "rd"
      refine ⟨_, "int", rfl, kn_int d, ?_⟩
      rw [hd]
      walk_at "rd"
      refine ⟨.fee, d, .int y, "int", rfl, (by intro z; cases z), hk, kn_int y, ?_⟩
      rw [ok']
      walk_at "rd"
      refine ⟨.fee, d, y, rfl, (by intro z; cases z), (by intro z; cases z), ?_⟩
      exact h
    | pay =>
      dsimp only [rowV, Ek.word] at e
      have ok' : withB (.int y) (loE .pay d) (hiE .pay) = true := by
        obtain ⟨o1, o2⟩ := ok
        simp [withB, loE, hiE, o1, o2]
      walk_at "rd"
      refine .inr ⟨⟨r, .pay, [.int d, .int y], rfl, e, hk, rfl⟩, ?_⟩
      walk_at "rd"
      refine ⟨_, "int", rfl, kn_int d, ?_⟩
      rw [hd]
      walk_at "rd"
      refine ⟨.pay, d, .int y, "int", rfl, (by intro z; cases z), hk, kn_int y, ?_⟩
      rw [ok']
      walk_at "rd"
      refine ⟨.pay, d, y, rfl, (by intro z; cases z), (by intro z; cases z), ?_⟩
      exact h
    | due =>
      dsimp only [rowV, Ek.word] at e
      have ok' : withB (.int y) (loE .due d) (hiE .due) = true := by
        obtain ⟨o1, o2⟩ := ok
        simp [withB, loE, hiE, o1, o2]
      walk_at "rd"
      refine .inr ⟨⟨r, .due, [.int d, .int y], rfl, e, hk, rfl⟩, ?_⟩
      walk_at "rd"
      refine ⟨_, "int", rfl, kn_int d, ?_⟩
      rw [hd]
      walk_at "rd"
      refine ⟨.due, d, .int y, "int", rfl, (by intro z; cases z), hk, kn_int y, ?_⟩
      rw [ok']
      walk_at "rd"
      refine ⟨.due, d, y, rfl, (by intro z; cases z), (by intro z; cases z), ?_⟩
      exact h
    | rate =>
      dsimp only [rowV, Ek.word] at e
      have ok' : withB (.int y) (loE .rate d) (hiE .rate) = true := by
        obtain ⟨o1, o2⟩ := ok
        simp [withB, loE, hiE, o1, o2]
      walk_at "rd"
      refine .inr ⟨⟨r, .rate, [.int d, .int y], rfl, e, hk, rfl⟩, ?_⟩
      walk_at "rd"
      refine ⟨_, "int", rfl, kn_int d, ?_⟩
      rw [hd]
      walk_at "rd"
      refine ⟨.rate, d, .int y, "int", rfl, (by intro z; cases z), hk, kn_int y, ?_⟩
      rw [ok']
      walk_at "rd"
      refine ⟨.rate, d, y, rfl, (by intro z; cases z), (by intro z; cases z), ?_⟩
      exact h
    | late =>
      dsimp only [rowV, Ek.word] at e
      have ok' : withB (.int y) (loE .late d) (hiE .late) = true := by
        obtain ⟨o1, o2⟩ := ok
        simp [withB, loE, hiE, o1, o2]
      walk_at "rd"
      refine .inr ⟨⟨r, .late, [.int d, .int y], rfl, e, hk, rfl⟩, ?_⟩
      walk_at "rd"
      refine ⟨_, "int", rfl, kn_int d, ?_⟩
      rw [hd]
      walk_at "rd"
      refine ⟨.late, d, .int y, "int", rfl, (by intro z; cases z), hk, kn_int y, ?_⟩
      rw [ok']
      walk_at "rd"
      refine ⟨.late, d, y, rfl, (by intro z; cases z), (by intro z; cases z), ?_⟩
      exact h
    | still =>
      dsimp only [rowV, Ek.word] at e
      have ok' : withB (.int y) (loE .still d) (hiE .still) = true := by
        obtain ⟨o1, o2⟩ := ok
        simp [withB, loE, hiE, o1, o2]
      walk_at "rd"
      refine .inr ⟨⟨r, .still, [.int d, .int y], rfl, e, hk, rfl⟩, ?_⟩
      walk_at "rd"
      refine ⟨_, "int", rfl, kn_int d, ?_⟩
      rw [hd]
      walk_at "rd"
      refine ⟨.still, d, .int y, "int", rfl, (by intro z; cases z), hk, kn_int y, ?_⟩
      rw [ok']
      walk_at "rd"
      refine ⟨.still, d, y, rfl, (by intro z; cases z), (by intro z; cases z), ?_⟩
      exact h
--@ read_rate
def sp_read_rate (K : PySem.W.Frag) : Sp := fun vs H Q E => ∃ x T, vs = [x] ∧ IsKind K H x T ∧ (∀ z, x = .str z → z.length ≤ 1000) ∧ (∀ n, rateT x = some n → Q (.int n) H) ∧ (rateT x = none → E (.ref (cA K "NoText")) none H)
theorem sc_read_rate : FnScope ["text", "rate"] ["text"] (defScope s_read_rate) := ⟨rfl, rfl, rfl, by decide +kernel, rfl, by decide +kernel, by decide +kernel⟩
theorem d_read_rate (S : Src K mg "read_rate" s_read_rate ["text"]) (T : Txt K mg) (D_read_cents : DefX P w K mg base 4 "read_cents" ["text"] (sp_read_cents K)) : DefX P w K mg base 5 "read_rate" ["text"] (sp_read_rate K) := by
  refine S.okXF sc_read_rate (fun vs H Q E h => ?_) (fun f cdv A outer s H vs Q E hr h => ?_)
  · obtain ⟨x, Tk, rfl, hk, hl, h, hE⟩ := h
    rfl
  obtain ⟨x, Tk, rfl, hk, hl, h, hE⟩ := h
  refine ⟨_, (pss_consN (ps_set (i := 1) sc_read_rate.nd rfl (by first | exact Or.inl rfl | exact Or.inr rfl) (pe_fnX (E := fun C d H' => Same H H' ∧ E C d H) D_read_cents hr passX (pa_cons (pv 0) pa_nil)))
      (pss_consN (ps_if (pt_not (pt_chain op_le op_le pe_int (pv 1) (pe_gint T.g_MOST_RATE)))
      (pss_one (ps_raise (E := fun C d H' => Same H H' ∧ E C d H) T.m_NoText T.x_NoText (fun _ _ _ _ _ _ _ I hx hE => xe_made I hx hE) (pa_cons pe_str pa_nil)))
      pss_nil)
      (pss_one (ps_ret (pv 1))))), ?_⟩
  have sz := sizeLine_eq
  walk_at "rd"
  refine ⟨x, Tk, rfl, hk, hl, fun n e => ?_, fun e => ?_⟩
  rotate_left
  · refine ⟨Same.refl _, hE ?_⟩
    cases x <;> first | rfl | skip
    exact congrArg (Option.bind · _) e
  have r : rateT x = if 0 ≤ n ∧ n ≤ 1000000 then some n else none := by
    cases x <;> first | (cases e; done) | skip
    show (centsL _).bind _ = _
    rw [show centsL _ = some n from e]
    rfl
  walk_at "rd"
  · rename_i c1 c2
    exact ⟨Same.refl _, hE (r.trans (if_neg fun y => c2 y.2))⟩
  · rename_i c1 c2
    exact ⟨Same.refl _, h n (r.trans (if_pos ⟨c1, c2⟩))⟩
  · rename_i c1
    exact ⟨Same.refl _, hE (r.trans (if_neg fun y => c1 y.1))⟩
--@ read_date
/-- the day that a text tells, if it is a date -/
def dateT : V → Option Int
  | .str z => if z.cps.toList.length = 10 ∧ z.cps.toList[4]? = some 45 ∧ z.cps.toList[7]? = some 45 ∧ (z.cps.toList.take 4 ++ (z.cps.toList.drop 5).take 2 ++ z.cps.toList.drop 8).all figB = true then dayV (.int (fval (z.cps.toList.take 4))) (.int (fval ((z.cps.toList.drop 5).take 2))) (.int (fval (z.cps.toList.drop 8))) else none
  | _ => none
theorem sl_of {z : Str} {l u : Option Int} {n : Nat} {is : List Nat} (hn : z.length = n) (h : Builtin.Str.strSliceIndices l u 1 n = is) (hl : (is.length == n) = false) : Txt.slice z l u = ⟨(is.filterMap (z.cps[·]?)).toArray⟩ := by
  unfold Txt.slice
  rw [hn, h, hl]
  rfl
theorem ten {z : Str} (h : z.cps.toList.length = 10) : ∃ a b c d e f g h i j, z = ⟨#[a, b, c, d, e, f, g, h, i, j]⟩ := by
  obtain ⟨⟨l⟩⟩ := z
  match l, h with
  | [a, b, c, d, e, f, g, h, i, j], _ => exact ⟨a, b, c, d, e, f, g, h, i, j, rfl⟩
theorem dash_of {c : Nat} (h : V.str ⟨#[c]⟩ = V.str (Str.ofString "-")) : c = 45 := by
  have e : (Str.ofString "-") = ⟨#[45]⟩ := by decide +kernel
  rw [e] at h
  injection h with h
  injection h with h
  simpa using h
theorem dash_at : V.str ⟨#[45]⟩ = V.str (Str.ofString "-") := congrArg V.str (by decide +kernel)
theorem date_shown {n : Int} {z : Str} (h : IsDt n z) (h0 : 0 ≤ n) (h1 : n ≤ 999999) : dateT (.str z) = some n := by
  obtain ⟨y, m, d, D, rfl, rfl⟩ := h
  obtain ⟨_, ⟨m0, m1⟩, ⟨d0, d1⟩⟩ := year_in D h0 h1
  obtain ⟨k, kl, ey, e⟩ := shown_list D h0 h1
  unfold dateT
  dsimp only
  rw [e, if_pos]
  · have f1 : fval [48 + (k + 2000) / 1000, 48 + (k + 2000) / 100 % 10, 48 + (k + 2000) / 10 % 10, 48 + (k + 2000) % 10] = y := by
      simp only [fval, List.foldl_cons, List.foldl_nil]
      omega
    have f2 : ∀ n : Int, 0 ≤ n → n ≤ 99 → fval [48 + (n / 10).toNat, 48 + (n % 10).toNat] = n := fun n h0 h1 => by
      simp only [fval, List.foldl_cons, List.foldl_nil]
      omega
    show dayV (.int (fval [48 + (k + 2000) / 1000, 48 + (k + 2000) / 100 % 10, 48 + (k + 2000) / 10 % 10, 48 + (k + 2000) % 10])) (.int (fval [48 + (m / 10).toNat, 48 + (m % 10).toNat])) (.int (fval [48 + (d / 10).toNat, 48 + (d % 10).toNat])) = _
    rw [f1, f2 m m0 m1, f2 d d0 d1]
    exact dayV_yes (dateV_iff.mpr D) ⟨h0, h1⟩
  · refine ⟨rfl, rfl, rfl, ?_⟩
    show ([48 + (k + 2000) / 1000, 48 + (k + 2000) / 100 % 10, 48 + (k + 2000) / 10 % 10, 48 + (k + 2000) % 10, 48 + (m / 10).toNat, 48 + (m % 10).toNat, 48 + (d / 10).toNat, 48 + (d % 10).toNat] : List Nat).all figB = true
    simp only [List.all_cons, List.all_nil, figB, Bool.and_eq_true, decide_eq_true_eq, and_true]
    omega
def thirdT (w : Str) (v : V) : Option Int := if w = "rate" ∨ w = "late" then rateT v else if w = "still" then dateT v else centsT v
/-- what the words of an entry tell -/
def rowT : List Str → Option (Str × Int × List V)
  | [w, a] => (dateT (.str a)).map fun d => (w, d, [])
  | [w, a, b] => (dateT (.str a)).bind fun d => (thirdT w (.str b)).map fun y => (w, d, [.int y])
  | _ => none
def BadRow (w : Str) (d : Int) (rest : List V) : Prop := w ∈ oddW ∨ (∃ k, k ≠ .base ∧ w = Ek.word k ∧ rest.length + 1 ≠ lenE k) ∨ ∃ k y, k ≠ .base ∧ k ≠ .turn ∧ w = Ek.word k ∧ rest = [.int y] ∧ withB (.int y) (loE k d) (hiE k) = false
def BadW (K : PySem.W.Frag) (H : Hp) (us : List V) : Prop := (us.length ≠ 2 ∧ us.length ≠ 3) ∨ ((us.length = 2 ∨ us.length = 3) ∧ (∀ u ∈ us, ∃ T, IsKind K H u T) ∧ ∃ u ∈ us, ∃ T, IsKind K H u T ∧ T ≠ "str") ∨
  ∃ ws, us = ws.map V.str ∧ (us.length = 2 ∨ us.length = 3) ∧ (∀ z ∈ ws, z.length ≤ 1000) ∧ (rowT ws = none ∨ ∃ w d rest, rowT ws = some (w, d, rest) ∧ BadRow w d rest)
def BadEn (K : PySem.W.Frag) (H : Hp) (x : V) : Prop := (∃ T, IsKind K H x T ∧ T ≠ "list") ∨ ∃ p us, x = .ref p ∧ H p = some (.lst us) ∧ us.length ≤ 100 ∧ BadW K H us
def GoodW (us : List V) (k : Ek) (d y : Int) : Prop := k ≠ .base ∧ GoodRow k d y ∧ ∃ ws, us = ws.map V.str ∧ (us.length = 2 ∨ us.length = 3) ∧ (∀ z ∈ ws, z.length ≤ 1000) ∧ ∃ rest, rowT ws = some (k.word, d, rest) ∧ rowV k d y = .str k.word :: .int d :: rest
def sp_read_date (K : PySem.W.Frag) : Sp := fun vs H Q E => ∃ x T, vs = [x] ∧ IsKind K H x T ∧ (∀ z, x = .str z → z.length ≤ 1000) ∧ (∀ n, dateT x = some n → Q (.int n) H) ∧ (dateT x = none → E (.ref (cA K "NoText")) none H)
theorem sc_read_date : FnScope ["text"] ["text"] (defScope s_read_date) := ⟨rfl, rfl, rfl, by decide +kernel, rfl, by decide +kernel, by decide +kernel⟩
theorem d_read_date (S : Src K mg "read_date" s_read_date ["text"]) (T : Txt K mg) (D_check_text : DefX P w K mg base 1 "check_text" ["thing"] (sp_check_text K)) (D_are_figures : Def P w K mg base 1 "are_figures" ["text"] (sp_are_figures K)) (D_day_of : DefC P w K mg base 4 "day_of" ["year", "month", "day"] (sp_day_of K)) : DefX P w K mg base 5 "read_date" ["text"] (sp_read_date K) := by
  refine S.okXF sc_read_date (fun vs H Q E h => ?_) (fun f cdv A outer s H vs Q E hr h => ?_)
  · obtain ⟨x, Tk, rfl, hk, hl, h, hE⟩ := h
    rfl
  obtain ⟨x, Tk, rfl, hk, hl, h, hE⟩ := h
  refine ⟨_, (pss_consN (ps_expr (pe_fnX (E := fun C d H' => Same H H' ∧ E C d H) D_check_text hr passX (pa_cons (pv 0) pa_nil)))
      (pss_consN (ps_if (PW.pt (pw_or (pt_cmpR op_ne (pe_callB call_len rfl T.n_len PySem.boot_len (pa_cons (pv 0) pa_nil)) pe_int (nomark _)) (pw_or (pt_cmpR op_ne (pe_item_str (pv 0) pe_int (fun _ _ => rfl)) pe_str (nomark _)) (pw_or (pt_cmpR op_ne (pe_item_str (pv 0) pe_int (fun _ _ => rfl)) pe_str (nomark _)) (pw_or1 (pt_not (pt_val (pe_fn D_are_figures hr (pa_cons (pe_op op_add_str (pe_op op_add_str (pe_slice sl_strE (pv 0) po_none (po_some pe_int)) (pe_slice sl_strE (pv 0) (po_some pe_int) (po_some pe_int))) (pe_slice sl_strE (pv 0) (po_some pe_int) po_none)) pa_nil)))))))))
      (pss_one (ps_raise (E := fun C d H' => Same H H' ∧ E C d H) T.m_NoText T.x_NoText (fun _ _ _ _ _ _ _ I hx hE => xe_made I hx hE) (pa_cons pe_str pa_nil)))
      pss_nil)
      (pss_one (ps_tryR (E := fun C d H' => Same H H' ∧ E C d H) D_day_of hr T.m_NoDay T.m_NoText T.x_NoText (pa_cons (pe_callTy call_intT rfl T.n_int PyProof.Rows.boot_int (pa_cons (pe_slice sl_strE (pv 0) po_none (po_some pe_int)) pa_nil)) (pa_cons (pe_callTy call_intT rfl T.n_int PyProof.Rows.boot_int (pa_cons (pe_slice sl_strE (pv 0) (po_some pe_int) (po_some pe_int)) pa_nil)) (pa_cons (pe_callTy call_intT rfl T.n_int PyProof.Rows.boot_int (pa_cons (pe_slice sl_strE (pv 0) (po_some pe_int) po_none) pa_nil)) pa_nil))) (fun e => (pa_cons pe_str pa_nil)) (fun _ _ _ _ _ _ _ I n hd up hE => xe_held I n hd up hE))))), ?_⟩
  have sz := sizeLine_eq
  walk_at "rd"
  refine ⟨x, Tk, rfl, hk, fun e => ?_, fun e => ?_⟩
  rotate_left
  · refine ⟨Same.refl _, hE ?_⟩
    cases x <;> first | rfl | skip
    cases hk.1
    exact absurd rfl e
  obtain ⟨z, rfl⟩ : ∃ z, x = .str z := by
    cases x <;> first | exact ⟨_, rfl⟩ | (cases hk.1 <;> exact absurd e (by decide))
  have zl := hl z rfl
  walk_at "rd"
  refine ⟨.str z, z.length, rfl, ⟨by omega, rfl⟩, ?_⟩
  walk_at "rd"
  · rename_i c
    exact ⟨Same.refl _, hE (if_neg fun q => c (by rw [show z.length = 10 from (Array.length_toList (xs := z.cps)).symm.trans q.1]; rfl))⟩
  rename_i c
  obtain ⟨x0, x1, x2, x3, x4, x5, x6, x7, x8, x9, ez⟩ := ten (z := z) (by
    rw [Array.length_toList]
    exact Int.ofNat.inj c)
  have z10 : z.length = 10 := Int.ofNat.inj c
  clear c
  walk_at "rd"
  refine ⟨_, 4, x4, rfl, rfl, by decide, by decide, by rw [z10]; decide, by rw [ez]; rfl, ?_⟩
  walk_at "rd"
  · rename_i n4
    exact ⟨Same.refl _, hE (if_neg fun q => n4 (by have y := q.2.1; rw [ez] at y; cases y; exact dash_at))⟩
  rename_i n4
  have d4 := dash_of n4
  subst d4
  walk_at "rd"
  refine ⟨_, 7, x7, rfl, rfl, by decide, by decide, by rw [z10]; decide, by rw [ez]; rfl, ?_⟩
  walk_at "rd"
  · rename_i n7
    exact ⟨Same.refl _, hE (if_neg fun q => n7 (by have y := q.2.2.1; rw [ez] at y; cases y; exact dash_at))⟩
  rename_i n7
  have d7 := dash_of n7
  subst d7
  clear n4 n7
  have s1 : Txt.slice z none (some 4) = ⟨#[x0, x1, x2, x3]⟩ := by rw [ez]; exact sl_of (n := 10) (is := [0, 1, 2, 3]) rfl (by decide +kernel) rfl
  have s2 : Txt.slice z (some 5) (some 7) = ⟨#[x5, x6]⟩ := by rw [ez]; exact sl_of (n := 10) (is := [5, 6]) rfl (by decide +kernel) rfl
  have s3 : Txt.slice z (some 8) none = ⟨#[x8, x9]⟩ := by rw [ez]; exact sl_of (n := 10) (is := [8, 9]) rfl (by decide +kernel) rfl
  obtain ⟨w1, e1⟩ : ∃ w1 : Str, w1 = ⟨#[x0, x1, x2, x3]⟩ := ⟨_, rfl⟩
  obtain ⟨w2, e2⟩ : ∃ w2 : Str, w2 = ⟨#[x5, x6]⟩ := ⟨_, rfl⟩
  obtain ⟨w3, e3⟩ : ∃ w3 : Str, w3 = ⟨#[x8, x9]⟩ := ⟨_, rfl⟩
  rw [← e1] at s1
  rw [← e2] at s2
  rw [← e3] at s3
  have l1 : w1.length = 4 := by rw [e1]; rfl
  have l2 : w2.length = 2 := by rw [e2]; rfl
  have l3 : w3.length = 2 := by rw [e3]; rfl
  have l12 : (w1 ++ w2).length = 6 := by rw [e1, e2]; rfl
  have l123 : (w1 ++ w2 ++ w3).length = 8 := by rw [e1, e2, e3]; rfl
  have dt : dateT (.str z) = if (w1 ++ w2 ++ w3).cps.toList.all figB = true then dayV (.int (fval w1.cps.toList)) (.int (fval w2.cps.toList)) (.int (fval w3.cps.toList)) else none := by
    rw [ez, e1, e2, e3]
    by_cases q : ((⟨#[x0, x1, x2, x3]⟩ : Str) ++ ⟨#[x5, x6]⟩ ++ ⟨#[x8, x9]⟩).cps.toList.all figB = true
    · rw [if_pos q]; exact if_pos ⟨rfl, rfl, rfl, q⟩
    · rw [if_neg q]; exact if_neg fun y => q y.2.2.2
  have al : (w1 ++ w2 ++ w3).cps.toList.all figB = (w1.cps.toList.all figB && w2.cps.toList.all figB && w3.cps.toList.all figB) := by
    show ((w1.cps ++ w2.cps) ++ w3.cps).toList.all figB = _
    rw [Array.toList_append, Array.toList_append, List.all_append, List.all_append]
  have m1 : w1.cps.toList ≠ [] := by rw [e1]; simp
  have m2 : w2.cps.toList ≠ [] := by rw [e2]; simp
  have m3 : w3.cps.toList ≠ [] := by rw [e3]; simp
  clear e1 e2 e3 ez
  walk_at "rd"
  rw [s1, s2]
  refine ⟨by omega, ?_⟩
  walk_at "rd"
  rw [s3]
  refine ⟨by omega, ?_⟩
  walk_at "rd"
  cases eq : (w1 ++ w2 ++ w3).cps.toList.all figB with
  | false =>
    walk_at "rd"
    exact ⟨Same.refl _, hE (by rw [dt, eq]; rfl)⟩
  | true =>
    rw [eq, if_pos rfl] at dt
    rw [eq] at al
    have al' := al.symm
    rw [Bool.and_eq_true, Bool.and_eq_true] at al'
    obtain ⟨⟨a1, a2⟩, a3⟩ := al'
    walk_at "rd"
    rw [s1]
    refine ⟨w1, _, rfl, by omega, fig_text a1 m1 (by omega), ?_⟩
    walk_at "rd"
    rw [s2]
    refine ⟨w2, _, rfl, by omega, fig_text a2 m2 (by omega), ?_⟩
    walk_at "rd"
    rw [s3]
    refine ⟨w3, _, rfl, by omega, fig_text a3 m3 (by omega), ?_⟩
    walk_at "rd"
    refine ⟨_, _, _, _, _, _, rfl, ⟨.int _, by decide⟩, ⟨.int _, by decide⟩, ⟨.int _, by decide⟩, fun n hn => ?_, fun hn => ?_⟩
    · exact ⟨Same.refl _, h n (dt.trans hn)⟩
    · refine ⟨_, rfl, T.e_NoDay_NoDay, ?_⟩
      walk_at "rd"
      exact ⟨Same.refl _, hE (dt.trans hn)⟩
--@ show_third
def sp_show_third (K : PySem.W.Frag) : Sp := fun vs H Q _ => ∃ (k : Ek) (x : Int), vs = [.str k.word, .int x] ∧ k ≠ .turn ∧ k ≠ .base ∧ (k = .still → 0 ≤ x ∧ x ≤ 999999) ∧ x.natAbs < 10 ^ 20 ∧ ∀ z, IsTh k x z → Q (.str z) H
theorem sc_show_third : FnScope ["word", "thing"] ["word", "thing"] (defScope s_show_third) := ⟨rfl, rfl, rfl, by decide +kernel, rfl, by decide +kernel, by decide +kernel⟩
theorem d_show_third (S : Src K mg "show_third" s_show_third ["word", "thing"]) (T : Txt K mg) (D_show_rate : Def P w K mg base 3 "show_rate" ["rate"] (sp_show_rate K)) (D_show_date : Def P w K mg base 4 "show_date" ["day"] (sp_show_date K)) (D_show_cents : Def P w K mg base 2 "show_cents" ["cents"] (sp_show_cents K)) : Def P w K mg base 5 "show_third" ["word", "thing"] (sp_show_third K) := by
  refine S.okF sc_show_third (fun vs H Q E h => ?_) (fun f cdv A outer s H vs Q E hr h => ?_)
  · obtain ⟨k, x, rfl, hk, hb, hs, hx, h⟩ := h
    rfl
  obtain ⟨k, x, rfl, hk, hb, hs, hx, h⟩ := h
  refine ⟨_, (pss_consN (ps_if (pt_cmpR op_in_seq (pv 0) (pe_tup (pa_cons pe_str (pa_cons pe_str pa_nil))) (by with_unfolding_all rfl))
      (pss_one (ps_ret (pe_fn D_show_rate hr (pa_cons (pv 1) pa_nil))))
      pss_nil)
      (pss_consN (ps_if (pt_cmpR op_eq (pv 0) pe_str (nomark _))
      (pss_one (ps_ret (pe_fn D_show_date hr (pa_cons (pv 1) pa_nil))))
      pss_nil)
      (pss_one (ps_ret (pe_fn D_show_cents hr (pa_cons (pv 1) pa_nil)))))), ?_⟩
  have sz := sizeLine_eq
  cases k with
  | base => exact absurd rfl hb
  | turn => exact absurd rfl hk
  | rate =>
    dsimp only [Ek.word]
    walk_at "rd"
    intro t nt
    have st := same_new nt (.tup [.str "rate", .str "late"])
    walk_at "rd"
    refine ⟨t, _, rfl, .inr (SqT.of upd_same), rfl, rfl, ?_⟩
    refine ⟨_, rfl, ?_⟩
    refine ifB (fun z => ?_) (fun z => absurd z (by decide))
    walk_at "rd"
    exact h _ ⟨(fun z => nomatch z), fun _ => rfl⟩
  | late =>
    dsimp only [Ek.word]
    walk_at "rd"
    intro t nt
    have st := same_new nt (.tup [.str "rate", .str "late"])
    walk_at "rd"
    refine ⟨t, _, rfl, .inr (SqT.of upd_same), rfl, rfl, ?_⟩
    refine ⟨_, rfl, ?_⟩
    refine ifB (fun z => ?_) (fun z => absurd z (by decide))
    walk_at "rd"
    exact h _ ⟨(fun z => nomatch z), fun _ => rfl⟩
  | still =>
    dsimp only [Ek.word]
    walk_at "rd"
    intro t nt
    have st := same_new nt (.tup [.str "rate", .str "late"])
    walk_at "rd"
    refine ⟨t, _, rfl, .inr (SqT.of upd_same), rfl, rfl, ?_⟩
    refine ⟨_, rfl, ?_⟩
    refine ifB (fun z => absurd z (by decide)) (fun z => ?_)
    walk_at "rd"
    exact ⟨hs rfl, fun z hz => ⟨st, h z ⟨fun _ => hz, fun e => absurd rfl e⟩⟩⟩
  | _ =>
    dsimp only [Ek.word]
    walk_at "rd"
    intro t nt
    have st := same_new nt (.tup [.str "rate", .str "late"])
    walk_at "rd"
    refine ⟨t, _, rfl, .inr (SqT.of upd_same), rfl, rfl, ?_⟩
    refine ⟨_, rfl, ?_⟩
    refine ifB (fun z => absurd z (by decide)) (fun z => ?_)
    walk_at "rd"
    exact h _ ⟨(fun z => nomatch z), fun _ => rfl⟩
--@ _law_text
def sp__law_text (K : PySem.W.Frag) : Sp := fun vs H Q _ => L2.Ee4 fun r k (d x : Int) => L2.Aa7 (vs = [.ref r]) (H r = some (.tup (row3 k d x))) (k ≠ .base) ((0 ≤ d ∧ d ≤ 999999)) ((k = .still → 0 ≤ x ∧ x ≤ 999999)) ((k ≠ .turn → x.natAbs < 10 ^ 20)) (∀ a b, IsDt d a → (k ≠ .turn → IsTh k x b) → Q (.str (lineE k a b)) H)
theorem sc__law_text : FnScope ["_law_row_here", "_law_word", "_law_day", "_law_value_here"] ["_law_row_here"] (defScope s__law_text) := ⟨rfl, rfl, rfl, by decide +kernel, rfl, by decide +kernel, by decide +kernel⟩
theorem d__law_text (S : Src K mg "_law_text" s__law_text ["_law_row_here"]) (T : Txt K mg) (D__law_written : Def P w K mg base 4 "_law_written" ["_law_day"] (sp__law_written K)) (D__law_shown : Def P w K mg base 2 "_law_shown" ["_law_number"] (sp__law_shown K)) : Def P w K mg base 5 "_law_text" ["_law_row_here"] (sp__law_text K) := by
  refine S.ok sc__law_text (fun vs H Q E h => ?_) (fun f cdv A outer s H vs Q E hr h => ?_)
  · obtain ⟨r, k, d, x, rfl, e, hb, hd, hs, hx, h⟩ := h
    rfl
  obtain ⟨r, k, d, x, rfl, e, hb, hd, hs, hx, h⟩ := h
  refine ⟨_, (pss_consN (ps_asg (pv 0) (pg_tup rfl (pgs_cons (pg_name (i := 1) sc__law_text.nd rfl (by first | exact Or.inl rfl | exact Or.inr rfl)) (pgs_cons (pg_name (i := 2) sc__law_text.nd rfl (by first | exact Or.inl rfl | exact Or.inr rfl)) (pgs_cons (pg_name (i := 3) sc__law_text.nd rfl (by first | exact Or.inl rfl | exact Or.inr rfl)) pgs_nil)))))
      (pss_consN (ps_if (pt_cmpR op_eq (pv 1) pe_str (nomark _))
      (pss_one (ps_ret (pe_op op_add_str (pe_op op_add_str (pv 1) pe_str) (pe_fn D__law_written hr (pa_cons (pv 2) pa_nil)))))
      pss_nil)
      (pss_consN (ps_if (pt_cmpR op_eq (pv 1) pe_str (nomark _))
      (pss_one (ps_ret (pe_op op_add_str (pe_op op_add_str (pe_op op_add_str (pe_op op_add_str (pv 1) pe_str) (pe_fn D__law_written hr (pa_cons (pv 2) pa_nil))) pe_str) (pe_fn D__law_written hr (pa_cons (pv 3) pa_nil)))))
      pss_nil)
      (pss_one (ps_ret (pe_op op_add_str (pe_op op_add_str (pe_op op_add_str (pe_op op_add_str (pv 1) pe_str) (pe_fn D__law_written hr (pa_cons (pv 2) pa_nil))) pe_str) (pe_fn D__law_shown hr (pa_cons (pv 3) pa_nil)))))))), ?_⟩
  have sz := sizeLine_eq
  have l1 : (" " : Str).length = 1 := by rw [sp_list]; rfl
  have wl := word_len k
  have th := fun (q : k ≠ .turn) b (hb : IsTh k x b) => hb.len hs (hx q)
  have it : k ≠ .still → IsTh k x (shC x) := fun q => ⟨fun z => absurd z q, fun _ => rfl⟩
  cases k with
  | base => exact absurd rfl hb
  | turn =>
    dsimp only [row3, Ek.word] at e wl
    walk_at "rd"
    refine ⟨r, _, rfl, SqT.of e, rfl, ?_⟩
    walk_at "rd"
    intro z hz
    have zl := hz.len hd.1 hd.2
    walk_at "rd"
    refine ⟨by rw [Str.length_append, l1]; omega, ?_⟩
    exact h z "" hz fun q => absurd rfl q
  | still =>
    dsimp only [row3, Ek.word] at e wl
    walk_at "rd"
    refine ⟨r, _, rfl, SqT.of e, rfl, ?_⟩
    walk_at "rd"
    intro z hz
    have zl := hz.len hd.1 hd.2
    walk_at "rd"
    refine ⟨by rw [Str.length_append, l1]; omega, ?_⟩
    walk_at "rd"
    refine ⟨by rw [Str.length_append, Str.length_append, l1]; omega, ?_⟩
    walk_at "rd"
    refine ⟨hs rfl, fun z2 hz2 => ?_⟩
    have z2l := hz2.len (hs rfl).1 (hs rfl).2
    walk_at "rd"
    refine ⟨by rw [Str.length_append, Str.length_append, Str.length_append, l1]; omega, ?_⟩
    exact h z z2 hz fun _ => ⟨fun _ => hz2, fun q => absurd rfl q⟩
  | _ =>
    have it := it (by intro z; cases z)
    have sl := th (by intro z; cases z) _ it
    clear th
    obtain ⟨sx, ex⟩ : ∃ sx, sx = shC x := ⟨_, rfl⟩
    rw [← ex] at it sl
    have hx80 : x.natAbs < 10 ^ 80 := Nat.lt_trans (hx (by intro z; cases z)) (by decide)
    dsimp only [row3, Ek.word] at e wl
    walk_at "rd"
    refine ⟨r, _, rfl, SqT.of e, rfl, ?_⟩
    walk_at "rd"
    intro z hz
    have zl := hz.len hd.1 hd.2
    walk_at "rd"
    refine ⟨by rw [Str.length_append, l1]; omega, ?_⟩
    walk_at "rd"
    refine ⟨by rw [Str.length_append, Str.length_append, l1]; omega, ?_⟩
    walk_at "rd"
    intro sy ey
    obtain rfl : sy = sx := ey.trans ex.symm
    walk_at "rd"
    refine ⟨by rw [Str.length_append, Str.length_append, Str.length_append, l1]; omega, ?_⟩
    exact h z sy hz fun _ => it
--@ _law_tail
def TailBad (k : Ek) (d : Int) (z : Str) : Prop := z.length ≤ 100 ∧ (thirdT k.word (.str z) = none ∨ ∃ y, thirdT k.word (.str z) = some y ∧ withB (.int y) (loE k d) (hiE k) = false)
theorem tb_no {k : Ek} {d : Int} {z : Str} (h1 : z.length ≤ 100) (h2 : thirdT k.word (.str z) = none) : TailBad k d z := ⟨h1, .inl h2⟩
theorem tb_so {k : Ek} {d : Int} {z : Str} (y : Int) (h1 : z.length ≤ 100) (h2 : thirdT k.word (.str z) = some y) (h3 : withB (.int y) (loE k d) (hiE k) = false) : TailBad k d z := ⟨h1, .inr ⟨y, h2, h3⟩⟩
theorem tb_rate {k : Ek} {d : Int} (hk : k = .rate ∨ k = .late) : ∀ v ∈ ([.str "10000.01", .str "-1.00", .str "3.7", .str "3", .str "", .str "01.00"] : List V), ∃ z, v = .str z ∧ TailBad k d z := by
  rcases hk with rfl | rfl
  · exact mem1 ⟨_, rfl, tb_no (by decide +kernel) (by decide +kernel)⟩ (mem1 ⟨_, rfl, tb_no (by decide +kernel) (by decide +kernel)⟩ (mem1 ⟨_, rfl, tb_no (by decide +kernel) (by decide +kernel)⟩ (mem1 ⟨_, rfl, tb_no (by decide +kernel) (by decide +kernel)⟩ (mem1 ⟨_, rfl, tb_no (by decide +kernel) (by decide +kernel)⟩ (mem1 ⟨_, rfl, tb_no (by decide +kernel) (by decide +kernel)⟩ mem0)))))
  · exact mem1 ⟨_, rfl, tb_no (by decide +kernel) (by decide +kernel)⟩ (mem1 ⟨_, rfl, tb_no (by decide +kernel) (by decide +kernel)⟩ (mem1 ⟨_, rfl, tb_no (by decide +kernel) (by decide +kernel)⟩ (mem1 ⟨_, rfl, tb_no (by decide +kernel) (by decide +kernel)⟩ (mem1 ⟨_, rfl, tb_no (by decide +kernel) (by decide +kernel)⟩ (mem1 ⟨_, rfl, tb_no (by decide +kernel) (by decide +kernel)⟩ mem0)))))
theorem tb_fee {d : Int} : ∀ v ∈ ([.str "10000000000.01", .str "-10000000000.01", .str "-0.00", .str "5", .str "", .str "1,00"] : List V), ∃ z, v = .str z ∧ TailBad .fee d z :=
  mem1 ⟨_, rfl, tb_so 1000000000001 (by decide +kernel) (by decide +kernel) rfl⟩ (mem1 ⟨_, rfl, tb_so (-1000000000001) (by decide +kernel) (by decide +kernel) rfl⟩ (mem1 ⟨_, rfl, tb_no (by decide +kernel) (by decide +kernel)⟩ (mem1 ⟨_, rfl, tb_no (by decide +kernel) (by decide +kernel)⟩ (mem1 ⟨_, rfl, tb_no (by decide +kernel) (by decide +kernel)⟩ (mem1 ⟨_, rfl, tb_no (by decide +kernel) (by decide +kernel)⟩ mem0)))))
theorem tb_sum {k : Ek} {d : Int} (hk : k = .out ∨ k = .pay ∨ k = .due) : ∀ v ∈ ([.str "10000000000.01", .str "-1.00", .str "0.00", .str "5", .str "", .str "1.5"] : List V), ∃ z, v = .str z ∧ TailBad k d z := by
  rcases hk with rfl | rfl | rfl
  · exact mem1 ⟨_, rfl, tb_so 1000000000001 (by decide +kernel) (by decide +kernel) rfl⟩ (mem1 ⟨_, rfl, tb_so (-100) (by decide +kernel) (by decide +kernel) rfl⟩ (mem1 ⟨_, rfl, tb_so 0 (by decide +kernel) (by decide +kernel) rfl⟩ (mem1 ⟨_, rfl, tb_no (by decide +kernel) (by decide +kernel)⟩ (mem1 ⟨_, rfl, tb_no (by decide +kernel) (by decide +kernel)⟩ (mem1 ⟨_, rfl, tb_no (by decide +kernel) (by decide +kernel)⟩ mem0)))))
  · exact mem1 ⟨_, rfl, tb_so 1000000000001 (by decide +kernel) (by decide +kernel) rfl⟩ (mem1 ⟨_, rfl, tb_so (-100) (by decide +kernel) (by decide +kernel) rfl⟩ (mem1 ⟨_, rfl, tb_so 0 (by decide +kernel) (by decide +kernel) rfl⟩ (mem1 ⟨_, rfl, tb_no (by decide +kernel) (by decide +kernel)⟩ (mem1 ⟨_, rfl, tb_no (by decide +kernel) (by decide +kernel)⟩ (mem1 ⟨_, rfl, tb_no (by decide +kernel) (by decide +kernel)⟩ mem0)))))
  · exact mem1 ⟨_, rfl, tb_so 1000000000001 (by decide +kernel) (by decide +kernel) rfl⟩ (mem1 ⟨_, rfl, tb_so (-100) (by decide +kernel) (by decide +kernel) rfl⟩ (mem1 ⟨_, rfl, tb_so 0 (by decide +kernel) (by decide +kernel) rfl⟩ (mem1 ⟨_, rfl, tb_no (by decide +kernel) (by decide +kernel)⟩ (mem1 ⟨_, rfl, tb_no (by decide +kernel) (by decide +kernel)⟩ (mem1 ⟨_, rfl, tb_no (by decide +kernel) (by decide +kernel)⟩ mem0)))))
theorem tb_day {d n : Int} {a : Str} (h : IsDt n a) (h0 : 0 ≤ n) (h1 : n ≤ 999999) (h2 : n ≤ d) : TailBad .still d a :=
  tb_so n (by have := h.len h0 h1; omega) (date_shown h h0 h1) (by show (decide (d + 1 ≤ n) && _) = false; rw [decide_eq_false (show ¬ d + 1 ≤ n by omega)]; rfl)
theorem tb_still {d m : Int} {a b : Str} (ha : IsDt d a) (hb : IsDt m b) (h0 : 0 ≤ d) (h1 : d ≤ 999999) (m0 : 0 ≤ m) (m1 : m ≤ d) : ∀ v ∈ ([.str a, .str b, .str "2023-02-29", .str "1.00"] : List V), ∃ z, v = .str z ∧ TailBad .still d z :=
  mem1 ⟨_, rfl, tb_day ha h0 h1 (by omega)⟩ (mem1 ⟨_, rfl, tb_day hb m0 (by omega) m1⟩ (mem1 ⟨_, rfl, tb_no (by decide +kernel) (by decide +kernel)⟩ (mem1 ⟨_, rfl, tb_no (by decide +kernel) (by decide +kernel)⟩ mem0)))
def sp__law_tail (K : PySem.W.Frag) : Sp := fun vs H Q _ => L2.Ee5 fun r k d x c => L2.Aa7 (vs = [.ref r, .int c]) (H r = some (.tup (row3 k d x))) (k ≠ .base) (k ≠ .turn) ((0 ≤ d ∧ d ≤ 999999)) (0 ≤ c) (∀ z, TailBad k d z → Q (.str z) H)
theorem sc__law_tail : FnScope ["_law_row_here", "_law_x"] ["_law_row_here", "_law_x"] (defScope s__law_tail) := ⟨rfl, rfl, rfl, by decide +kernel, rfl, by decide +kernel, by decide +kernel⟩
theorem d__law_tail (S : Src K mg "_law_tail" s__law_tail ["_law_row_here", "_law_x"]) (T : Txt K mg) (D__law_written : Def P w K mg base 4 "_law_written" ["_law_day"] (sp__law_written K)) : Def P w K mg base 5 "_law_tail" ["_law_row_here", "_law_x"] (sp__law_tail K) := by
  refine S.okF sc__law_tail (fun vs H Q E h => ?_) (fun f cdv A outer s H vs Q E hr h => ?_)
  · obtain ⟨r, k, d, x, c, rfl, e, hb, ht, ⟨d0, d1⟩, c0, h⟩ := h
    rfl
  obtain ⟨r, k, d, x, c, rfl, e, hb, ht, ⟨d0, d1⟩, c0, h⟩ := h
  refine ⟨_, (pss_consN (ps_if (pt_cmpR op_in_seq (pe_ix ix_tup (pv 0) pe_int (fun _ _ => rfl)) (pe_tup (pa_cons pe_str (pa_cons pe_str pa_nil))) (by with_unfolding_all rfl))
      (pss_one (ps_ret (pe_ix ix_list (pe_lst (pa_cons pe_str (pa_cons pe_str (pa_cons pe_str (pa_cons pe_str (pa_cons pe_str (pa_cons pe_str pa_nil))))))) (pe_op op_mod (pv 1) pe_int) (fun _ _ => rfl))))
      pss_nil)
      (pss_consN (ps_if (pt_cmpR op_eq (pe_ix ix_tup (pv 0) pe_int (fun _ _ => rfl)) pe_str (nomark _))
      (pss_one (ps_ret (pe_ix ix_list (pe_lst (pa_cons (pe_fn D__law_written hr (pa_cons (pe_ix ix_tup (pv 0) pe_int (fun _ _ => rfl)) pa_nil)) (pa_cons (pe_fn D__law_written hr (pa_cons (pe_callB (call_max2 rfl) rfl T.n_max PyProof.Rows.boot_max (pa_cons pe_int (pa_cons (pe_op op_sub (pe_op op_sub (pe_ix ix_tup (pv 0) pe_int (fun _ _ => rfl)) pe_int) (pe_op op_mod (pv 1) pe_int)) pa_nil))) pa_nil)) (pa_cons pe_str (pa_cons pe_str pa_nil))))) (pe_op op_mod (pv 1) pe_int) (fun _ _ => rfl))))
      pss_nil)
      (pss_consN (ps_if (pt_cmpR op_eq (pe_ix ix_tup (pv 0) pe_int (fun _ _ => rfl)) pe_str (nomark _))
      (pss_one (ps_ret (pe_ix ix_list (pe_lst (pa_cons pe_str (pa_cons pe_str (pa_cons pe_str (pa_cons pe_str (pa_cons pe_str (pa_cons pe_str pa_nil))))))) (pe_op op_mod (pv 1) pe_int) (fun _ _ => rfl))))
      pss_nil)
      (pss_one (ps_ret (pe_ix ix_list (pe_lst (pa_cons pe_str (pa_cons pe_str (pa_cons pe_str (pa_cons pe_str (pa_cons pe_str (pa_cons pe_str pa_nil))))))) (pe_op op_mod (pv 1) pe_int) (fun _ _ => rfl))))))), ?_⟩
  have sz := sizeLine_eq
  have a0 := Int.emod_nonneg c (show (6 : Int) ≠ 0 by decide)
  have a1 := Int.emod_lt_of_pos c (show (0 : Int) < 6 by decide)
  cases k with
  | base => exact absurd rfl hb
  | turn => exact absurd rfl ht
  | rate =>
    dsimp only [row3, Ek.word] at e
    walk_at "rd"
    intro t nt
    have st := same_new nt (.tup [.str "rate", .str "late"])
    have et := st _ _ e
    walk_at "rd"
    refine ⟨t, _, rfl, .inr (SqT.of upd_same), rfl, rfl, _, rfl, ?_⟩
    generalize upd H t (.tup [.str "rate", .str "late"]) = H1 at st et ⊢
    walk_at "rd"
    intro l nl
    obtain ⟨v, hv, hm⟩ := at_mem (xs := [.str "10000.01", .str "-1.00", .str "3.7", .str "3", .str "", .str "01.00"]) a0 (by simpa using a1)
    obtain ⟨z, rfl, hz⟩ := tb_rate (d := d) (.inl rfl) v hm
    walk_at "rd"
    refine ⟨l, _, _, _, rfl, rfl, SqL.of upd_same, hv, ?_⟩
    exact ⟨st.trans (same_new nl _), h z hz⟩
  | late =>
    dsimp only [row3, Ek.word] at e
    walk_at "rd"
    intro t nt
    have st := same_new nt (.tup [.str "rate", .str "late"])
    have et := st _ _ e
    walk_at "rd"
    refine ⟨t, _, rfl, .inr (SqT.of upd_same), rfl, rfl, _, rfl, ?_⟩
    generalize upd H t (.tup [.str "rate", .str "late"]) = H1 at st et ⊢
    walk_at "rd"
    intro l nl
    obtain ⟨v, hv, hm⟩ := at_mem (xs := [.str "10000.01", .str "-1.00", .str "3.7", .str "3", .str "", .str "01.00"]) a0 (by simpa using a1)
    obtain ⟨z, rfl, hz⟩ := tb_rate (d := d) (.inr rfl) v hm
    walk_at "rd"
    refine ⟨l, _, _, _, rfl, rfl, SqL.of upd_same, hv, ?_⟩
    exact ⟨st.trans (same_new nl _), h z hz⟩
  | fee =>
    dsimp only [row3, Ek.word] at e
    walk_at "rd"
    intro t nt
    have st := same_new nt (.tup [.str "rate", .str "late"])
    have et := st _ _ e
    walk_at "rd"
    refine ⟨t, _, rfl, .inr (SqT.of upd_same), rfl, rfl, _, rfl, ?_⟩
    generalize upd H t (.tup [.str "rate", .str "late"]) = H1 at st et ⊢
    walk_at "rd"
    intro l nl
    obtain ⟨v, hv, hm⟩ := at_mem (xs := [.str "10000000000.01", .str "-10000000000.01", .str "-0.00", .str "5", .str "", .str "1,00"]) a0 (by simpa using a1)
    obtain ⟨z, rfl, hz⟩ := tb_fee (d := d) v hm
    walk_at "rd"
    refine ⟨l, _, _, _, rfl, rfl, SqL.of upd_same, hv, ?_⟩
    exact ⟨st.trans (same_new nl _), h z hz⟩
  | out =>
    dsimp only [row3, Ek.word] at e
    walk_at "rd"
    intro t nt
    have st := same_new nt (.tup [.str "rate", .str "late"])
    have et := st _ _ e
    walk_at "rd"
    refine ⟨t, _, rfl, .inr (SqT.of upd_same), rfl, rfl, _, rfl, ?_⟩
    generalize upd H t (.tup [.str "rate", .str "late"]) = H1 at st et ⊢
    walk_at "rd"
    intro l nl
    obtain ⟨v, hv, hm⟩ := at_mem (xs := [.str "10000000000.01", .str "-1.00", .str "0.00", .str "5", .str "", .str "1.5"]) a0 (by simpa using a1)
    obtain ⟨z, rfl, hz⟩ := tb_sum (d := d) (.inl rfl) v hm
    walk_at "rd"
    refine ⟨l, _, _, _, rfl, rfl, SqL.of upd_same, hv, ?_⟩
    exact ⟨st.trans (same_new nl _), h z hz⟩
  | pay =>
    dsimp only [row3, Ek.word] at e
    walk_at "rd"
    intro t nt
    have st := same_new nt (.tup [.str "rate", .str "late"])
    have et := st _ _ e
    walk_at "rd"
    refine ⟨t, _, rfl, .inr (SqT.of upd_same), rfl, rfl, _, rfl, ?_⟩
    generalize upd H t (.tup [.str "rate", .str "late"]) = H1 at st et ⊢
    walk_at "rd"
    intro l nl
    obtain ⟨v, hv, hm⟩ := at_mem (xs := [.str "10000000000.01", .str "-1.00", .str "0.00", .str "5", .str "", .str "1.5"]) a0 (by simpa using a1)
    obtain ⟨z, rfl, hz⟩ := tb_sum (d := d) (.inr (.inl rfl)) v hm
    walk_at "rd"
    refine ⟨l, _, _, _, rfl, rfl, SqL.of upd_same, hv, ?_⟩
    exact ⟨st.trans (same_new nl _), h z hz⟩
  | due =>
    dsimp only [row3, Ek.word] at e
    walk_at "rd"
    intro t nt
    have st := same_new nt (.tup [.str "rate", .str "late"])
    have et := st _ _ e
    walk_at "rd"
    refine ⟨t, _, rfl, .inr (SqT.of upd_same), rfl, rfl, _, rfl, ?_⟩
    generalize upd H t (.tup [.str "rate", .str "late"]) = H1 at st et ⊢
    walk_at "rd"
    intro l nl
    obtain ⟨v, hv, hm⟩ := at_mem (xs := [.str "10000000000.01", .str "-1.00", .str "0.00", .str "5", .str "", .str "1.5"]) a0 (by simpa using a1)
    obtain ⟨z, rfl, hz⟩ := tb_sum (d := d) (.inr (.inr rfl)) v hm
    walk_at "rd"
    refine ⟨l, _, _, _, rfl, rfl, SqL.of upd_same, hv, ?_⟩
    exact ⟨st.trans (same_new nl _), h z hz⟩
  | still =>
    dsimp only [row3, Ek.word] at e
    walk_at "rd"
    intro t nt
    have st := same_new nt (.tup [.str "rate", .str "late"])
    have et := st _ _ e
    walk_at "rd"
    refine ⟨t, _, rfl, .inr (SqT.of upd_same), rfl, rfl, _, rfl, ?_⟩
    generalize upd H t (.tup [.str "rate", .str "late"]) = H1 at st et ⊢
    walk_at "rd"
    intro za ha
    have b0 := Int.emod_nonneg c (show (9 : Int) ≠ 0 by decide)
    have b1 := Int.emod_lt_of_pos c (show (0 : Int) < 9 by decide)
    have b2 := Int.emod_nonneg c (show (4 : Int) ≠ 0 by decide)
    have b3 := Int.emod_lt_of_pos c (show (0 : Int) < 4 by decide)
    have mx0 : 0 ≤ (if d - 1 - c % 9 > 0 then d - 1 - c % 9 else 0) ∧ (if d - 1 - c % 9 > 0 then d - 1 - c % 9 else 0) ≤ 999999 := by split <;> omega
    have mx : 0 ≤ (if d - 1 - c % 9 > 0 then d - 1 - c % 9 else 0) ∧ (if d - 1 - c % 9 > 0 then d - 1 - c % 9 else 0) ≤ d := by split <;> omega
    walk_at "rd"
    generalize (if d - 1 - c % 9 > 0 then d - 1 - c % 9 else 0) = m at mx mx0 ⊢
    intro zb hb
    walk_at "rd"
    intro l nl
    obtain ⟨v, hv, hm⟩ := at_mem (xs := [.str za, .str zb, .str "2023-02-29", .str "1.00"]) b2 (by simpa using b3)
    obtain ⟨z, rfl, hz⟩ := tb_still ha hb d0 d1 mx.1 mx.2 v hm
    walk_at "rd"
    refine ⟨l, _, _, _, rfl, rfl, SqL.of upd_same, hv, ?_⟩
    exact ⟨st.trans (same_new nl _), h z hz⟩
--@ read_third
def sp_read_third (K : PySem.W.Frag) : Sp := fun vs H Q E => ∃ w z, vs = [.str w, .str z] ∧ z.length ≤ 1000 ∧ (∀ n, thirdT w (.str z) = some n → Q (.int n) H) ∧ (thirdT w (.str z) = none → E (.ref (cA K "NoText")) none H)
theorem sc_read_third : FnScope ["word", "text"] ["word", "text"] (defScope s_read_third) := ⟨rfl, rfl, rfl, by decide +kernel, rfl, by decide +kernel, by decide +kernel⟩
theorem d_read_third (S : Src K mg "read_third" s_read_third ["word", "text"]) (T : Txt K mg) (D_read_rate : DefX P w K mg base 5 "read_rate" ["text"] (sp_read_rate K)) (D_read_date : DefX P w K mg base 5 "read_date" ["text"] (sp_read_date K)) (D_read_cents : DefX P w K mg base 4 "read_cents" ["text"] (sp_read_cents K)) : DefX P w K mg base 6 "read_third" ["word", "text"] (sp_read_third K) := by
  refine S.okXF sc_read_third (fun vs H Q E h => ?_) (fun f cdv A outer s H vs Q E hr h => ?_)
  · obtain ⟨w, z, rfl, hl, h, hE⟩ := h
    rfl
  obtain ⟨w, z, rfl, hl, h, hE⟩ := h
  refine ⟨_, (pss_consN (ps_if (pt_cmpR op_in_seq (pv 0) (pe_tup (pa_cons pe_str (pa_cons pe_str pa_nil))) (by with_unfolding_all rfl))
      (pss_one (ps_ret (pe_fnX (E := fun C d H' => Same H H' ∧ E C d H) D_read_rate hr passX (pa_cons (pv 1) pa_nil))))
      pss_nil)
      (pss_consN (ps_if (pt_cmpR op_eq (pv 0) pe_str (nomark _))
      (pss_one (ps_ret (pe_fnX (E := fun C d H' => Same H H' ∧ E C d H) D_read_date hr passX (pa_cons (pv 1) pa_nil))))
      pss_nil)
      (pss_one (ps_ret (pe_fnX (E := fun C d H' => Same H H' ∧ E C d H) D_read_cents hr passX (pa_cons (pv 1) pa_nil)))))), ?_⟩
  have sz := sizeLine_eq
  have hk : ∀ H', IsKind K H' (.str z) "str" := fun H' => kn_str z
  have hz : ∀ z', V.str z = .str z' → z'.length ≤ 1000 := fun z' e => by cases e; exact hl
  walk_at "rd"
  intro t nt
  have st := same_new nt (.tup [.str "rate", .str "late"])
  walk_at "rd"
  refine ⟨t, _, rfl, .inr (SqT.of upd_same), rfl, rfl, ?_⟩
  refine ⟨_, rfl, ?_⟩
  rw [show inV (.str w) [.str "rate", .str "late"] = _ from in_two]
  refine ifD (fun c => ?_) (fun c => ?_)
  · have e : thirdT w (.str z) = rateT (.str z) := if_pos c
    rw [e] at h hE
    walk_at "rd"
    refine ⟨_, _, rfl, hk _, hz, fun n hn => ?_, fun hn => ?_⟩
    · exact ⟨st, h n hn⟩
    · exact ⟨st, hE hn⟩
  · have e0 : thirdT w (.str z) = if w = "still" then dateT (.str z) else centsT (.str z) := if_neg c
    walk_at "rd"
    · rename_i c2
      have e : thirdT w (.str z) = dateT (.str z) := e0.trans (if_pos (by injection c2))
      rw [e] at h hE
      refine ⟨_, _, rfl, hk _, hz, fun n hn => ?_, fun hn => ?_⟩
      · exact ⟨st, h n hn⟩
      · exact ⟨st, hE hn⟩
    · rename_i c2
      have e : thirdT w (.str z) = centsT (.str z) := e0.trans (if_neg fun z => c2 (by rw [z]))
      rw [e] at h hE
      refine ⟨_, _, rfl, hk _, hz, fun n hn => ?_, fun hn => ?_⟩
      · exact ⟨st, h n hn⟩
      · exact ⟨st, hE hn⟩
--@ show_entry
def sp_show_entry (K : PySem.W.Frag) : Sp := fun vs H Q _ => L2.Ee5 fun q dx k (d x : Int) => L2.Aa7 (vs = [.ref q]) (IsEnt K H q dx k d x) (k ≠ .base) ((0 ≤ d ∧ d ≤ 999999)) ((k = .still → 0 ≤ x ∧ x ≤ 999999)) ((k ≠ .turn → x.natAbs < 10 ^ 20)) (∀ a b, IsDt d a → (k ≠ .turn → IsTh k x b) → Q (.str (lineE k a b)) H)
theorem sc_show_entry : FnScope ["entry", "row", "words"] ["entry"] (defScope s_show_entry) := ⟨rfl, rfl, rfl, by decide +kernel, rfl, by decide +kernel, by decide +kernel⟩
theorem d_show_entry (S : Src K mg "show_entry" s_show_entry ["entry"]) (T : Txt K mg) (D_e_row : ∀ k : Ek, DefM P w K mg base 2 (cA K k.cls) "row" ["self"] (sp_e_row k K)) (D_show_date : Def P w K mg base 4 "show_date" ["day"] (sp_show_date K)) (D_show_third : Def P w K mg base 5 "show_third" ["word", "thing"] (sp_show_third K)) : Def P w K mg base 6 "show_entry" ["entry"] (sp_show_entry K) := by
  refine S.okF sc_show_entry (fun vs H Q E h => ?_) (fun f cdv A outer s H vs Q E hr h => ?_)
  · obtain ⟨q, dx, k, d, x, rfl, e, hb, hd, hs, hx, h⟩ := h
    rfl
  obtain ⟨q, dx, k, d, x, rfl, e, hb, hd, hs, hx, h⟩ := h
  refine ⟨_, (pss_consN (ps_set (i := 1) sc_show_entry.nd rfl (by first | exact Or.inl rfl | exact Or.inr rfl) (pe_methE0 D_e_row T.clE hr (pv 0)))
      (pss_consN (ps_set (i := 2) sc_show_entry.nd rfl (by first | exact Or.inl rfl | exact Or.inr rfl) (pe_lst (pa_cons (pe_ix ix_tup (pv 1) pe_int (fun _ _ => rfl)) (pa_cons (pe_fn D_show_date hr (pa_cons (pe_ix ix_tup (pv 1) pe_int (fun _ _ => rfl)) pa_nil)) pa_nil))))
      (pss_consN (ps_expr (pe_bm PySem.F.plainAttrs_list PySem.F.slot_list_extend PySem.F.type_list_extend mt_extend (pv 2) (pa_cons (pe_comp (ix := [1]) ⟨rfl, by decide +kernel, rfl, by decide +kernel, rfl, (show (["thing", "row"] : List Str).Nodup by decide +kernel), by walk_at "cap", by walk_at "sub", by walk_at "has"⟩ (pi_tup (pe_slice sl_tup (pv 1) (po_some pe_int) po_none)) (fun b => (pe_fn D_show_third hr (pa_cons (pe_ix (ix_tupK K) (pv 1) pe_int (fun _ _ => rfl)) (pa_cons (pv 0) pa_nil))))) pa_nil)))
      (pss_one (ps_ret (pe_bm PySem.F.plainAttrs_str PySem.F.slot_str_join PySem.F.type_str_join mt_join pe_str (pa_cons (pv 2) pa_nil))))))), ?_⟩
  have sz := sizeLine_eq
  walk_at "rd"
  refine ⟨k, q, dx, _, rfl, e, entF_row k d x, q, dx, d, x, rfl, e, fun p np => ?_⟩
  have s1 := same_new np (.tup (rowV k d x))
  have ep := at_new (.tup (rowV k d x)) np
  generalize upd H p (.tup (rowV k d x)) = H1 at s1 ep ⊢
  walk_at "rd"
  refine ⟨p, _, _, _, rfl, rfl, SqT.of ep, row0 k d x, ?_⟩
  walk_at "rd"
  refine ⟨p, _, _, _, rfl, rfl, SqT.of ep, row1 k d x, ?_⟩
  walk_at "rd"
  intro a ha
  have al := ha.len hd.1 hd.2
  walk_at "rd"
  intro l nl
  have s2 := same_new nl (.lst [.str k.word, .str a])
  have el := at_new (.lst [.str k.word, .str a]) nl
  have ep2 := s2 _ _ ep
  walk_at "rd"
  refine ⟨.inl ⟨rfl, _, SqL.of el⟩, ?_⟩
  have sl : ∀ (xs : List V), 2 ≤ xs.length → ¬ (HT.sIx xs.length 0 (some 2) = 0 ∧ HT.sIx xs.length xs.length none = xs.length) := fun xs hx z => by
    have := z.1
    simp only [HT.sIx] at this
    split at this <;> omega
  have nlH : H l = none := same_gone s1 nl
  by_cases ek : k = .turn
  · subst ek
    walk_at "rd"
    refine ⟨p, _, rfl, SqT.of ep2, sl _ (by simp [rowV]), fun c nc => ?_⟩
    rw [show cutV (rowV .turn d x) (some 2) none = [] from cutV_lo _ 2]
    have s3 := same_new nc (.tup [])
    have e3 := at_new (.tup []) nc
    generalize upd (upd H1 l (.lst [.str Ek.turn.word, .str a])) c (.tup []) = H3 at s3 e3 ⊢
    have el3 := s3 _ _ el
    walk_at "rd"
    refine ⟨⟨_, SqT.of e3⟩, fun m nm => comp_map (walk_tup e3) nm (by simp) ([] : List Int) rfl (fun H' v e => True) (fun _ _ _ _ _ z => z) (fun _ _ _ _ _ _ z => z) ?_ ?_⟩
    · rintro i y e' H5 Q' hy
      cases i <;> simp at hy
    rintro ys H5 s5 em ll
    cases ll
    walk_at "rd"
    refine ⟨l, m, _, _, rfl, rfl, s5 _ _ el3, em, by simp [sz], ?_⟩
    have sA := s1.trans (s2.trans (s3.trans s5))
    have sB : Same H (upd H5 l (.lst ([.str "turn", .str a] ++ []))) := same_put sA nlH
    have eB : upd H5 l (.lst ([.str "turn", .str a] ++ [])) l = some (.lst ((partsE .turn a "").map V.str)) := upd_same
    walk_at "rd"
    refine ⟨_, l, partsE .turn a "", rfl, rfl, SqL.of eB, ?_, sB, ?_⟩
    · show (Str.ofString "turn").length + (a.length + 0) + 2 * (Str.ofString " ").length ≤ 16777216
      rw [show (Str.ofString "turn").length = 4 by decide +kernel, show (Str.ofString " ").length = 1 by decide +kernel]
      omega
    · rw [join_line]
      exact h a "" ha fun z => absurd rfl z
  · have er : rowV k d x = [.str k.word, .int d, .int x] := by cases k <;> first | rfl | exact absurd rfl ek | exact absurd rfl hb
    rw [er] at ep ep2
    walk_at "rd"
    refine ⟨p, _, rfl, SqT.of ep2, sl _ (by simp), fun c nc => ?_⟩
    rw [show cutV [.str k.word, .int d, .int x] (some 2) none = [.int x] from cutV_lo _ 2]
    have s3 := same_new nc (.tup [.int x])
    have e3 := at_new (.tup [.int x]) nc
    generalize upd (upd H1 l (.lst [.str k.word, .str a])) c (.tup [.int x]) = H3 at s3 e3 ⊢
    have el3 := s3 _ _ el
    have ep3 := s3 _ _ ep2
    walk_at "rd"
    refine ⟨⟨_, SqT.of e3⟩, fun m nm => comp_map (walk_tup e3) nm (by simp [sz]) [x] rfl (fun H' v e => ∃ z, v = .str z ∧ IsTh k e z) (fun _ _ _ _ _ z => z) (fun _ _ _ _ _ _ z => z) ?_ ?_⟩
    · rintro i y e' H5 Q' hy he s5 hq
      obtain ⟨rfl, rfl⟩ : y = .int x ∧ e' = x := by
        cases i with
        | zero => exact ⟨by simpa using hy.symm, by simpa using he.symm⟩
        | succ i => simp at hy
      walk_at "rd"
      refine ⟨p, _, _, _, rfl, rfl, SqT.of (s5 _ _ ep3), rfl, ?_⟩
      walk_at "rd"
      exact ⟨hx ek, fun z hz => hq _ _ (Same.refl _) ⟨z, rfl, hz⟩⟩
    rintro ys H5 s5 em ll
    obtain ⟨b, rfl, hth⟩ : ∃ b, ys = [.str b] ∧ IsTh k x b := by
      cases ll with
      | cons hh tt =>
        cases tt
        obtain ⟨z, rfl, hz⟩ := hh
        exact ⟨z, rfl, hz⟩
    have bl := hth.len hs (hx ek)
    walk_at "rd"
    refine ⟨l, m, _, _, rfl, rfl, s5 _ _ el3, em, by simp [sz], ?_⟩
    have sA := s1.trans (s2.trans (s3.trans s5))
    have sB : Same H (upd H5 l (.lst ([.str k.word, .str a] ++ [.str b]))) := same_put sA nlH
    have eB : upd H5 l (.lst ([.str k.word, .str a] ++ [.str b])) l = some (.lst ((partsE k a b).map V.str)) := by
      rw [upd_same]
      cases k <;> first | rfl | exact absurd rfl ek
    walk_at "rd"
    have wl := word_len k
    refine ⟨_, l, partsE k a b, rfl, rfl, SqL.of eB, ?_, sB, ?_⟩
    · rw [show partsE k a b = [k.word, a, b] by cases k <;> first | rfl | exact absurd rfl ek]
      show k.word.length + (a.length + (b.length + 0)) + 3 * (Str.ofString " ").length ≤ 16777216
      rw [show (Str.ofString " ").length = 1 by decide +kernel]
      omega
    · rw [join_line]
      exact h a b ha fun _ => hth
--@ _law_bent
theorem BadW.same {K : PySem.W.Frag} {H H' : Hp} {us : List V} (h : BadW K H us) (s : Same H H') : BadW K H' us := by
  rcases h with h | ⟨h1, h2, u, hu, T, h3, h4⟩ | h
  · exact .inl h
  · exact .inr (.inl ⟨h1, fun v hv => (h2 v hv).imp fun T q => kind_same q s, u, hu, T, kind_same h3 s, h4⟩)
  · exact .inr (.inr h)
theorem BadEn.same {K : PySem.W.Frag} {H H' : Hp} {x : V} (h : BadEn K H x) (s : Same H H') : BadEn K H' x := by
  rcases h with ⟨T, h1, h2⟩ | ⟨p, us, e1, e2, e3, e4⟩
  · exact .inl ⟨T, kind_same h1 s, h2⟩
  · exact .inr ⟨p, us, e1, s _ _ e2, e3, e4.same s⟩
/-- the words of an entry: the first, the date, and what stands behind -/
def Wds (k : Ek) (m : List Str) : Prop := (k = .turn ∧ m = []) ∨ (k ≠ .turn ∧ ∃ b, m = [b] ∧ b.length ≤ 1000)
theorem parts_wds {k : Ek} {a b : Str} (h : k ≠ .turn → b.length ≤ 1000) : ∃ m, partsE k a b = k.word :: a :: m ∧ Wds k m := by
  by_cases e : k = .turn
  · subst e; exact ⟨[], rfl, .inl ⟨rfl, rfl⟩⟩
  · exact ⟨[b], by cases k <;> first | rfl | exact absurd rfl e, .inr ⟨e, b, rfl, h e⟩⟩
theorem row_3 (w a b : Str) : rowT [w, a, b] = none ∨ ∃ d y, rowT [w, a, b] = some (w, d, [.int y]) := by
  show (dateT (.str a)).bind (fun d => (thirdT w (.str b)).map fun y => (w, d, [V.int y])) = none ∨ ∃ d y, (dateT (.str a)).bind (fun d => (thirdT w (.str b)).map fun y => (w, d, [V.int y])) = some (w, d, [.int y])
  cases dateT (.str a) with
  | none => exact .inl rfl
  | some d =>
    cases thirdT w (.str b) with
    | none => exact .inl rfl
    | some y => exact .inr ⟨d, y, rfl⟩
theorem row_2 {w a : Str} {d : Int} (h : dateT (.str a) = some d) : rowT [w, a] = some (w, d, []) := by
  show (dateT (.str a)).map _ = _
  rw [h]; rfl
theorem row_no {w a : Str} (h : dateT (.str a) = none) : ∀ {m : List Str}, m.length ≤ 1 → rowT (w :: a :: m) = none
  | [], _ => by show (dateT (.str a)).map _ = _; rw [h]; rfl
  | [b], _ => by show (dateT (.str a)).bind _ = _; rw [h]; rfl
  | _ :: _ :: _, q => by simp at q
theorem Wds.len {k : Ek} {m : List Str} (h : Wds k m) : m.length ≤ 1 := by
  rcases h with ⟨_, rfl⟩ | ⟨_, b, rfl, _⟩ <;> simp
theorem Wds.z {k : Ek} {m : List Str} (h : Wds k m) : ∀ z ∈ m, z.length ≤ 1000 := by
  rcases h with ⟨_, rfl⟩ | ⟨_, b, rfl, q⟩
  · exact fun z hz => by cases hz
  · exact fun z hz => by rw [List.mem_singleton.mp hz]; exact q
theorem bw_row {K : PySem.W.Frag} {H : Hp} {w a : Str} {m : List Str} (hm : m.length ≤ 1) (h1 : w.length ≤ 1000) (h2 : a.length ≤ 1000) (h3 : ∀ z ∈ m, z.length ≤ 1000) (h : rowT (w :: a :: m) = none ∨ ∃ w' d rest, rowT (w :: a :: m) = some (w', d, rest) ∧ BadRow w' d rest) : BadW K H (.str w :: .str a :: m.map V.str) := by
  refine .inr (.inr ⟨w :: a :: m, rfl, ?_, ?_, h⟩)
  · simp only [List.length_cons, List.length_map]; omega
  · intro z hz
    rcases List.mem_cons.mp hz with rfl | hz
    · exact h1
    rcases List.mem_cons.mp hz with rfl | hz
    · exact h2
    exact h3 z hz
theorem bw_0 {K : PySem.W.Frag} {H : Hp} {k : Ek} {d : Int} {a : Str} {m : List Str} (hk : k ≠ .base) (hm : Wds k m) (ha : IsDt d a) (h0 : 0 ≤ d) (h1 : d ≤ 999999) : BadW K H (cutV ((k.word :: a :: m).map V.str) none (some (-1))) := by
  have wl := word_len k
  have al := ha.len h0 h1
  rcases hm with ⟨rfl, rfl⟩ | ⟨ht, b, rfl, _⟩
  · exact .inl ⟨(by intro z; cases z), (by intro z; cases z)⟩
  · exact bw_row (m := []) (by simp) (by omega) (by omega) (fun z hz => by cases hz) (.inr ⟨_, _, _, row_2 (date_shown ha h0 h1), .inr (.inl ⟨k, hk, rfl, by rw [show lenE k = 2 by cases k <;> first | rfl | exact absurd rfl ht]; simp⟩)⟩)
theorem bw_1 {K : PySem.W.Frag} {H : Hp} {k : Ek} {d : Int} {a z : Str} {m : List Str} (hm : Wds k m) (ha : IsDt d a) (h0 : 0 ≤ d) (h1 : d ≤ 999999) (hz : z.length ≤ 1000) : BadW K H ((k.word :: a :: m).map V.str ++ [.str z]) := by
  have wl := word_len k
  have al := ha.len h0 h1
  rcases hm with ⟨rfl, rfl⟩ | ⟨ht, b, rfl, _⟩
  · refine bw_row (m := [z]) (by simp) (by omega) (by omega) (fun y hy => by rw [List.mem_singleton.mp hy]; exact hz) ?_
    rcases row_3 (Ek.word .turn) a z with q | ⟨d', y, q⟩
    · exact .inl q
    · exact .inr ⟨_, _, _, q, .inr (.inl ⟨.turn, (by intro z; cases z), rfl, (by intro z; cases z)⟩)⟩
  · exact .inl ⟨(by simp), (by simp)⟩
theorem bw_2 {K : PySem.W.Frag} {H : Hp} {k : Ek} {d : Int} {a o : Str} {m : List Str} (hm : Wds k m) (ha : IsDt d a) (h0 : 0 ≤ d) (h1 : d ≤ 999999) (ho : o ∈ oddW) (hl : o.length ≤ 1000) : BadW K H (.str o :: .str a :: m.map V.str) := by
  have al := ha.len h0 h1
  refine bw_row hm.len hl (by omega) hm.z ?_
  rcases hm with ⟨_, rfl⟩ | ⟨_, b, rfl, _⟩
  · exact .inr ⟨_, _, _, row_2 (date_shown ha h0 h1), .inl ho⟩
  · rcases row_3 o a b with q | ⟨d', y, q⟩
    · exact .inl q
    · exact .inr ⟨_, _, _, q, .inl ho⟩
theorem bw_4 {K : PySem.W.Frag} {H : Hp} {k : Ek} {d : Int} {a z : Str} (hk : k ≠ .base) (ht : k ≠ .turn) (ha : IsDt d a) (h0 : 0 ≤ d) (h1 : d ≤ 999999) (hz : TailBad k d z) : BadW K H [.str k.word, .str a, .str z] := by
  have wl := word_len k
  have al := ha.len h0 h1
  refine bw_row (m := [z]) (by simp) (by omega) (by omega) (fun y hy => by rw [List.mem_singleton.mp hy]; have := hz.1; omega) ?_
  have e : rowT [k.word, a, z] = (thirdT k.word (.str z)).map fun y => (k.word, d, [V.int y]) := by
    show (dateT (.str a)).bind _ = _
    rw [date_shown ha h0 h1]; rfl
  rcases hz.2 with q | ⟨y, q, wb⟩
  · exact .inl (by rw [e, q]; rfl)
  · exact .inr ⟨k.word, d, [.int y], by rw [e, q]; rfl, .inr (.inr ⟨k, y, hk, ht, rfl, rfl, wb⟩)⟩
theorem bw_k {K : PySem.W.Frag} {H : Hp} {us : List V} (hl : us.length = 2 ∨ us.length = 3) (hk : ∀ u ∈ us, ∃ T, IsKind K H u T) {u : V} {T : String} (hu : u ∈ us) (h1 : IsKind K H u T) (h2 : T ≠ "str") : BadW K H us := .inr (.inl ⟨hl, hk, u, hu, T, h1, h2⟩)
theorem kn_strs {K : PySem.W.Frag} {H : Hp} (m : List Str) : ∀ u ∈ m.map V.str, ∃ T, IsKind K H u T := fun u hu => by
  obtain ⟨z, _, rfl⟩ := List.mem_map.mp hu
  exact ⟨_, kn_str z⟩
def sp__law_bent (K : PySem.W.Frag) : Sp := fun vs H Q _ => L2.Ee10 fun r p q (k : Ek) d x a m c0 c1 => L2.Aa11 (vs = [.ref r, .ref p, .ref q]) (H r = some (.tup (row3 k d x))) (H p = some (.lst ((k.word :: a :: m).map V.str))) (H q = some (.lst [.int c0, .int c1])) (k ≠ .base) ((0 ≤ d ∧ d ≤ 999999)) (IsDt d a) (Wds k m) (0 ≤ c0) (0 ≤ c1) (∀ v H', Same H H' → BadEn K H' v → Q v H')
theorem sc__law_bent : FnScope ["_law_row_here", "_law_words", "_law_xs", "_law_way", "_law_some"] ["_law_row_here", "_law_words", "_law_xs"] (defScope s__law_bent) := ⟨rfl, rfl, rfl, by decide +kernel, rfl, by decide +kernel, by decide +kernel⟩
theorem d__law_bent (S : Src K mg "_law_bent" s__law_bent ["_law_row_here", "_law_words", "_law_xs"]) (T : Txt K mg) (D__law_tail : Def P w K mg base 5 "_law_tail" ["_law_row_here", "_law_x"] (sp__law_tail K)) : Def P w K mg base 6 "_law_bent" ["_law_row_here", "_law_words", "_law_xs"] (sp__law_bent K) := by
  refine S.ok sc__law_bent (fun vs H Q E h => ?_) (fun f cdv A outer s H vs Q E hr h => ?_)
  · obtain ⟨r, p, q, k, d, x, a, m, c0, c1, rfl, er, ep, eq, hb, ⟨d0, d1⟩, ha, hm, p0, p1, h⟩ := h
    rfl
  obtain ⟨r, p, q, k, d, x, a, m, c0, c1, rfl, er, ep, eq, hb, ⟨d0, d1⟩, ha, hm, p0, p1, h⟩ := h
  refine ⟨_, (pss_consN (ps_set (i := 3) sc__law_bent.nd rfl (by first | exact Or.inl rfl | exact Or.inr rfl) (pe_op op_mod (pe_ix ix_list (pv 2) pe_int (fun _ _ => rfl)) pe_int))
      (pss_consN (ps_if (pt_cmpR op_eq (pv 3) pe_int (nomark _))
      (pss_one (ps_ret (pe_slice sl_list (pv 1) po_none (po_some (pe_un un_neg pe_int)))))
      pss_nil)
      (pss_consN (ps_if (pt_cmpR op_eq (pv 3) pe_int (nomark _))
      (pss_one (ps_ret (pe_op op_cat (pv 1) (pe_lst (pa_cons (pe_ix ix_list (pe_lst (pa_cons pe_str (pa_cons pe_str (pa_cons pe_str pa_nil)))) (pe_op op_mod (pe_ix ix_list (pv 2) pe_int (fun _ _ => rfl)) pe_int) (fun _ _ => rfl)) pa_nil)))))
      pss_nil)
      (pss_consN (ps_if (pt_cmpR op_eq (pv 3) pe_int (nomark _))
      (pss_one (ps_ret (pe_op op_cat (pe_lst (pa_cons (pe_ix ix_list (pe_lst (pa_cons pe_str (pa_cons pe_str (pa_cons pe_str (pa_cons pe_str (pa_cons pe_str pa_nil)))))) (pe_op op_mod (pe_ix ix_list (pv 2) pe_int (fun _ _ => rfl)) pe_int) (fun _ _ => rfl)) pa_nil)) (pe_slice sl_list (pv 1) (po_some pe_int) po_none))))
      pss_nil)
      (pss_consN (ps_if (pt_cmpR op_eq (pv 3) pe_int (nomark _))
      (pss_one (ps_ret (pe_op op_cat (pe_op op_cat (pe_slice sl_list (pv 1) po_none (po_some pe_int)) (pe_lst (pa_cons (pe_ix ix_list (pe_lst (pa_cons pe_str (pa_cons pe_str (pa_cons pe_str (pa_cons pe_str (pa_cons pe_str pa_nil)))))) (pe_op op_mod (pe_ix ix_list (pv 2) pe_int (fun _ _ => rfl)) pe_int) (fun _ _ => rfl)) pa_nil))) (pe_slice sl_list (pv 1) (po_some pe_int) po_none))))
      pss_nil)
      (pss_consN (ps_if (PW.pt (pw_and (pt_cmpR op_eq (pv 3) pe_int (nomark _)) (pw_and1 (pt_cmpR op_ne (pe_ix ix_tup (pv 0) pe_int (fun _ _ => rfl)) pe_str (nomark _)))))
      (pss_one (ps_ret (pe_op op_cat (pe_slice sl_list (pv 1) po_none (po_some pe_int)) (pe_lst (pa_cons (pe_fn D__law_tail hr (pa_cons (pv 0) (pa_cons (pe_ix ix_list (pv 2) pe_int (fun _ _ => rfl)) pa_nil))) pa_nil)))))
      pss_nil)
      (pss_consN (ps_set (i := 4) sc__law_bent.nd rfl (by first | exact Or.inl rfl | exact Or.inr rfl) (pe_lst (pa_cons pe_non (pa_cons pe_int (pa_cons pe_str (pa_cons (pe_callTy call_tuple_of rfl T.n_tuple PyProof.Rows.boot_tuple (pa_cons (pv 1) pa_nil)) (pa_cons (pe_lst pa_nil) (pa_cons (pe_lst (pa_cons pe_str pa_nil)) (pa_cons (pe_op op_cat (pe_lst (pa_cons pe_non pa_nil)) (pe_slice sl_list (pv 1) (po_some pe_int) po_none)) pa_nil)))))))))
      (pss_one (ps_ret (pe_ix ix_list (pe_op op_cat (pv 4) (pe_lst (pa_cons (pe_op op_cat (pe_lst (pa_cons (pe_lst (pa_cons pe_str pa_nil)) pa_nil)) (pe_slice sl_list (pv 1) (po_some pe_int) po_none)) (pa_cons (pe_op op_cat (pe_op op_cat (pe_slice sl_list (pv 1) po_none (po_some pe_int)) (pe_lst (pa_cons pe_int pa_nil))) (pe_slice sl_list (pv 1) (po_some pe_int) po_none)) pa_nil)))) (pe_op op_mod (pe_ix ix_list (pv 2) pe_int (fun _ _ => rfl)) pe_int) (fun _ _ => rfl))))))))))), ?_⟩
  have sz := sizeLine_eq
  have ml := hm.len
  have w0 := Int.emod_nonneg c0 (show (6 : Int) ≠ 0 by decide)
  have w1 := Int.emod_lt_of_pos c0 (show (0 : Int) < 6 by decide)
  walk_at "rd"
  refine ⟨q, _, _, _, rfl, rfl, SqL.of eq, rfl, ?_⟩
  walk_at "rd"
  · refine ⟨p, _, rfl, SqL.of ep, fun c nc => ?_⟩
    exact h _ _ (same_new nc _) (.inr ⟨c, _, rfl, upd_same, by have := cutV_length ((k.word :: a :: m).map V.str) none (some (-1)); simp only [List.length_cons, List.length_map] at this; omega, bw_0 hb hm ha d0 d1⟩)
  · rename_i c_
    have b0 := Int.emod_nonneg c1 (show (3 : Int) ≠ 0 by decide)
    have b1 := Int.emod_lt_of_pos c1 (show (0 : Int) < 3 by decide)
    obtain ⟨v, hv, hmv⟩ := at_mem (xs := [.str "1.00", .str "", .str "2024-01-01"]) b0 (by simpa using b1)
    obtain ⟨z, rfl, hz⟩ : ∃ z, v = .str z ∧ z.length ≤ 1000 := ((mem1 ⟨_, rfl, by decide +kernel⟩ (mem1 ⟨_, rfl, by decide +kernel⟩ (mem1 ⟨_, rfl, by decide +kernel⟩ mem0))) : ∀ v ∈ ([.str "1.00", .str "", .str "2024-01-01"] : List V), ∃ z, v = .str z ∧ z.length ≤ 1000) v hmv
    intro l nl
    have s1 := same_new nl (.lst [.str "1.00", .str "", .str "2024-01-01"])
    have e1 := at_new (.lst [.str "1.00", .str "", .str "2024-01-01"]) nl
    generalize upd H l (.lst [.str "1.00", .str "", .str "2024-01-01"]) = H1 at s1 e1 ⊢
    walk_at "rd"
    refine ⟨q, _, _, _, rfl, rfl, SqL.of ((s1) _ _ eq), rfl, ?_⟩
    walk_at "rd"
    refine ⟨l, _, _, _, rfl, rfl, SqL.of (e1), hv, ?_⟩
    walk_at "rd"
    intro l2 nl2
    have s2 := same_new nl2 (.lst [.str z])
    have e2 := at_new (.lst [.str z]) nl2
    generalize upd H1 l2 (.lst [.str z]) = H2 at s2 e2 ⊢
    refine ⟨p, l2, _, _, rfl, rfl, ((s1.trans (s2)) _ _ ep), (e2), by simp only [List.length_cons, List.length_append, List.length_map, List.length_nil]; omega, fun l3 nl3 => ?_⟩
    have s3 := same_new nl3 (.lst (((k.word :: a :: m).map V.str) ++ [.str z]))
    have e3 := at_new (.lst (((k.word :: a :: m).map V.str) ++ [.str z])) nl3
    generalize upd H2 l3 (.lst (((k.word :: a :: m).map V.str) ++ [.str z])) = H3 at s3 e3 ⊢
    exact h _ _ (s1.trans (s2.trans (s3))) (.inr ⟨l3, _, rfl, (e3), by simp only [List.length_cons, List.length_append, List.length_map, List.length_nil]; omega, bw_1 hm ha d0 d1 hz⟩)
  · rename_i c_
    have b0 := Int.emod_nonneg c1 (show (5 : Int) ≠ 0 by decide)
    have b1 := Int.emod_lt_of_pos c1 (show (0 : Int) < 5 by decide)
    obtain ⟨v, hv, hmv⟩ := at_mem (xs := [.str "", .str "Pay", .str "paid", .str "loan", .str "none"]) b0 (by simpa using b1)
    obtain ⟨z, rfl, hz⟩ : ∃ z, v = .str z ∧ z ∈ oddW ∧ z.length ≤ 1000 := ((mem1 ⟨_, rfl, by decide +kernel, by decide +kernel⟩ (mem1 ⟨_, rfl, by decide +kernel, by decide +kernel⟩ (mem1 ⟨_, rfl, by decide +kernel, by decide +kernel⟩ (mem1 ⟨_, rfl, by decide +kernel, by decide +kernel⟩ (mem1 ⟨_, rfl, by decide +kernel, by decide +kernel⟩ mem0))))) : ∀ v ∈ ([.str "", .str "Pay", .str "paid", .str "loan", .str "none"] : List V), ∃ z, v = .str z ∧ z ∈ oddW ∧ z.length ≤ 1000) v hmv
    intro l nl
    have s1 := same_new nl (.lst [.str "", .str "Pay", .str "paid", .str "loan", .str "none"])
    have e1 := at_new (.lst [.str "", .str "Pay", .str "paid", .str "loan", .str "none"]) nl
    generalize upd H l (.lst [.str "", .str "Pay", .str "paid", .str "loan", .str "none"]) = H1 at s1 e1 ⊢
    walk_at "rd"
    refine ⟨q, _, _, _, rfl, rfl, SqL.of ((s1) _ _ eq), rfl, ?_⟩
    walk_at "rd"
    refine ⟨l, _, _, _, rfl, rfl, SqL.of (e1), hv, ?_⟩
    walk_at "rd"
    intro l2 nl2
    have s2 := same_new nl2 (.lst [.str z])
    have e2 := at_new (.lst [.str z]) nl2
    generalize upd H1 l2 (.lst [.str z]) = H2 at s2 e2 ⊢
    walk_at "rd"
    refine ⟨p, _, rfl, SqL.of ((s1.trans (s2)) _ _ ep), fun c nc => ?_⟩
    rw [show cutV ((k.word :: a :: m).map V.str) (some 1) none = .str a :: m.map V.str from cutV_lo _ 1]
    have s3 := same_new nc (.lst (.str a :: m.map V.str))
    have e3 := at_new (.lst (.str a :: m.map V.str)) nc
    generalize upd H2 c (.lst (.str a :: m.map V.str)) = H3 at s3 e3 ⊢
    walk_at "rd"
    refine ⟨l2, c, _, _, rfl, rfl, ((s3) _ _ e2), (e3), by simp only [List.length_cons, List.length_append, List.length_map, List.length_nil]; omega, fun l3 nl3 => ?_⟩
    have s4 := same_new nl3 (.lst ([.str z] ++ (.str a :: m.map V.str)))
    have e4 := at_new (.lst ([.str z] ++ (.str a :: m.map V.str))) nl3
    generalize upd H3 l3 (.lst ([.str z] ++ (.str a :: m.map V.str))) = H4 at s4 e4 ⊢
    exact h _ _ (s1.trans (s2.trans (s3.trans (s4)))) (.inr ⟨l3, _, rfl, (e4), by simp only [List.length_cons, List.length_append, List.length_map, List.length_nil]; omega, bw_2 hm ha d0 d1 hz.1 hz.2⟩)
  · rename_i c_
    refine ⟨p, _, rfl, SqL.of (ep), fun c nc => ?_⟩
    rw [show cutV ((k.word :: a :: m).map V.str) none (some 1) = [.str k.word] from cutV_hi _ 1]
    have s1 := same_new nc (.lst ([.str k.word]))
    have e1 := at_new (.lst ([.str k.word])) nc
    generalize upd H c (.lst ([.str k.word])) = H1 at s1 e1 ⊢
    walk_at "rd"
    have b0 := Int.emod_nonneg c1 (show (5 : Int) ≠ 0 by decide)
    have b1 := Int.emod_lt_of_pos c1 (show (0 : Int) < 5 by decide)
    obtain ⟨v, hv, hmv⟩ := at_mem (xs := [.str "2023-02-29", .str "1999-12-31", .str "5", .str "", .str "2024-1-01"]) b0 (by simpa using b1)
    obtain ⟨z, rfl, hz⟩ : ∃ z, v = .str z ∧ dateT (.str z) = none ∧ z.length ≤ 1000 := ((mem1 ⟨_, rfl, by decide +kernel, by decide +kernel⟩ (mem1 ⟨_, rfl, by decide +kernel, by decide +kernel⟩ (mem1 ⟨_, rfl, by decide +kernel, by decide +kernel⟩ (mem1 ⟨_, rfl, by decide +kernel, by decide +kernel⟩ (mem1 ⟨_, rfl, by decide +kernel, by decide +kernel⟩ mem0))))) : ∀ v ∈ ([.str "2023-02-29", .str "1999-12-31", .str "5", .str "", .str "2024-1-01"] : List V), ∃ z, v = .str z ∧ dateT (.str z) = none ∧ z.length ≤ 1000) v hmv
    intro l nl
    have s2 := same_new nl (.lst [.str "2023-02-29", .str "1999-12-31", .str "5", .str "", .str "2024-1-01"])
    have e2 := at_new (.lst [.str "2023-02-29", .str "1999-12-31", .str "5", .str "", .str "2024-1-01"]) nl
    generalize upd H1 l (.lst [.str "2023-02-29", .str "1999-12-31", .str "5", .str "", .str "2024-1-01"]) = H2 at s2 e2 ⊢
    walk_at "rd"
    refine ⟨q, _, _, _, rfl, rfl, SqL.of ((s1.trans (s2)) _ _ eq), rfl, ?_⟩
    walk_at "rd"
    refine ⟨l, _, _, _, rfl, rfl, SqL.of (e2), hv, ?_⟩
    walk_at "rd"
    intro l2 nl2
    have s3 := same_new nl2 (.lst [.str z])
    have e3 := at_new (.lst [.str z]) nl2
    generalize upd H2 l2 (.lst [.str z]) = H3 at s3 e3 ⊢
    walk_at "rd"
    refine ⟨c, l2, _, _, rfl, rfl, ((s2.trans (s3)) _ _ e1), (e3), by simp only [List.length_cons, List.length_append, List.length_map, List.length_nil]; omega, fun l3 nl3 => ?_⟩
    have s4 := same_new nl3 (.lst ([.str k.word] ++ [.str z]))
    have e4 := at_new (.lst ([.str k.word] ++ [.str z])) nl3
    generalize upd H3 l3 (.lst ([.str k.word] ++ [.str z])) = H4 at s4 e4 ⊢
    walk_at "rd"
    refine ⟨p, _, rfl, SqL.of ((s1.trans (s2.trans (s3.trans (s4)))) _ _ ep), fun c2 nc2 => ?_⟩
    rw [show cutV ((k.word :: a :: m).map V.str) (some 2) none = m.map V.str from cutV_lo _ 2]
    have s5 := same_new nc2 (.lst (m.map V.str))
    have e5 := at_new (.lst (m.map V.str)) nc2
    generalize upd H4 c2 (.lst (m.map V.str)) = H5 at s5 e5 ⊢
    walk_at "rd"
    refine ⟨l3, c2, _, _, rfl, rfl, ((s5) _ _ e4), (e5), by simp only [List.length_cons, List.length_append, List.length_map, List.length_nil]; omega, fun l4 nl4 => ?_⟩
    have s6 := same_new nl4 (.lst ([.str k.word] ++ [.str z] ++ m.map V.str))
    have e6 := at_new (.lst ([.str k.word] ++ [.str z] ++ m.map V.str)) nl4
    generalize upd H5 l4 (.lst ([.str k.word] ++ [.str z] ++ m.map V.str)) = H6 at s6 e6 ⊢
    exact h _ _ (s1.trans (s2.trans (s3.trans (s4.trans (s5.trans (s6)))))) (.inr ⟨l4, _, rfl, (e6), by simp only [List.length_cons, List.length_append, List.length_map, List.length_nil]; omega, bw_row hm.len (by have := word_len k; omega) hz.2 hm.z (.inl (row_no hz.1 hm.len))⟩)
  · skip
    rename_i nt'
    have nt : k ≠ .turn := fun z => nt' (by rw [z]; rfl)
    refine ⟨p, _, rfl, SqL.of (ep), fun c nc => ?_⟩
    rw [show cutV ((k.word :: a :: m).map V.str) none (some 2) = [.str k.word, .str a] from cutV_hi _ 2]
    have s1 := same_new nc (.lst ([.str k.word, .str a]))
    have e1 := at_new (.lst ([.str k.word, .str a])) nc
    generalize upd H c (.lst ([.str k.word, .str a])) = H1 at s1 e1 ⊢
    walk_at "rd"
    refine ⟨q, _, _, _, rfl, rfl, SqL.of ((s1) _ _ eq), rfl, ?_⟩
    walk_at "rd"
    refine ⟨r, k, d, x, c1, rfl, ((s1) _ _ er), hb, nt, ⟨d0, d1⟩, p1, fun z hz => ?_⟩
    walk_at "rd"
    intro l2 nl2
    have s2 := same_new nl2 (.lst [.str z])
    have e2 := at_new (.lst [.str z]) nl2
    generalize upd H1 l2 (.lst [.str z]) = H2 at s2 e2 ⊢
    walk_at "rd"
    refine ⟨c, l2, _, _, rfl, rfl, ((s2) _ _ e1), (e2), by simp only [List.length_cons, List.length_append, List.length_map, List.length_nil]; omega, fun l3 nl3 => ?_⟩
    have s3 := same_new nl3 (.lst ([.str k.word, .str a] ++ [.str z]))
    have e3 := at_new (.lst ([.str k.word, .str a] ++ [.str z])) nl3
    generalize upd H2 l3 (.lst ([.str k.word, .str a] ++ [.str z])) = H3 at s3 e3 ⊢
    exact h _ _ (s1.trans (s2.trans (s3))) (.inr ⟨l3, _, rfl, (e3), by simp only [List.length_cons, List.length_append, List.length_map, List.length_nil]; omega, bw_4 hb nt ha d0 d1 hz⟩)
  all_goals
    refine ⟨p, _, rfl, .inl ⟨SqL.of ep, fun t nt => ?_⟩⟩
    have s1 := same_new nt (.tup ((k.word :: a :: m).map V.str))
    have e1 := at_new (.tup ((k.word :: a :: m).map V.str)) nt
    generalize upd H t (.tup ((k.word :: a :: m).map V.str)) = H1 at s1 e1 ⊢
    walk_at "rd"
    intro l2 nl2
    have s2 := same_new nl2 (.lst [])
    have e2 := at_new (.lst []) nl2
    generalize upd H1 l2 (.lst []) = H2 at s2 e2 ⊢
    walk_at "rd"
    intro l3 nl3
    have s3 := same_new nl3 (.lst [.str "pay"])
    have e3 := at_new (.lst [.str "pay"]) nl3
    generalize upd H2 l3 (.lst [.str "pay"]) = H3 at s3 e3 ⊢
    walk_at "rd"
    intro l4 nl4
    have s4 := same_new nl4 (.lst [.non])
    have e4 := at_new (.lst [.non]) nl4
    generalize upd H3 l4 (.lst [.non]) = H4 at s4 e4 ⊢
    walk_at "rd"
    refine ⟨p, _, rfl, SqL.of ((s1.trans (s2.trans (s3.trans (s4)))) _ _ ep), fun c nc => ?_⟩
    rw [show cutV ((k.word :: a :: m).map V.str) (some 1) none = .str a :: m.map V.str from cutV_lo _ 1]
    have s5 := same_new nc (.lst (.str a :: m.map V.str))
    have e5 := at_new (.lst (.str a :: m.map V.str)) nc
    generalize upd H4 c (.lst (.str a :: m.map V.str)) = H5 at s5 e5 ⊢
    walk_at "rd"
    refine ⟨l4, c, _, _, rfl, rfl, ((s5) _ _ e4), (e5), by simp only [List.length_cons, List.length_append, List.length_map, List.length_nil]; omega, fun l5 nl5 => ?_⟩
    have s6 := same_new nl5 (.lst ([.non] ++ (.str a :: m.map V.str)))
    have e6 := at_new (.lst ([.non] ++ (.str a :: m.map V.str))) nl5
    generalize upd H5 l5 (.lst ([.non] ++ (.str a :: m.map V.str))) = H6 at s6 e6 ⊢
    walk_at "rd"
    intro l6 nl6
    have s7 := same_new nl6 (.lst [.non, .int 5, .str "pay 2024-01-01 1.00", .ref t, .ref l2, .ref l3, .ref l5])
    have e7 := at_new (.lst [.non, .int 5, .str "pay 2024-01-01 1.00", .ref t, .ref l2, .ref l3, .ref l5]) nl6
    generalize upd H6 l6 (.lst [.non, .int 5, .str "pay 2024-01-01 1.00", .ref t, .ref l2, .ref l3, .ref l5]) = H7 at s7 e7 ⊢
    walk_at "rd"
    intro l7 nl7
    have s8 := same_new nl7 (.lst [.str "pay"])
    have e8 := at_new (.lst [.str "pay"]) nl7
    generalize upd H7 l7 (.lst [.str "pay"]) = H8 at s8 e8 ⊢
    walk_at "rd"
    intro l8 nl8
    have s9 := same_new nl8 (.lst [.ref l7])
    have e9 := at_new (.lst [.ref l7]) nl8
    generalize upd H8 l8 (.lst [.ref l7]) = H9 at s9 e9 ⊢
    walk_at "rd"
    refine ⟨p, _, rfl, SqL.of ((s1.trans (s2.trans (s3.trans (s4.trans (s5.trans (s6.trans (s7.trans (s8.trans (s9))))))))) _ _ ep), fun c2 nc2 => ?_⟩
    rw [show cutV ((k.word :: a :: m).map V.str) (some 1) none = .str a :: m.map V.str from cutV_lo _ 1]
    have s10 := same_new nc2 (.lst (.str a :: m.map V.str))
    have e10 := at_new (.lst (.str a :: m.map V.str)) nc2
    generalize upd H9 c2 (.lst (.str a :: m.map V.str)) = H10 at s10 e10 ⊢
    walk_at "rd"
    refine ⟨l8, c2, _, _, rfl, rfl, ((s10) _ _ e9), (e10), by simp only [List.length_cons, List.length_append, List.length_map, List.length_nil]; omega, fun l9 nl9 => ?_⟩
    have s11 := same_new nl9 (.lst ([.ref l7] ++ (.str a :: m.map V.str)))
    have e11 := at_new (.lst ([.ref l7] ++ (.str a :: m.map V.str))) nl9
    generalize upd H10 l9 (.lst ([.ref l7] ++ (.str a :: m.map V.str))) = H11 at s11 e11 ⊢
    walk_at "rd"
    refine ⟨p, _, rfl, SqL.of ((s1.trans (s2.trans (s3.trans (s4.trans (s5.trans (s6.trans (s7.trans (s8.trans (s9.trans (s10.trans (s11))))))))))) _ _ ep), fun c3 nc3 => ?_⟩
    rw [show cutV ((k.word :: a :: m).map V.str) none (some 1) = [.str k.word] from cutV_hi _ 1]
    have s12 := same_new nc3 (.lst ([.str k.word]))
    have e12 := at_new (.lst ([.str k.word])) nc3
    generalize upd H11 c3 (.lst ([.str k.word])) = H12 at s12 e12 ⊢
    walk_at "rd"
    intro l10 nl10
    have s13 := same_new nl10 (.lst [.int 5])
    have e13 := at_new (.lst [.int 5]) nl10
    generalize upd H12 l10 (.lst [.int 5]) = H13 at s13 e13 ⊢
    walk_at "rd"
    refine ⟨c3, l10, _, _, rfl, rfl, ((s13) _ _ e12), (e13), by simp only [List.length_cons, List.length_append, List.length_map, List.length_nil]; omega, fun l11 nl11 => ?_⟩
    have s14 := same_new nl11 (.lst ([.str k.word] ++ [.int 5]))
    have e14 := at_new (.lst ([.str k.word] ++ [.int 5])) nl11
    generalize upd H13 l11 (.lst ([.str k.word] ++ [.int 5])) = H14 at s14 e14 ⊢
    walk_at "rd"
    refine ⟨p, _, rfl, SqL.of ((s1.trans (s2.trans (s3.trans (s4.trans (s5.trans (s6.trans (s7.trans (s8.trans (s9.trans (s10.trans (s11.trans (s12.trans (s13.trans (s14)))))))))))))) _ _ ep), fun c4 nc4 => ?_⟩
    rw [show cutV ((k.word :: a :: m).map V.str) (some 2) none = m.map V.str from cutV_lo _ 2]
    have s15 := same_new nc4 (.lst (m.map V.str))
    have e15 := at_new (.lst (m.map V.str)) nc4
    generalize upd H14 c4 (.lst (m.map V.str)) = H15 at s15 e15 ⊢
    walk_at "rd"
    refine ⟨l11, c4, _, _, rfl, rfl, ((s15) _ _ e14), (e15), by simp only [List.length_cons, List.length_append, List.length_map, List.length_nil]; omega, fun l12 nl12 => ?_⟩
    have s16 := same_new nl12 (.lst ([.str k.word] ++ [.int 5] ++ m.map V.str))
    have e16 := at_new (.lst ([.str k.word] ++ [.int 5] ++ m.map V.str)) nl12
    generalize upd H15 l12 (.lst ([.str k.word] ++ [.int 5] ++ m.map V.str)) = H16 at s16 e16 ⊢
    walk_at "rd"
    intro l13 nl13
    have s17 := same_new nl13 (.lst [.ref l9, .ref l12])
    have e17 := at_new (.lst [.ref l9, .ref l12]) nl13
    generalize upd H16 l13 (.lst [.ref l9, .ref l12]) = H17 at s17 e17 ⊢
    walk_at "rd"
    refine ⟨l6, l13, _, _, rfl, rfl, ((s8.trans (s9.trans (s10.trans (s11.trans (s12.trans (s13.trans (s14.trans (s15.trans (s16.trans (s17)))))))))) _ _ e7), (e17), by simp only [List.length_cons, List.length_append, List.length_map, List.length_nil]; omega, fun l14 nl14 => ?_⟩
    have s18 := same_new nl14 (.lst ([.non, .int 5, .str "pay 2024-01-01 1.00", .ref t, .ref l2, .ref l3, .ref l5] ++ [.ref l9, .ref l12]))
    have e18 := at_new (.lst ([.non, .int 5, .str "pay 2024-01-01 1.00", .ref t, .ref l2, .ref l3, .ref l5] ++ [.ref l9, .ref l12])) nl14
    generalize upd H17 l14 (.lst ([.non, .int 5, .str "pay 2024-01-01 1.00", .ref t, .ref l2, .ref l3, .ref l5] ++ [.ref l9, .ref l12])) = H18 at s18 e18 ⊢
    walk_at "rd"
    refine ⟨q, _, _, _, rfl, rfl, SqL.of ((s1.trans (s2.trans (s3.trans (s4.trans (s5.trans (s6.trans (s7.trans (s8.trans (s9.trans (s10.trans (s11.trans (s12.trans (s13.trans (s14.trans (s15.trans (s16.trans (s17.trans (s18)))))))))))))))))) _ _ eq), rfl, ?_⟩
    walk_at "rd"
    have b0 := Int.emod_nonneg c1 (show (9 : Int) ≠ 0 by decide)
    have b1 := Int.emod_lt_of_pos c1 (show (0 : Int) < 9 by decide)
    obtain ⟨v, hv, hmv⟩ := at_mem (xs := ([.non, .int 5, .str "pay 2024-01-01 1.00", .ref t, .ref l2, .ref l3, .ref l5] ++ [.ref l9, .ref l12])) b0 (by simpa using b1)
    have L23 : ∀ us : List V, us.length = m.length + 2 → us.length = 2 ∨ us.length = 3 := fun us q => by omega
    have bad : BadEn K H18 v := ((mem1 (.inl ⟨_, kn_non, by decide⟩) (mem1 (.inl ⟨_, kn_int _, by decide⟩) (mem1 (.inl ⟨_, kn_str _, by decide⟩) (mem1 (.inl ⟨_, kn_tup ((s2.trans (s3.trans (s4.trans (s5.trans (s6.trans (s7.trans (s8.trans (s9.trans (s10.trans (s11.trans (s12.trans (s13.trans (s14.trans (s15.trans (s16.trans (s17.trans (s18))))))))))))))))) _ _ e1), by decide⟩) (mem1 (.inr ⟨l2, _, rfl, ((s3.trans (s4.trans (s5.trans (s6.trans (s7.trans (s8.trans (s9.trans (s10.trans (s11.trans (s12.trans (s13.trans (s14.trans (s15.trans (s16.trans (s17.trans (s18)))))))))))))))) _ _ e2), (by decide), .inl ⟨(by decide), (by decide)⟩⟩) (mem1 (.inr ⟨l3, _, rfl, ((s4.trans (s5.trans (s6.trans (s7.trans (s8.trans (s9.trans (s10.trans (s11.trans (s12.trans (s13.trans (s14.trans (s15.trans (s16.trans (s17.trans (s18))))))))))))))) _ _ e3), (by decide), .inl ⟨(by decide), (by decide)⟩⟩) (mem1 (.inr ⟨l5, _, rfl, ((s7.trans (s8.trans (s9.trans (s10.trans (s11.trans (s12.trans (s13.trans (s14.trans (s15.trans (s16.trans (s17.trans (s18)))))))))))) _ _ e6), (by simp only [List.length_cons, List.length_append, List.length_map, List.length_nil]; omega), bw_k (L23 _ (by simp)) (mem1 ⟨_, kn_non⟩ (mem1 ⟨_, kn_str _⟩ (kn_strs m))) (List.mem_cons_self) kn_non (by decide)⟩) (mem1 (.inr ⟨l9, _, rfl, ((s12.trans (s13.trans (s14.trans (s15.trans (s16.trans (s17.trans (s18))))))) _ _ e11), (by simp only [List.length_cons, List.length_append, List.length_map, List.length_nil]; omega), bw_k (L23 _ (by simp)) (mem1 ⟨_, kn_lst ((s9.trans (s10.trans (s11.trans (s12.trans (s13.trans (s14.trans (s15.trans (s16.trans (s17.trans (s18)))))))))) _ _ e8)⟩ (mem1 ⟨_, kn_str _⟩ (kn_strs m))) (List.mem_cons_self) (kn_lst ((s9.trans (s10.trans (s11.trans (s12.trans (s13.trans (s14.trans (s15.trans (s16.trans (s17.trans (s18)))))))))) _ _ e8)) (by decide)⟩) (mem1 (.inr ⟨l12, _, rfl, ((s17.trans (s18)) _ _ e16), (by simp only [List.length_cons, List.length_append, List.length_map, List.length_nil]; omega), bw_k (L23 _ (by simp)) (mem1 ⟨_, kn_str _⟩ (mem1 ⟨_, kn_int _⟩ (kn_strs m))) (List.mem_cons_of_mem _ List.mem_cons_self) (kn_int 5) (by decide)⟩) mem0))))))))) : ∀ v ∈ (([.non, .int 5, .str "pay 2024-01-01 1.00", .ref t, .ref l2, .ref l3, .ref l5] ++ [.ref l9, .ref l12]) : List V), BadEn K H18 v) v hmv
    refine ⟨l14, _, _, _, rfl, rfl, SqL.of (e18), hv, ?_⟩
    exact h _ _ (s1.trans (s2.trans (s3.trans (s4.trans (s5.trans (s6.trans (s7.trans (s8.trans (s9.trans (s10.trans (s11.trans (s12.trans (s13.trans (s14.trans (s15.trans (s16.trans (s17.trans (s18)))))))))))))))))) bad
--@ read_entry
theorem kit_lst {K : PySem.W.Frag} {T : String} (h : T ∈ kinds) : PySem.W.kitOne K (.type T) (.type "list") = some (decide (T = "list")) := by
  simp only [kinds, List.mem_cons, List.not_mem_nil, or_false] at h
  rcases h with rfl | rfl | rfl | rfl | rfl | rfl | rfl <;> rfl
theorem in_23 {n : Int} : inV (.int n) [.int 2, .int 3] = decide (n = 2 ∨ n = 3) := by
  show (((2 : Int) == n) || (((3 : Int) == n) || false)) = _
  rw [Bool.eq_iff_iff]
  simp only [Bool.or_eq_true, beq_iff_eq, Bool.false_eq_true, or_false, decide_eq_true_eq]
  exact ⟨fun h => h.imp Eq.symm Eq.symm, fun h => h.imp Eq.symm Eq.symm⟩
theorem day_in {y m d n : Int} (h : dayV (.int y) (.int m) (.int d) = some n) : 0 ≤ n ∧ n ≤ 999999 := by
  by_cases q : dateV (.int y) (.int m) (.int d) = true ∧ 0 ≤ Cal.num y m d ∧ Cal.num y m d ≤ 999999
  · have e := (show dayV (.int y) (.int m) (.int d) = some (Cal.num y m d) from if_pos q).symm.trans h
    rw [← Option.some.inj e]
    exact q.2
  · have e := (show dayV (.int y) (.int m) (.int d) = none from if_neg q).symm.trans h
    cases e
theorem date_in {z : Str} {n : Int} (h : dateT (.str z) = some n) : 0 ≤ n ∧ n ≤ 999999 := by
  unfold dateT at h
  dsimp only at h
  split at h
  · exact day_in h
  · exact absurd h (fun z => nomatch z)
theorem kind_str {K : PySem.W.Frag} {H : Hp} {u : V} {T : String} (h : IsKind K H u T) (e : T = "str") : ∃ z, u = .str z := by
  cases u <;> first | exact ⟨_, rfl⟩ | (cases h.1 <;> exact absurd e (by decide))
theorem str_kind {K : PySem.W.Frag} {H : Hp} {z : Str} {T : String} (h : IsKind K H (.str z) T) : T = "str" := by
  cases h.1
  rfl
def sp_read_entry (K : PySem.W.Frag) : Sp := fun vs H Q E => ∃ x, vs = [x] ∧ ((BadEn K H x ∧ ∀ H', Same H H' → E (.ref (cA K "NoText")) none H') ∨
  ∃ p us k d y, x = .ref p ∧ H p = some (.lst us) ∧ us.length ≤ 100 ∧ GoodW us k d y ∧ ∀ a dx H', Same H H' → H a = none → IsEnt K H' a dx k d y → Q (.ref a) H')
theorem sc_read_entry : FnScope ["words", "word", "row"] ["words"] (defScope s_read_entry) := ⟨rfl, rfl, rfl, by decide +kernel, rfl, by decide +kernel, by decide +kernel⟩
theorem d_read_entry (S : Src K mg "read_entry" s_read_entry ["words"]) (T : Txt K mg) (D_check_text : DefX P w K mg base 1 "check_text" ["thing"] (sp_check_text K)) (D_read_date : DefX P w K mg base 5 "read_date" ["text"] (sp_read_date K)) (D_read_third : DefX P w K mg base 6 "read_third" ["word", "text"] (sp_read_third K)) (D_entry_of : DefK P w K mg base 5 "entry_of" ["row"] (sp_entry_of K)) : DefX P w K mg base 7 "read_entry" ["words"] (sp_read_entry K) := by
  refine S.okX sc_read_entry (fun vs H Q E h => ?_) (fun f cdv A outer s H vs Q E hr h => ?_)
  · obtain ⟨x, rfl, hc⟩ := h
    rfl
  obtain ⟨x, rfl, hc⟩ := h
  refine ⟨_, (pss_consN (ps_if (PW.pt (pw_or (pt_not (pt_val (pe_callB call_isinst rfl T.n_isinstance PyProof.Rows.boot_isinstance (pa_cons (pv 0) (pa_cons (pe_bltn (v := .ty "list") rfl T.n_list PyProof.Rows.boot_list rfl) pa_nil))))) (pw_or1 (pt_cmpR op_notIn_seq (pe_callB call_len_seq rfl T.n_len PySem.boot_len (pa_cons (pv 0) pa_nil)) (pe_tup (pa_cons pe_int (pa_cons pe_int pa_nil))) (by with_unfolding_all rfl)))))
      (pss_one (ps_raise (E := E) T.m_NoText T.x_NoText (fun _ _ _ _ _ _ _ I hx hE => xe_made I hx hE) (pa_cons pe_str pa_nil)))
      pss_nil)
      (pss_consN (ps_for PassesOwn.leaving rfl (pi_list (pv 0)) (pg_name (i := 1) sc_read_entry.nd rfl (by first | exact Or.inl rfl | exact Or.inr rfl))
      (pss_one (ps_expr (pe_fnX (E := E) D_check_text hr passX (pa_cons (pv 1) pa_nil)))))
      (pss_consN (ps_set (i := 2) sc_read_entry.nd rfl (by first | exact Or.inl rfl | exact Or.inr rfl) (pe_lst (pa_cons (pe_ix ix_list (pv 0) pe_int (fun _ _ => rfl)) (pa_cons (pe_fnX (E := E) D_read_date hr passX (pa_cons (pe_ix ix_list (pv 0) pe_int (fun _ _ => rfl)) pa_nil)) pa_nil))))
      (pss_consN (ps_expr (pe_bm PySem.F.plainAttrs_list PySem.F.slot_list_extend PySem.F.type_list_extend mt_extend (pv 2) (pa_cons (pe_compX (EK := E) (ix := [0]) ⟨rfl, by decide +kernel, rfl, by decide +kernel, rfl, (show (["text", "words"] : List Str).Nodup by decide +kernel), by walk_at "cap", by walk_at "sub", by walk_at "has"⟩ letsX (pi_list (pe_slice sl_list (pv 0) (po_some pe_int) po_none)) (fun b xe hx => (pe_fnX (E := E) D_read_third hr hx (pa_cons (pe_ix (ix_listK K) (pv 1) pe_int (fun _ _ => rfl)) (pa_cons (pv 0) pa_nil))))) pa_nil)))
      (pss_one (ps_tryR (E := E) D_entry_of.toC hr T.m_BadEntry T.m_NoText T.x_NoText (pa_cons (pe_callTy call_tuple_of rfl T.n_tuple PyProof.Rows.boot_tuple (pa_cons (pv 2) pa_nil)) pa_nil) (fun e => (pa_cons pe_str pa_nil)) (fun _ _ _ _ _ _ _ I n hd up hE => xe_held I n hd up hE))))))), ?_⟩
  have sz := sizeLine_eq
  have key : (∃ T, IsKind K H x T ∧ T ≠ "list" ∧ ∀ H', Same H H' → E (.ref (cA K "NoText")) none H') ∨ ∃ p us, x = .ref p ∧ H p = some (.lst us) ∧ us.length ≤ 100 ∧ ((us.length ≠ 2 ∧ us.length ≠ 3 ∧ ∀ H', Same H H' → E (.ref (cA K "NoText")) none H') ∨
      ((us.length = 2 ∨ us.length = 3) ∧ (∀ u ∈ us, ∃ T, IsKind K H u T) ∧ (∃ u ∈ us, ∃ T, IsKind K H u T ∧ T ≠ "str") ∧ ∀ H', Same H H' → E (.ref (cA K "NoText")) none H') ∨
      ∃ ws : List Str, us = ws.map V.str ∧ (ws.length = 2 ∨ ws.length = 3) ∧ (∀ z ∈ ws, z.length ≤ 1000) ∧ ((rowT ws = none ∧ ∀ H', Same H H' → E (.ref (cA K "NoText")) none H') ∨ (∃ w d rest, rowT ws = some (w, d, rest) ∧ BadRow w d rest ∧ ∀ H', Same H H' → E (.ref (cA K "NoText")) none H') ∨
        ∃ k d y rest, rowT ws = some (k.word, d, rest) ∧ rowV k d y = .str k.word :: .int d :: rest ∧ GoodRow k d y ∧ k ≠ .base ∧ ∀ (a dx : Addr) (H' : Hp), Same H H' → H a = none → IsEnt K H' a dx k d y → Q (.ref a) H')) := by
    rcases hc with ⟨⟨T, h1, h2⟩ | ⟨p, us, e1, e2, e3, b⟩, hE⟩ | ⟨p, us, k, d, y, e1, e2, e3, ⟨g1, g2, ws, g3, g4, g5, rest, g6, g7⟩, h⟩
    · exact .inl ⟨T, h1, h2, hE⟩
    · refine .inr ⟨p, us, e1, e2, e3, ?_⟩
      rcases b with ⟨b1, b2⟩ | ⟨b1, b2, b3⟩ | ⟨ws, b1, b2, b3, b4 | ⟨w, d, rest, b4, b5⟩⟩
      · exact .inl ⟨b1, b2, hE⟩
      · exact .inr (.inl ⟨b1, b2, b3, hE⟩)
      · exact .inr (.inr ⟨ws, b1, by rw [b1, List.length_map] at b2; exact b2, b3, .inl ⟨b4, hE⟩⟩)
      · exact .inr (.inr ⟨ws, b1, by rw [b1, List.length_map] at b2; exact b2, b3, .inr (.inl ⟨w, d, rest, b4, b5, hE⟩)⟩)
    · exact .inr ⟨p, us, e1, e2, e3, .inr (.inr ⟨ws, g3, by rw [g3, List.length_map] at g4; exact g4, g5, .inr (.inr ⟨k, d, y, rest, g6, g7, g2, g1, h⟩)⟩)⟩
  clear hc
  rcases key with ⟨Tk, hk, hn, hE⟩ | ⟨p, us, rfl, hp, ul, hC⟩
  · walk_at "rd"
    refine ⟨_, _, _, _, rfl, hk.1, kit_lst hk.2, ?_⟩
    rw [decide_eq_false hn]
    walk_at "rd"
    exact hE _ (Same.refl _)
  walk_at "rd"
  refine ⟨_, _, _, _, rfl, .lst hp, rfl, ?_⟩
  walk_at "rd"
  refine ⟨p, _, rfl, .inl (SqL.of hp), ?_⟩
  walk_at "rd"
  intro t0 nt
  have s0 := same_new nt (.tup [.int 2, .int 3])
  have hp0 := s0 _ _ hp
  refine ⟨t0, _, rfl, .inr (SqT.of upd_same), rfl, rfl, ?_⟩
  refine ⟨_, rfl, ?_⟩
  rw [show (if true = true then !inV (.int (us.length : Int)) [.int 2, .int 3] else inV (.int (us.length : Int)) [.int 2, .int 3]) = !decide ((us.length : Int) = 2 ∨ (us.length : Int) = 3) from congrArg Bool.not in_23]
  generalize upd H t0 (.tup [.int 2, .int 3]) = H0 at s0 hp0 ⊢
  rcases hC with ⟨n2, n3, hE⟩ | hC
  · rw [decide_eq_false (by omega)]
    walk_at "rd"
    exact hE _ s0
  have l23 : us.length = 2 ∨ us.length = 3 := by
    rcases hC with ⟨l, _⟩ | ⟨ws, rfl, l, _⟩
    · exact l
    · rw [List.length_map]; exact l
  rw [decide_eq_true (by omega)]
  walk_at "rd"
  rcases hC with ⟨_, kn, ⟨u0, hu0, T0, k0, n0⟩, hE⟩ | ⟨ws, rfl, lw, lz, hD⟩
  · refine ⟨⟨_, SqL.of hp0⟩, for_list (xs := us) (fun i σ H' => H0 = H' ∧ (∀ j, j < i → ∀ u, us[j]? = some u → ∃ z, u = .str z) ∧ ∃ z : Option V, σ = [some (.ref p), z, none]) ⟨rfl, fun j hj => absurd hj (Nat.not_lt_zero j), _, rfl⟩ ?_ ?_ ?_⟩
    · rintro i σ H' _ ⟨rfl, _⟩
      exact SqL.of hp0
    · rintro i v σ H' hv ⟨rfl, ps, z, rfl⟩
      obtain ⟨Tv, kv⟩ := kn v (List.mem_of_getElem? hv)
      walk_at "rd"
      refine ⟨v, Tv, rfl, kind_same kv s0, fun e => ?_, fun e => hE _ s0⟩
      refine ⟨rfl, fun j hj u hu => ?_, _, rfl⟩
      rcases Nat.lt_or_eq_of_le (Nat.le_of_lt_succ hj) with q | rfl
      · exact ps j q u hu
      · rw [hv] at hu
        cases hu
        exact kind_str kv e
    · rintro σ H' ⟨rfl, ps, z, rfl⟩
      exfalso
      obtain ⟨j, hj⟩ := List.getElem?_of_mem hu0
      obtain ⟨z, rfl⟩ := ps j (List.getElem?_eq_some_iff.mp hj).1 u0 hj
      exact n0 (str_kind k0)
  refine ⟨⟨_, SqL.of hp0⟩, for_list (xs := ws.map V.str) (fun i σ H' => H0 = H' ∧ ∃ z : Option V, σ = [some (.ref p), z, none]) ⟨rfl, _, rfl⟩ ?_ ?_ ?_⟩
  · rintro i σ H' _ ⟨rfl, _⟩
    exact SqL.of hp0
  · rintro i v σ H' hv ⟨rfl, z, rfl⟩
    rw [List.getElem?_map] at hv
    obtain ⟨y, hy, rfl⟩ := Option.map_eq_some_iff.mp hv
    walk_at "rd"
    exact ⟨_, _, rfl, kn_str y, fun _ => ⟨rfl, _, rfl⟩, fun e => absurd rfl e⟩
  rintro σ H' ⟨rfl, z, rfl⟩
  walk_at "rd"
  obtain ⟨w0, a, more, rfl, hm⟩ : ∃ w a more, ws = w :: a :: more ∧ (more = [] ∨ ∃ b, more = [b]) := by
    match ws, lw with
    | [w, a], _ => exact ⟨w, a, [], rfl, .inl rfl⟩
    | [w, a, b], _ => exact ⟨w, a, [b], rfl, .inr ⟨b, rfl⟩⟩
    | [], q => simp at q
    | [_], q => simp at q
    | _ :: _ :: _ :: _ :: _, q => simp at q
  have la := lz a (by simp)
  have hN : rowT (w0 :: a :: more) = none → ∀ H', Same H H' → E (.ref (cA K "NoText")) none H' := fun q => by
    rcases hD with ⟨_, hE⟩ | ⟨_, _, _, e, _⟩ | ⟨_, _, _, _, e, _⟩
    · exact hE
    · rw [q] at e; cases e
    · rw [q] at e; cases e
  have hS : ∀ d rest, rowT (w0 :: a :: more) = some (w0, d, rest) → (BadRow w0 d rest ∧ ∀ H', Same H H' → E (.ref (cA K "NoText")) none H') ∨ ∃ k y, w0 = Ek.word k ∧ rowV k d y = .str k.word :: .int d :: rest ∧ GoodRow k d y ∧ k ≠ .base ∧ ∀ (a dx : Addr) (H' : Hp), Same H H' → H a = none → IsEnt K H' a dx k d y → Q (.ref a) H' := fun d rest q => by
    rcases hD with ⟨e, _⟩ | ⟨_, _, _, e, b, hE⟩ | ⟨k, _, y, _, e, b, g, kb, h⟩
    · rw [q] at e; cases e
    · rw [q] at e; cases e
      exact .inl ⟨b, hE⟩
    · rw [q] at e
      injection e with e
      injection e with e1 e2
      injection e2 with e2 e3
      subst e2 e3
      exact .inr ⟨k, y, e1, b, g, kb, h⟩
  clear hD
  refine ⟨p, _, _, _, rfl, rfl, SqL.of hp0, (at0 : atI (.str w0 :: .str a :: more.map V.str) 0 = _), ?_⟩
  walk_at "rd"
  refine ⟨p, _, _, _, rfl, rfl, SqL.of hp0, (at1 : atI (.str w0 :: .str a :: more.map V.str) 1 = _), ?_⟩
  walk_at "rd"
  refine ⟨_, _, rfl, kn_str a, (fun z e => by cases e; exact la), fun n hn => ?_, fun hn => ?_⟩
  rotate_left
  · refine hN ?_ _ s0
    rcases hm with rfl | ⟨b, rfl⟩
    · show (dateT (.str a)).map _ = none
      rw [hn]; rfl
    · show (dateT (.str a)).bind _ = none
      rw [hn]; rfl
  have nd := date_in hn
  walk_at "rd"
  intro l nl
  have s1 := same_new nl (.lst [.str w0, .int n])
  have el := at_new (.lst [.str w0, .int n]) nl
  have hp1 := s1 _ _ hp0
  have nlH : H l = none := same_gone s0 nl
  generalize upd H0 l (.lst [.str w0, .int n]) = H1 at s1 el hp1 ⊢
  walk_at "rd"
  refine ⟨.inl ⟨rfl, _, SqL.of el⟩, ?_⟩
  walk_at "rd"
  refine ⟨p, _, rfl, SqL.of hp1, fun c nc => ?_⟩
  rw [show cutV ((w0 :: a :: more).map V.str) (some 2) none = more.map V.str from cutV_lo _ 2]
  have s2 := same_new nc (.lst (more.map V.str))
  have ec := at_new (.lst (more.map V.str)) nc
  generalize upd H1 c (.lst (more.map V.str)) = H2 at s2 ec ⊢
  have el2 := s2 _ _ el
  have hp2 := s2 _ _ hp1
  have ml : more.length ≤ 1 := by rcases hm with rfl | ⟨b, rfl⟩ <;> simp
  walk_at "rd"
  refine ⟨⟨_, SqL.of ec⟩, fun m nm => comp_map (walk_list (SqL.of ec)) nm (by rw [List.length_map]; omega) more (by rw [List.length_map]) (fun H' v e => ∃ y, v = .int y ∧ thirdT w0 (.str e) = some y) (fun _ _ _ _ _ z => z) (fun _ _ _ _ _ _ z => z) ?_ ?_⟩
  · rintro i y e H3 Q' hy he s3 hq
    rw [List.getElem?_map, he] at hy
    cases hy
    walk_at "rd"
    refine ⟨p, _, _, _, rfl, rfl, SqL.of (s3 _ _ hp2), (at0 : atI (.str w0 :: .str a :: more.map V.str) 0 = _), ?_⟩
    walk_at "rd"
    have me := List.mem_of_getElem? he
    refine ⟨lz e (by simp [me]), fun v hv => hq _ _ (Same.refl _) ⟨v, rfl, hv⟩, fun hv => hN ?_ _ (s0.trans (s1.trans (s2.trans s3)))⟩
    rcases hm with rfl | ⟨b, rfl⟩
    · cases me
    · obtain rfl : e = b := by simpa using me
      show (dateT (.str a)).bind (fun d => (thirdT w0 (.str e)).map _) = none
      rw [hn, hv]; rfl
  rintro ys H3 s3 em ll
  have hr : rowT (w0 :: a :: more) = some (w0, n, ys) := by
    rcases hm with rfl | ⟨b, rfl⟩
    · cases ll
      show (dateT (.str a)).map _ = _
      rw [hn]; rfl
    · cases ll with
      | cons hh tt =>
        cases tt
        obtain ⟨y, rfl, hy⟩ := hh
        show (dateT (.str a)).bind (fun d => (thirdT w0 (.str b)).map _) = _
        rw [hn, hy]; rfl
  have yl : ys.length ≤ 1 := by
    rcases hm with rfl | ⟨b, rfl⟩
    · cases ll; simp
    · cases ll with
      | cons hh tt => cases tt; simp
  have hF := hS n ys hr
  clear hS hN
  walk_at "rd"
  refine ⟨l, m, _, _, rfl, rfl, s3 _ _ el2, em, by simp only [List.length_cons, List.length_nil]; omega, ?_⟩
  have s4 : Same H (upd H3 l (.lst ([.str w0, .int n] ++ ys))) := same_put (s0.trans (s1.trans (s2.trans s3))) nlH
  have e4 : upd H3 l (.lst ([.str w0, .int n] ++ ys)) l = some (.lst (.str w0 :: .int n :: ys)) := upd_same
  generalize upd H3 l (.lst ([.str w0, .int n] ++ ys)) = H4 at s4 e4 ⊢
  walk_at "rd"
  refine ⟨l, _, rfl, .inl ⟨SqL.of e4, fun t nt' => ?_⟩⟩
  have s5 := same_new nt' (.tup (.str w0 :: .int n :: ys))
  have et := at_new (.tup (.str w0 :: .int n :: ys)) nt'
  generalize upd H4 t (.tup (.str w0 :: .int n :: ys)) = H5 at s5 et ⊢
  have s45 := s4.trans s5
  walk_at "rd"
  rcases hF with ⟨bad, hE⟩ | ⟨k, y, rfl, er, g, kb, h⟩
  · rcases bad with ow | ⟨k, kb, rfl, nk⟩ | ⟨k, y, kb, kt, rfl, rfl, wb⟩
    · refine .inl ⟨.inr ⟨t, _, rfl, et, .inr (.inr (.inl ⟨w0, _, rfl, ow⟩))⟩, fun dd H6 s6 _ _ => ⟨_, rfl, T.e_BadEntry_BadEntry, ?_⟩⟩
      walk_at "rd"
      exact hE _ (s45.trans s6)
    · refine .inl ⟨.inr ⟨t, _, rfl, et, .inr (.inr (.inr ⟨k, _, kb, rfl, nk⟩))⟩, fun dd H6 s6 _ _ => ⟨_, rfl, T.e_BadEntry_BadEntry, ?_⟩⟩
      walk_at "rd"
      exact hE _ (s45.trans s6)
    · refine .inr (.inr (.inl ⟨⟨t, k, n, .int y, "int", rfl, et, kb, kt, nd, kn_int y, wb⟩, fun dd H6 s6 _ _ => ⟨_, rfl, T.e_BadEntry_BadEntry, ?_⟩⟩))
      walk_at "rd"
      exact hE _ (s45.trans s6)
  · exact .inr (.inr (.inr ⟨t, k, n, y, rfl, by rw [er]; exact et, g, fun q dx H6 s6 na ie => h q dx H6 (s45.trans s6) (same_gone s45 na) ie⟩))
--@ _law_read
def sp__law_read (K : PySem.W.Frag) : Sp := fun vs H Q _ => ∃ x, vs = [x] ∧ ((BadEn K H x ∧ ∀ p H', Same H H' → H' p = some (.tup [.str "none", .bl true, .bl false]) → Q (.ref p) H') ∨
  ∃ p us k d y, x = .ref p ∧ H p = some (.lst us) ∧ us.length ≤ 100 ∧ GoodW us k d y ∧ ∀ q r H', Same H H' → H' r = some (.tup (rowV k d y)) → H' q = some (.tup [.str "told", .ref r, .bl true]) → Q (.ref q) H')
theorem sc__law_read : FnScope ["_law_words", "_law_found", "e"] ["_law_words"] (defScope s__law_read) := ⟨rfl, rfl, rfl, by decide +kernel, rfl, by decide +kernel, by decide +kernel⟩
theorem d__law_read (S : Src K mg "_law_read" s__law_read ["_law_words"]) (T : Txt K mg) (D_read_entry : DefX P w K mg base 7 "read_entry" ["words"] (sp_read_entry K)) (D_e_row : ∀ k : Ek, DefM P w K mg base 2 (cA K k.cls) "row" ["self"] (sp_e_row k K)) : Def P w K mg base 8 "_law_read" ["_law_words"] (sp__law_read K) := by
  refine S.ok sc__law_read (fun vs H Q E h => ?_) (fun f cdv A outer s H vs Q E hr h => ?_)
  · obtain ⟨x, rfl, hc⟩ := h
    rfl
  obtain ⟨x, rfl, hc⟩ := h
  refine ⟨_, (pss_consN (ps_try D_read_entry hr sc__law_read.nd (i := 1) rfl rfl (j := 2) rfl rfl T.m_NoText (pa_cons (pv 0) pa_nil) (fun e => (pss_one (ps_ret (pe_tup (pa_cons pe_str (pa_cons (pe_callB (call_isiO K) rfl T.n_isinstance PyProof.Rows.boot_isinstance (pa_cons (pv 2) (pa_cons (pe_glob (v := .ref (cA K "LoanError")) rfl T.m_LoanError rfl) pa_nil))) (pa_cons (pe_callB (call_isiO K) rfl T.n_isinstance PyProof.Rows.boot_isinstance (pa_cons (pv 2) (pa_cons (pe_glob (v := .ref (cA K "BadEntry")) rfl T.m_BadEntry rfl) pa_nil))) pa_nil))))))))
      (pss_one (ps_ret (pe_tup (pa_cons pe_str (pa_cons (pe_methE0 D_e_row T.clE hr (pv 1)) (pa_cons pe_bl pa_nil))))))), ?_⟩
  walk_at "rd"
  rcases hc with ⟨hb, h⟩ | ⟨p, us, k, d, y, rfl, e, ul, g, h⟩
  · refine .inl ⟨hb, fun H1 s1 => ⟨_, rfl, T.e_NoText_NoText, ?_⟩⟩
    walk_at "rd"
    intro e ne
    have s2 := same_new ne (ExcO e (.ref (cA K "NoText")))
    have ee := at_new (ExcO e (.ref (cA K "NoText"))) ne
    walk_at "rd"
    refine ⟨e, _, _, _, rfl, ee, T.z_NoText, T.k_NoText_LoanError, ?_⟩
    walk_at "rd"
    refine ⟨e, _, _, _, rfl, ee, T.z_NoText, T.k_NoText_BadEntry, ?_⟩
    walk_at "rd"
    intro p np
    exact h p _ (s1.trans (s2.trans (same_new np _))) upd_same
  · refine .inr ⟨p, us, k, d, y, rfl, e, ul, g, fun a dx H1 s1 na ie => ?_⟩
    walk_at "rd"
    refine ⟨k, a, dx, _, rfl, ie, entF_row k d y, a, dx, d, y, rfl, ie, fun r nr => ?_⟩
    have s2 := same_new nr (.tup (rowV k d y))
    have er := at_new (.tup (rowV k d y)) nr
    generalize upd H1 r (.tup (rowV k d y)) = H2 at s2 er ⊢
    walk_at "rd"
    intro q nq
    have s3 := same_new nq (.tup [.str "told", .ref r, .bl true])
    exact h q r _ (s1.trans (s2.trans s3)) (s3 _ _ er) upd_same
--@ law
theorem third_of {k : Ek} {d x : Int} {z : Str} (kb : k ≠ .base) (kt : k ≠ .turn) (h : IsTh k x z) (tk : ThirdOk k d x) (hst : k = .still → 0 ≤ x ∧ x ≤ 999999) (xb : x.natAbs < 10 ^ 20) : thirdT k.word (.str z) = some x := by
  have c : ∀ z : Str, z = shC x → centsT (.str z) = some x := fun z e => by
    subst e; exact cents_shown (Nat.lt_trans xb (by decide))
  have r : ∀ z : Str, z = shC x → (0 ≤ x ∧ x ≤ 1000000) → rateT (.str z) = some x := fun z e q => by
    show (centsL z.cps.toList).bind _ = _
    rw [show centsL z.cps.toList = some x from c z e]
    exact if_pos q
  cases k with
  | base => exact absurd rfl kb
  | turn => exact absurd rfl kt
  | rate => exact (if_pos (.inl rfl)).trans (r z (h.2 (by intro z; cases z)) tk)
  | late => exact (if_pos (.inr rfl)).trans (r z (h.2 (by intro z; cases z)) tk)
  | still => exact (if_neg (by decide +kernel)).trans ((if_pos rfl).trans (date_shown (h.1 rfl) (hst rfl).1 (hst rfl).2))
  | _ => exact (if_neg (by decide +kernel)).trans ((if_neg (by decide +kernel)).trans (c z (h.2 (by intro z; cases z))))
theorem good_words {k : Ek} {d x : Int} {a b : Str} {m : List Str} (kb : k ≠ .base) (em : partsE k a b = k.word :: a :: m) (wm : Wds k m) (ha : IsDt d a) (d0 : 0 ≤ d) (d1 : d ≤ 999999) (hb : k ≠ .turn → IsTh k x b) (tk : ThirdOk k d x) (hst : k = .still → 0 ≤ x ∧ x ≤ 999999) (xb : k ≠ .turn → x.natAbs < 10 ^ 20) : GoodW ((k.word :: a :: m).map V.str) k d x := by
  have wl := word_len k
  have al := ha.len d0 d1
  have ml := wm.len
  refine ⟨kb, ⟨⟨d0, d1⟩, tk⟩, k.word :: a :: m, rfl, ?_, ?_, ?_⟩
  · simp only [List.map_cons, List.length_cons, List.length_map]; omega
  · intro z hz
    rcases List.mem_cons.mp hz with rfl | hz
    · omega
    rcases List.mem_cons.mp hz with rfl | hz
    · omega
    exact wm.z z hz
  · rcases wm with ⟨rfl, rfl⟩ | ⟨ht, b', rfl, _⟩
    · exact ⟨[], row_2 (date_shown ha d0 d1), rfl⟩
    · have e : b = b' := by
        rw [show partsE k a b = [k.word, a, b] by cases k <;> first | rfl | exact absurd rfl ht] at em
        injection em with _ em
        injection em with _ em
        injection em
      subst e
      refine ⟨[.int x], ?_, by cases k <;> first | rfl | exact absurd rfl ht | exact absurd rfl kb⟩
      show (dateT (.str a)).bind (fun d => (thirdT k.word (.str b)).map fun y => (k.word, d, [V.int y])) = _
      rw [date_shown ha d0 d1, third_of kb ht (hb ht) tk hst (xb ht)]
      rfl
def rowD3 : Ek → Int → Int → List PyData
  | .turn, d, _ => [.str "turn", .int d]
  | .base, d, _ => [.str "", .int d]
  | k, d, x => [.str k.word, .int d, .int x]
theorem row_rd {K : PySem.W.Frag} {H : Hp} {r : Addr} {k : Ek} {d x : Int} (e : H r = some (.tup (rowV k d x))) : RdV K H (.ref r) (.tuple (rowD3 k d x)) := by
  refine .tup (SqT.of e) ?_
  cases k <;> first | exact .cons (.str _) (.cons (.int _) .nil) | exact .cons (.str _) (.cons (.int _) (.cons (.int _) .nil))
theorem told_shaped (k : Ek) (d x : Int) : SeqAt.shaped (.tuple [.str "told", .tuple (rowD3 k d x), .bool true]) = true := by
  cases k <;> (simp [rowD3, SeqAt.shaped, PyData.canLay0, PyData.canLayAll0, PyData.depth, PyData.depthAll] <;> decide +kernel)
theorem told_eqv (k : Ek) (d x : Int) : PyData.eqv (.tuple [.str "told", .tuple (rowD3 k d x), .bool true]) (.tuple [.str "told", .tuple (rowD3 k d x), .bool true]) = true := by
  cases k <;> simp [rowD3, PyData.eqv, PyData.eqvAll]
theorem words_rd {K : PySem.W.Frag} {H : Hp} {p : Addr} {ws : List Str} (e : H p = some (.lst (ws.map V.str))) : RdV K H (.ref p) (.list (ws.map PyData.str)) := by
  refine .lst (SqL.of e) ?_
  clear e
  induction ws with
  | nil => exact .nil
  | cons a l ih => exact .cons (.str _) ih
theorem ok_list {z : Str} (h : ∀ c ∈ z.cps.toList, c < 1114112) : PyData.strOk z = true := by
  unfold PyData.strOk
  rw [← Array.all_toList, List.all_eq_true]
  exact fun c hc => decide_eq_true (h c hc)
theorem dt_ok {n : Int} {a : Str} (h : IsDt n a) (h0 : 0 ≤ n) (h1 : n ≤ 999999) : PyData.strOk a = true := by
  obtain ⟨y, m, d, D, rfl, rfl⟩ := h
  obtain ⟨_, ⟨m0, m1⟩, ⟨d0, d1⟩⟩ := year_in D h0 h1
  obtain ⟨k, kl, _, e⟩ := shown_list D h0 h1
  refine ok_list fun c hc => ?_
  rw [e] at hc
  simp only [List.mem_cons, List.not_mem_nil, or_false] at hc
  omega
theorem shC_ok (n : Int) : PyData.strOk (shC n) = true := by
  refine ok_list fun c hc => ?_
  rw [shC_list] at hc
  rcases List.mem_append.mp hc with z | z
  · unfold sgn at z
    split at z
    · rw [minus_list] at z; simp at z; omega
    · rw [none_list] at z; simp at z
  · rcases List.mem_append.mp z with z | z
    · have := dg_fig _ _ z; omega
    · simp only [List.mem_cons, List.not_mem_nil, or_false] at z
      omega
theorem th_ok {k : Ek} {n : Int} {a : Str} (h : IsTh k n a) (h1 : k = .still → 0 ≤ n ∧ n ≤ 999999) : PyData.strOk a = true := by
  by_cases e : k = .still
  · exact dt_ok (h.1 e) (h1 e).1 (h1 e).2
  · rw [h.2 e]; exact shC_ok n
theorem words_shaped {ws : List Str} (h : ∀ z ∈ ws, PyData.strOk z = true) : SeqAt.shaped (.list (ws.map PyData.str)) = true := by
  have c : PyData.canLayAll0 (ws.map PyData.str) = true := by
    induction ws with
    | nil => rfl
    | cons a l ih =>
      show (PyData.strOk a && PyData.canLayAll0 (l.map PyData.str)) = true
      rw [h a (List.mem_cons_self), ih fun z hz => h z (List.mem_cons_of_mem _ hz)]
      rfl
  have dp : PyData.depthAll (ws.map PyData.str) ≤ 1 := by
    clear h c
    induction ws with
    | nil => simp [PyData.depthAll]
    | cons a l ih => simp only [List.map_cons, PyData.depthAll, PyData.depth]; omega
  unfold SeqAt.shaped
  rw [Bool.and_eq_true]
  refine ⟨c, decide_eq_true ?_⟩
  simp only [PyData.depth]
  omega
theorem line_ok {k : Ek} {d x : Int} {a b : Str} {m : List Str} (em : partsE k a b = k.word :: a :: m) (ha : IsDt d a) (d0 : 0 ≤ d) (d1 : d ≤ 999999) (hb : k ≠ .turn → IsTh k x b) (hst : k = .still → 0 ≤ x ∧ x ≤ 999999) : ∀ z ∈ k.word :: a :: m, PyData.strOk z = true := by
  rw [← em]
  have w : PyData.strOk k.word = true := by cases k <;> decide +kernel
  by_cases e : k = .turn
  · subst e
    intro z hz
    simp only [partsE, List.mem_cons, List.not_mem_nil, or_false] at hz
    rcases hz with rfl | rfl
    · exact w
    · exact dt_ok ha d0 d1
  · rw [show partsE k a b = [k.word, a, b] by cases k <;> first | rfl | exact absurd rfl e]
    intro z hz
    simp only [List.mem_cons, List.not_mem_nil, or_false] at hz
    rcases hz with rfl | rfl | rfl
    · exact w
    · exact dt_ok ha d0 d1
    · exact th_ok (hb e) hst
theorem words_eqv (ws : List Str) : PyData.eqv (.list (ws.map PyData.str)) (.list (ws.map PyData.str)) = true := by
  simp only [PyData.eqv]
  induction ws with
  | nil => rfl
  | cons a l ih => simp only [List.map_cons, PyData.eqvAll, PyData.eqv, ih, beq_self_eq_true, Bool.and_self]
def sp_law (K : PySem.W.Frag) : Sp := fun vs H Q _ => ∃ (a : Addr) (ns : List Int), vs = [.ref a] ∧ SqL K H a (ns.map V.int) ∧ ns.length ≤ 63 ∧ ∀ H', Q (.bl true) H'
theorem sc_law : FnScope ["_law_script", "_law_k", "_law_cell", "_law_row_here", "_law_text_here", "_law_words", "_law_wrong", "_law_turn"] ["_law_script"] (defScope s_law) := ⟨rfl, rfl, rfl, by decide +kernel, rfl, by decide +kernel, by decide +kernel⟩
theorem d_law (S : Src K mg "law" s_law ["_law_script"]) (T : Txt K mg) (D__law_cell_at : Def P w K mg base 1 "_law_cell_at" ["_law_script", "_law_k"] (sp__law_cell_at K)) (D__law_drawn : Def P w K mg base 3 "_law_drawn" ["_law_cell"] (sp__law_drawn K)) (D__law_text : Def P w K mg base 5 "_law_text" ["_law_row_here"] (sp__law_text K)) (D_show_entry : Def P w K mg base 6 "show_entry" ["entry"] (sp_show_entry K)) (D__law_made : Def P w K mg base 4 "_law_made" ["_law_row_here"] (sp__law_made K)) (D__law_bent : Def P w K mg base 6 "_law_bent" ["_law_row_here", "_law_words", "_law_xs"] (sp__law_bent K)) (D__law_draws : Def P w K mg base 1 "_law_draws" ["_law_cell", "_law_many"] (sp__law_draws K)) (D__law_read : Def P w K mg base 8 "_law_read" ["_law_words"] (sp__law_read K)) (D__law_plain : Def P w K mg base 1 "_law_plain" ["_law_row_here"] (sp__law_plain K)) : Def P w K mg base 9 "law" ["_law_script"] (sp_law K) := by
  refine S.ok sc_law (fun vs H Q E h => ?_) (fun f cdv A outer s H vs Q E hr h => ?_)
  · obtain ⟨a, ns, rfl, hS, hl, h⟩ := h
    rfl
  obtain ⟨a, ns, rfl, hS, hl, h⟩ := h
  refine ⟨_, (pss_consN (ps_for PassesOwn.never rfl (pi_range1 rfl T.n_range (pa_cons pe_int pa_nil)) (pg_name (i := 1) sc_law.nd rfl (by first | exact Or.inl rfl | exact Or.inr rfl))
      (pss_consN (ps_set (i := 2) sc_law.nd rfl (by first | exact Or.inl rfl | exact Or.inr rfl) (pe_fn D__law_cell_at hr (pa_cons (pv 0) (pa_cons (pv 1) pa_nil))))
      (pss_consN (ps_set (i := 3) sc_law.nd rfl (by first | exact Or.inl rfl | exact Or.inr rfl) (pe_fn D__law_drawn hr (pa_cons (pv 2) pa_nil)))
      (pss_consN (ps_set (i := 4) sc_law.nd rfl (by first | exact Or.inl rfl | exact Or.inr rfl) (pe_fn D__law_text hr (pa_cons (pv 3) pa_nil)))
      (pss_consN (ps_set (i := 5) sc_law.nd rfl (by first | exact Or.inl rfl | exact Or.inr rfl) (pe_bm PySem.F.plainAttrs_str PySem.F.slot_str_split PySem.F.type_str_split mt_split (pv 4) (pa_cons pe_str pa_nil)))
      (pss_consN (ps_if (pt_cmpR op_ne (pe_fn D_show_entry hr (pa_cons (pe_fn D__law_made hr (pa_cons (pv 3) pa_nil)) pa_nil)) (pv 4) (nomark _))
      (pss_one (ps_ret pe_bl))
      pss_nil)
      (pss_consN (ps_set (i := 6) sc_law.nd rfl (by first | exact Or.inl rfl | exact Or.inr rfl) (pe_fn D__law_bent hr (pa_cons (pv 3) (pa_cons (pv 5) (pa_cons (pe_fn D__law_draws hr (pa_cons (pe_op op_fdiv (pv 2) pe_int) (pa_cons pe_int pa_nil))) pa_nil)))))
      (pss_one (ps_for PassesOwn.never rfl (pi_range1 rfl T.n_range (pa_cons pe_int pa_nil)) (pg_name (i := 7) sc_law.nd rfl (by first | exact Or.inl rfl | exact Or.inr rfl))
      (pss_consN (ps_if (PW.pt (pw_or (pt_cmpR (op_neD hr.units) (pe_fn D__law_read hr (pa_cons (pv 5) pa_nil)) (pe_tup (pa_cons pe_str (pa_cons (pe_fn D__law_plain hr (pa_cons (pv 3) pa_nil)) (pa_cons pe_bl pa_nil)))) (nomark _)) (pw_or1 (pt_cmpR (op_neD hr.units) (pv 5) (pe_bm PySem.F.plainAttrs_str PySem.F.slot_str_split PySem.F.type_str_split mt_split (pv 4) (pa_cons pe_str pa_nil)) (nomark _)))))
      (pss_one (ps_ret pe_bl))
      pss_nil)
      (pss_one (ps_if (pt_cmpR (op_neD hr.units) (pe_fn D__law_read hr (pa_cons (pv 6) pa_nil)) (pe_tup (pa_cons pe_str (pa_cons pe_bl (pa_cons pe_bl pa_nil)))) (nomark _))
      (pss_one (ps_ret pe_bl))
      pss_nil))))))))))))
      (pss_one (ps_ret pe_bl))), ?_⟩
  have sz := sizeLine_eq
  walk_at "rd"
  refine for_range (fun i σ H' => Same H H' ∧ ∃ z1 z2 z3 z4 z5 z6 z7 : Option V, σ = [some (.ref a), z1, z2, z3, z4, z5, z6, z7]) ⟨Same.refl _, _, _, _, _, _, _, _, rfl⟩ ?_ ?_
  · rintro i σ H' hi ⟨sH, z1, z2, z3, z4, z5, z6, z7, rfl⟩
    walk_at "rd"
    refine ⟨a, ns, i, by rw [Int.zero_add]; rfl, sH.seq hS, ?_⟩
    walk_at "rd"
    intro r k d x H1 s1 nr er kb ⟨d0, d1⟩ tk ks xb
    have hst : k = .still → 0 ≤ x ∧ x ≤ 999999 := fun q => ⟨by subst q; have := tk.1; omega, ks q⟩
    walk_at "rd"
    refine ⟨r, k, d, x, rfl, er, kb, ⟨d0, by omega⟩, hst, xb, fun wa wb ha hb => ?_⟩
    have la := ha.len d0 (by omega)
    have lb : k ≠ .turn → wb.length ≤ 30 := fun q => (hb q).len hst (xb q)
    have ll := line_len (k := k) (a := wa) (b := wb) (by omega) lb
    obtain ⟨m, em, wm⟩ := parts_wds (k := k) (a := wa) (b := wb) (fun q => by have := lb q; omega)
    have sp := (split_line (k := k) (ha.free d0 (by omega)) (fun q => (hb q).free hst)).trans em
    have gw := good_words (x := x) kb em wm ha d0 (by omega) hb tk hst xb
    have ml := wm.len
    obtain ⟨T, eT⟩ : ∃ T, T = lineE k wa wb := ⟨_, rfl⟩
    rw [← eT] at ll sp ⊢
    walk_at "rd"
    intro lw nlw
    rw [sp]
    have s2 := same_new nlw (.lst ((k.word :: wa :: m).map V.str))
    have e2 := at_new (.lst ((k.word :: wa :: m).map V.str)) nlw
    generalize upd H1 lw (.lst ((k.word :: wa :: m).map V.str)) = H2 at s2 e2 ⊢
    walk_at "rd"
    refine ⟨r, k, d, x, rfl, s2 _ _ er, kb, fun ea dx H3 s3 na ie => ?_⟩
    walk_at "rd"
    refine ⟨ea, dx, k, d, x, rfl, ie, kb, ⟨d0, by omega⟩, hst, xb, fun va vb hva hvb => ?_⟩
    rw [show lineE k va vb = T from (line_uniq hva hvb ha hb).trans eT.symm]
    walk_at "rd"
    intro pq nq H4 s4 npq epq nlq nnq
    obtain ⟨n0, n1, rfl⟩ : ∃ a b, nq = [a, b] := by
      match nq, nlq with
      | [a, b], _ => exact ⟨a, b, rfl⟩
      | [], q => simp at q
      | [_], q => simp at q
      | _ :: _ :: _ :: _, q => simp at q; omega
    have p0 := (nnq n0 (by simp)).1
    have p1 := (nnq n1 (by simp)).1
    have s34 := s3.trans s4
    have er4 := (s2.trans s34) _ _ er
    have ew4 := s34 _ _ e2
    walk_at "rd"
    refine ⟨r, lw, pq, k, d, x, wa, m, n0, n1, rfl, er4, ew4, epq, kb, ⟨d0, by omega⟩, ha, wm, p0, p1, fun wv H5 s5 bad => ?_⟩
    have er5 := s5 _ _ er4
    have ew5 := s5 _ _ ew4
    have wok := words_shaped (line_ok em ha d0 (by omega) hb hst)
    walk_at "rd"
    refine for_range (fun j σ H' => Same H5 H' ∧ ∃ z7 : Option V, σ = [some (.ref a), some (.int (0 + (i : Int))), some (.int (cellAt ns i)), some (.ref r), some (.str T), some (.ref lw), some wv, z7]) ⟨Same.refl _, _, rfl⟩ ?_ ?_
    · rintro j σ H6 hj ⟨s6, z7, rfl⟩
      have er6 := s6 _ _ er5
      have ew6 := s6 _ _ ew5
      walk_at "rd"
      refine .inr ⟨lw, _, k, d, x, rfl, ew6, by simp only [List.map_cons, List.length_cons, List.length_map]; omega, gw, fun q p H7 s7 ep eq => ?_⟩
      walk_at "rd"
      refine ⟨r, k, d, x, rfl, s7 _ _ er6, kb, fun q2 H8 s8 e8 => ?_⟩
      walk_at "rd"
      intro t nt
      have s9 := same_new nt (.tup [.str "told", .ref q2, .bl true])
      have e9 := at_new (.tup [.str "told", .ref q2, .bl true]) nt
      generalize upd H8 t (.tup [.str "told", .ref q2, .bl true]) = H9 at s9 e9 ⊢
      have s89 := s8.trans s9
      refine ⟨_, _, .tup (SqT.of (s89 _ _ eq)) (.cons (.str _) (.cons (row_rd (s89 _ _ ep)) (.cons (.bl _) .nil))), .tup (SqT.of e9) (.cons (.str _) (.cons (row_rd (s9 _ _ e8)) (.cons (.bl _) .nil))), told_shaped k d x, told_shaped k d x, ?_⟩
      rw [told_eqv]
      walk_at "rd"
      intro l2 nl2
      rw [sp]
      have s10 := same_new nl2 (.lst ((k.word :: wa :: m).map V.str))
      have e10 := at_new (.lst ((k.word :: wa :: m).map V.str)) nl2
      generalize upd H9 l2 (.lst ((k.word :: wa :: m).map V.str)) = H10 at s10 e10 ⊢
      have s710 := s7.trans (s89.trans s10)
      refine ⟨_, _, words_rd (s710 _ _ ew6), words_rd e10, wok, wok, ?_⟩
      rw [words_eqv]
      walk_at "rd"
      refine .inl ⟨bad.same (s6.trans s710), fun p2 H11 s11 e11 => ?_⟩
      walk_at "rd"
      intro t2 nt2
      have s12 := same_new nt2 (.tup [.str "none", .bl true, .bl false])
      have e12 := at_new (.tup [.str "none", .bl true, .bl false]) nt2
      generalize upd H11 t2 (.tup [.str "none", .bl true, .bl false]) = H12 at s12 e12 ⊢
      refine ⟨_, _, .tup (SqT.of (s12 _ _ e11)) (.cons (.str _) (.cons (.bl _) (.cons (.bl _) .nil))), .tup (SqT.of e12) (.cons (.str _) (.cons (.bl _) (.cons (.bl _) .nil))), (by decide +kernel), (by decide +kernel), ?_⟩
      rw [show PyData.eqv (.tuple [.str "none", .bool true, .bool false]) (.tuple [.str "none", .bool true, .bool false]) = true by simp [PyData.eqv, PyData.eqvAll]]
      walk_at "rd"
      exact ⟨s6.trans (s710.trans (s11.trans s12)), _, rfl⟩
    · rintro σ H6 ⟨s6, z7, rfl⟩
      walk_at "rd"
      exact ⟨sH.trans (s1.trans (s2.trans (s34.trans (s5.trans s6)))), _, _, _, _, _, _, _, rfl⟩
  · rintro σ H' ⟨sH, z1, z2, z3, z4, z5, z6, z7, rfl⟩
    walk_at "rd"
    exact h _
end
theorem all_ok {K : PySem.W.Frag} {mg : Str → Option Value} (T : Txt K mg) (S_is_whole : Src K mg "is_whole" s_is_whole ["thing"]) (S_is_leap : Src K mg "is_leap" s_is_leap ["year"]) (S_new_year : Src K mg "new_year" s_new_year ["year"]) (S_has_form : Src K mg "has_form" s_has_form ["row"]) (S_check_text : Src K mg "check_text" s_check_text ["thing"]) (S_are_figures : Src K mg "are_figures" s_are_figures ["text"]) (S_show_whole : Src K mg "show_whole" s_show_whole ["number"]) (S_two_figures : Src K mg "two_figures" s_two_figures ["number"]) (S__law_cell_at : Src K mg "_law_cell_at" s__law_cell_at ["_law_script", "_law_k"]) (S__law_draws : Src K mg "_law_draws" s__law_draws ["_law_cell", "_law_many"]) (S__law_leap : Src K mg "_law_leap" s__law_leap ["_law_year"]) (S__law_two : Src K mg "_law_two" s__law_two ["_law_number"]) (S__law_value : Src K mg "_law_value" s__law_value ["_law_word", "_law_day", "_law_xs"]) (S__law_plain : Src K mg "_law_plain" s__law_plain ["_law_row_here"]) (S_is_day : Src K mg "is_day" s_is_day ["thing"]) (S_month_days : Src K mg "month_days" s_month_days ["year", "month"]) (S_year_of : Src K mg "year_of" s_year_of ["day"]) (S_is_within : Src K mg "is_within" s_is_within ["thing", "least", "most"]) (S_read_whole : Src K mg "read_whole" s_read_whole ["text"]) (S_show_cents : Src K mg "show_cents" s_show_cents ["cents"]) (S__law_month_size : Src K mg "_law_month_size" s__law_month_size ["_law_year", "_law_month"]) (S__law_shown : Src K mg "_law_shown" s__law_shown ["_law_number"]) (S__law_row : Src K mg "_law_row" s__law_row ["_law_cell", "_law_base", "_law_wide"]) (S_is_date : Src K mg "is_date" s_is_date ["year", "month", "day"]) (S_date_of : Src K mg "date_of" s_date_of ["day"]) (S_is_third : Src K mg "is_third" s_is_third ["word", "day", "thing"]) (S_read_coins : Src K mg "read_coins" s_read_coins ["text"]) (S_show_rate : Src K mg "show_rate" s_show_rate ["rate"]) (S__law_date : Src K mg "_law_date" s__law_date ["_law_day"]) (S__law_drawn : Src K mg "_law_drawn" s__law_drawn ["_law_cell"]) (S_day_of : Src K mg "day_of" s_day_of ["year", "month", "day"]) (S_made : Src K mg "made" s_made ["word", "day", "thing"]) (S_read_cents : Src K mg "read_cents" s_read_cents ["text"]) (S_show_date : Src K mg "show_date" s_show_date ["day"]) (S__law_written : Src K mg "_law_written" s__law_written ["_law_day"]) (S__law_made : Src K mg "_law_made" s__law_made ["_law_row_here"]) (S_entry_of : Src K mg "entry_of" s_entry_of ["row"]) (S_read_rate : Src K mg "read_rate" s_read_rate ["text"]) (S_read_date : Src K mg "read_date" s_read_date ["text"]) (S_show_third : Src K mg "show_third" s_show_third ["word", "thing"]) (S__law_text : Src K mg "_law_text" s__law_text ["_law_row_here"]) (S__law_tail : Src K mg "_law_tail" s__law_tail ["_law_row_here", "_law_x"]) (S_read_third : Src K mg "read_third" s_read_third ["word", "text"]) (S_show_entry : Src K mg "show_entry" s_show_entry ["entry"]) (S__law_bent : Src K mg "_law_bent" s__law_bent ["_law_row_here", "_law_words", "_law_xs"]) (S_read_entry : Src K mg "read_entry" s_read_entry ["words"]) (S__law_read : Src K mg "_law_read" s__law_read ["_law_words"]) (S_law : Src K mg "law" s_law ["_law_script"]) (S_e_out_word : MethS K (cA K (Ek.cls .out)) "word" "Out.word" s_Out_word ["self"]) (S_e_fee_word : MethS K (cA K (Ek.cls .fee)) "word" "Fee.word" s_Fee_word ["self"]) (S_e_pay_word : MethS K (cA K (Ek.cls .pay)) "word" "Pay.word" s_Pay_word ["self"]) (S_e_due_word : MethS K (cA K (Ek.cls .due)) "word" "Due.word" s_Due_word ["self"]) (S_e_turn_word : MethS K (cA K (Ek.cls .turn)) "word" "Turn.word" s_Turn_word ["self"]) (S_e_rate_word : MethS K (cA K (Ek.cls .rate)) "word" "Rate.word" s_Rate_word ["self"]) (S_e_late_word : MethS K (cA K (Ek.cls .late)) "word" "Late.word" s_Late_word ["self"]) (S_e_still_word : MethS K (cA K (Ek.cls .still)) "word" "Still.word" s_Still_word ["self"]) (S_e_base_word : MethS K (cA K (Ek.cls .base)) "word" "Entry.word" s_Entry_word ["self"]) (S_e_out_row : MethS K (cA K (Ek.cls .out)) "row" "AmountEntry.row" s_AmountEntry_row ["self"]) (S_e_fee_row : MethS K (cA K (Ek.cls .fee)) "row" "AmountEntry.row" s_AmountEntry_row ["self"]) (S_e_pay_row : MethS K (cA K (Ek.cls .pay)) "row" "AmountEntry.row" s_AmountEntry_row ["self"]) (S_e_due_row : MethS K (cA K (Ek.cls .due)) "row" "AmountEntry.row" s_AmountEntry_row ["self"]) (S_e_turn_row : MethS K (cA K (Ek.cls .turn)) "row" "Entry.row" s_Entry_row ["self"]) (S_e_rate_row : MethS K (cA K (Ek.cls .rate)) "row" "RateEntry.row" s_RateEntry_row ["self"]) (S_e_late_row : MethS K (cA K (Ek.cls .late)) "row" "RateEntry.row" s_RateEntry_row ["self"]) (S_e_still_row : MethS K (cA K (Ek.cls .still)) "row" "Still.row" s_Still_row ["self"]) (S_e_base_row : MethS K (cA K (Ek.cls .base)) "row" "Entry.row" s_Entry_row ["self"]) (S_init_Due : MethS K (cA K "Due") "__init__" "AmountEntry.__init__" s_AmountEntry_init ["self", "day", "amount"]) (S_init_Fee : MethS K (cA K "Fee") "__init__" "AmountEntry.__init__" s_AmountEntry_init ["self", "day", "amount"]) (S_init_Late : MethS K (cA K "Late") "__init__" "RateEntry.__init__" s_RateEntry_init ["self", "day", "rate"]) (S_init_Out : MethS K (cA K "Out") "__init__" "AmountEntry.__init__" s_AmountEntry_init ["self", "day", "amount"]) (S_init_Pay : MethS K (cA K "Pay") "__init__" "AmountEntry.__init__" s_AmountEntry_init ["self", "day", "amount"]) (S_init_Rate : MethS K (cA K "Rate") "__init__" "RateEntry.__init__" s_RateEntry_init ["self", "day", "rate"]) (S_init_Still : MethS K (cA K "Still") "__init__" "Still.__init__" s_Still_init ["self", "day", "until"]) (S_init_Turn : MethS K (cA K "Turn") "__init__" "Entry.__init__" s_Entry_init ["self", "day"]) (S_U_Entry_init : UnbS K (cA K "Entry") "__init__" "Entry.__init__" s_Entry_init ["self", "day"]) {P : Program} {w : World} {base : Heap} : Def P w K mg base 9 "law" ["_law_script"] (sp_law K) := by
  have D_is_whole := d_is_whole (P := P) (w := w) (base := base) S_is_whole T 
  have D_is_leap := d_is_leap (P := P) (w := w) (base := base) S_is_leap T 
  have D_new_year := d_new_year (P := P) (w := w) (base := base) S_new_year T 
  have D_U_Entry_init := dU_Entry_init (P := P) (w := w) (base := base) S_U_Entry_init T 
  have D_init_Turn := d_Entry_init (P := P) (w := w) (base := base) "Turn" S_init_Turn T 
  have D_e_word : ∀ k : Ek, DefM P w K mg base 1 (cA K k.cls) "word" ["self"] (sp_e_word k K) := fun k => by
    cases k
    · exact d_Out_word .out (by simp) S_e_out_word T 
    · exact d_Fee_word .fee (by simp) S_e_fee_word T 
    · exact d_Pay_word .pay (by simp) S_e_pay_word T 
    · exact d_Due_word .due (by simp) S_e_due_word T 
    · exact d_Turn_word .turn (by simp) S_e_turn_word T 
    · exact d_Rate_word .rate (by simp) S_e_rate_word T 
    · exact d_Late_word .late (by simp) S_e_late_word T 
    · exact d_Still_word .still (by simp) S_e_still_word T 
    · exact d_Entry_word .base (by simp) S_e_base_word T 
  have D_has_form := d_has_form (P := P) (w := w) (base := base) S_has_form T 
  have D_check_text := d_check_text (P := P) (w := w) (base := base) S_check_text T 
  have D_are_figures := d_are_figures (P := P) (w := w) (base := base) S_are_figures T 
  have D_show_whole := d_show_whole (P := P) (w := w) (base := base) S_show_whole T 
  have D_two_figures := d_two_figures (P := P) (w := w) (base := base) S_two_figures T 
  have D__law_cell_at := d__law_cell_at (P := P) (w := w) (base := base) S__law_cell_at T 
  have D__law_draws := d__law_draws (P := P) (w := w) (base := base) S__law_draws T 
  have D__law_leap := d__law_leap (P := P) (w := w) (base := base) S__law_leap T 
  have D__law_two := d__law_two (P := P) (w := w) (base := base) S__law_two T 
  have D__law_value := d__law_value (P := P) (w := w) (base := base) S__law_value T 
  have D__law_plain := d__law_plain (P := P) (w := w) (base := base) S__law_plain T 
  have D_is_day := d_is_day (P := P) (w := w) (base := base) S_is_day T D_is_whole
  have D_month_days := d_month_days (P := P) (w := w) (base := base) S_month_days T D_is_leap
  have D_year_of := d_year_of (P := P) (w := w) (base := base) S_year_of T D_new_year
  have D_e_row : ∀ k : Ek, DefM P w K mg base 2 (cA K k.cls) "row" ["self"] (sp_e_row k K) := fun k => by
    cases k
    · exact d_AmountEntry_row .out (by simp) S_e_out_row T D_e_word
    · exact d_AmountEntry_row .fee (by simp) S_e_fee_row T D_e_word
    · exact d_AmountEntry_row .pay (by simp) S_e_pay_row T D_e_word
    · exact d_AmountEntry_row .due (by simp) S_e_due_row T D_e_word
    · exact d_Entry_row .turn (by simp) S_e_turn_row T D_e_word
    · exact d_RateEntry_row .rate (by simp) S_e_rate_row T D_e_word
    · exact d_RateEntry_row .late (by simp) S_e_late_row T D_e_word
    · exact d_Still_row .still (by simp) S_e_still_row T D_e_word
    · exact d_Entry_row .base (by simp) S_e_base_row T D_e_word
  have D_init_Due := d_AmountEntry_init (P := P) (w := w) (base := base) "Due" S_init_Due T D_U_Entry_init
  have D_init_Fee := d_AmountEntry_init (P := P) (w := w) (base := base) "Fee" S_init_Fee T D_U_Entry_init
  have D_init_Out := d_AmountEntry_init (P := P) (w := w) (base := base) "Out" S_init_Out T D_U_Entry_init
  have D_init_Pay := d_AmountEntry_init (P := P) (w := w) (base := base) "Pay" S_init_Pay T D_U_Entry_init
  have D_init_Late := d_RateEntry_init (P := P) (w := w) (base := base) "Late" S_init_Late T D_U_Entry_init
  have D_init_Rate := d_RateEntry_init (P := P) (w := w) (base := base) "Rate" S_init_Rate T D_U_Entry_init
  have D_init_Still := d_Still_init (P := P) (w := w) (base := base) "Still" S_init_Still T D_U_Entry_init
  have D_is_within := d_is_within (P := P) (w := w) (base := base) S_is_within T D_is_whole
  have D_read_whole := d_read_whole (P := P) (w := w) (base := base) S_read_whole T D_check_text D_are_figures
  have D_show_cents := d_show_cents (P := P) (w := w) (base := base) S_show_cents T D_show_whole D_two_figures
  have D__law_month_size := d__law_month_size (P := P) (w := w) (base := base) S__law_month_size T D__law_leap
  have D__law_shown := d__law_shown (P := P) (w := w) (base := base) S__law_shown T D__law_two
  have D__law_row := d__law_row (P := P) (w := w) (base := base) S__law_row T D__law_draws D__law_value
  have D_is_date := d_is_date (P := P) (w := w) (base := base) S_is_date T D_is_whole D_month_days
  have D_date_of := d_date_of (P := P) (w := w) (base := base) S_date_of T D_year_of D_new_year D_month_days
  have D_is_third := d_is_third (P := P) (w := w) (base := base) S_is_third T D_is_within
  have D_read_coins := d_read_coins (P := P) (w := w) (base := base) S_read_coins T D_are_figures D_read_whole
  have D_show_rate := d_show_rate (P := P) (w := w) (base := base) S_show_rate T D_show_cents
  have D__law_date := d__law_date (P := P) (w := w) (base := base) S__law_date T D__law_leap D__law_month_size
  have D__law_drawn := d__law_drawn (P := P) (w := w) (base := base) S__law_drawn T D__law_draws D__law_row
  have D_day_of := d_day_of (P := P) (w := w) (base := base) S_day_of T D_is_date D_month_days D_new_year D_is_day
  have D_made := d_made (P := P) (w := w) (base := base) S_made T D_init_Out D_init_Fee D_init_Pay D_init_Due D_init_Rate D_init_Late D_init_Still
  have D_read_cents := d_read_cents (P := P) (w := w) (base := base) S_read_cents T D_check_text D_read_coins
  have D_show_date := d_show_date (P := P) (w := w) (base := base) S_show_date T D_date_of D_two_figures
  have D__law_written := d__law_written (P := P) (w := w) (base := base) S__law_written T D__law_date D__law_two
  have D__law_made := d__law_made (P := P) (w := w) (base := base) S__law_made T D_init_Out D_init_Fee D_init_Turn D_init_Pay D_init_Due D_init_Rate D_init_Late D_init_Still
  have D_entry_of := d_entry_of (P := P) (w := w) (base := base) S_entry_of T D_has_form D_is_day D_init_Turn D_is_third D_made
  have D_read_rate := d_read_rate (P := P) (w := w) (base := base) S_read_rate T D_read_cents
  have D_read_date := d_read_date (P := P) (w := w) (base := base) S_read_date T D_check_text D_are_figures D_day_of
  have D_show_third := d_show_third (P := P) (w := w) (base := base) S_show_third T D_show_rate D_show_date D_show_cents
  have D__law_text := d__law_text (P := P) (w := w) (base := base) S__law_text T D__law_written D__law_shown
  have D__law_tail := d__law_tail (P := P) (w := w) (base := base) S__law_tail T D__law_written
  have D_read_third := d_read_third (P := P) (w := w) (base := base) S_read_third T D_read_rate D_read_date D_read_cents
  have D_show_entry := d_show_entry (P := P) (w := w) (base := base) S_show_entry T D_e_row D_show_date D_show_third
  have D__law_bent := d__law_bent (P := P) (w := w) (base := base) S__law_bent T D__law_tail
  have D_read_entry := d_read_entry (P := P) (w := w) (base := base) S_read_entry T D_check_text D_read_date D_read_third D_entry_of
  have D__law_read := d__law_read (P := P) (w := w) (base := base) S__law_read T D_read_entry D_e_row
  have D_law := d_law (P := P) (w := w) (base := base) S_law T D__law_cell_at D__law_drawn D__law_text D_show_entry D__law_made D__law_bent D__law_draws D__law_read D__law_plain
  exact D_law
end My
open PySem PySem.W PyProof.Rows
set_option maxRecDepth 100000 in
set_option maxHeartbeats 0 in
theorem PySem.Challenge.cw_loanroll_k93_entries_in_words_holds : PySem.Challenge.rw_loanroll_k93_entries_in_words.Holds := by
  refine _root_.hd ?_
  k_fill
  refine L2.walk_def (l := PySem.Challenge.rw_loanroll_k93_entries_in_words) (lv := 9) (sp := My.sp_law) (x := "_law_script") (st := My.s_law) rfl rfl rfl ⟨rfl, by decide, by decide⟩ (fun w h Y => PySem.W.kIn_of Y) ?F (fun K H a ns hl hS => ⟨a, ns, rfl, hS, hl, fun _ => rfl⟩)
  case F =>
    intro w mg h KX G
    have n_abs : mg "abs" = none := PySem.W.mg_none_of KX G (by k_is)
    have n_all : mg "all" = none := PySem.W.mg_none_of KX G (by k_is)
    have n_bool : mg "bool" = none := PySem.W.mg_none_of KX G (by k_is)
    have n_int : mg "int" = none := PySem.W.mg_none_of KX G (by k_is)
    have n_isinstance : mg "isinstance" = none := PySem.W.mg_none_of KX G (by k_is)
    have n_len : mg "len" = none := PySem.W.mg_none_of KX G (by k_is)
    have n_list : mg "list" = none := PySem.W.mg_none_of KX G (by k_is)
    have n_max : mg "max" = none := PySem.W.mg_none_of KX G (by k_is)
    have n_min : mg "min" = none := PySem.W.mg_none_of KX G (by k_is)
    have n_range : mg "range" = none := PySem.W.mg_none_of KX G (by k_is)
    have n_reversed : mg "reversed" = none := PySem.W.mg_none_of KX G (by k_is)
    have n_str : mg "str" = none := PySem.W.mg_none_of KX G (by k_is)
    have n_sum : mg "sum" = none := PySem.W.mg_none_of KX G (by k_is)
    have n_tuple : mg "tuple" = none := PySem.W.mg_none_of KX G (by k_is)
    have a_BadEntry := by
      refine' L2.nsHave (x := "BadEntry") KX ?a
      (case a => k_is)
    have a_Due := by
      refine' L2.nsHave (x := "Due") KX ?a
      (case a => k_is)
    have a_Entry := by
      refine' L2.nsHave (x := "Entry") KX ?a
      (case a => k_is)
    have a_Fee := by
      refine' L2.nsHave (x := "Fee") KX ?a
      (case a => k_is)
    have a_Late := by
      refine' L2.nsHave (x := "Late") KX ?a
      (case a => k_is)
    have a_LoanError := by
      refine' L2.nsHave (x := "LoanError") KX ?a
      (case a => k_is)
    have a_NoDay := by
      refine' L2.nsHave (x := "NoDay") KX ?a
      (case a => k_is)
    have a_NoText := by
      refine' L2.nsHave (x := "NoText") KX ?a
      (case a => k_is)
    have a_Out := by
      refine' L2.nsHave (x := "Out") KX ?a
      (case a => k_is)
    have a_Pay := by
      refine' L2.nsHave (x := "Pay") KX ?a
      (case a => k_is)
    have a_Rate := by
      refine' L2.nsHave (x := "Rate") KX ?a
      (case a => k_is)
    have a_Still := by
      refine' L2.nsHave (x := "Still") KX ?a
      (case a => k_is)
    have a_Turn := by
      refine' L2.nsHave (x := "Turn") KX ?a
      (case a => k_is)
    have m_BadEntry := L2.m_mk KX G a_BadEntry
    have m_Due := L2.m_mk KX G a_Due
    have m_Entry := L2.m_mk KX G a_Entry
    have m_Fee := L2.m_mk KX G a_Fee
    have m_Late := L2.m_mk KX G a_Late
    have m_LoanError := L2.m_mk KX G a_LoanError
    have m_NoDay := L2.m_mk KX G a_NoDay
    have m_NoText := L2.m_mk KX G a_NoText
    have m_Out := L2.m_mk KX G a_Out
    have m_Pay := L2.m_mk KX G a_Pay
    have m_Rate := L2.m_mk KX G a_Rate
    have m_Still := L2.m_mk KX G a_Still
    have m_Turn := L2.m_mk KX G a_Turn
    have clE_Out := by
      refine' L2.cls_mk a_Out ?_ ?_ ?_ ?_
      all_goals k_is
    have clE_Fee := by
      refine' L2.cls_mk a_Fee ?_ ?_ ?_ ?_
      all_goals k_is
    have clE_Pay := by
      refine' L2.cls_mk a_Pay ?_ ?_ ?_ ?_
      all_goals k_is
    have clE_Due := by
      refine' L2.cls_mk a_Due ?_ ?_ ?_ ?_
      all_goals k_is
    have clE_Turn := by
      refine' L2.cls_mk a_Turn ?_ ?_ ?_ ?_
      all_goals k_is
    have clE_Rate := by
      refine' L2.cls_mk a_Rate ?_ ?_ ?_ ?_
      all_goals k_is
    have clE_Late := by
      refine' L2.cls_mk a_Late ?_ ?_ ?_ ?_
      all_goals k_is
    have clE_Still := by
      refine' L2.cls_mk a_Still ?_ ?_ ?_ ?_
      all_goals k_is
    have clE_Entry := by
      refine' L2.cls_mk a_Entry ?_ ?_ ?_ ?_
      all_goals k_is
    have naE_amount_Out := by
      refine' L2.fi_mk (name := "amount") a_Out ?_
      k_is
    have naE_amount_Fee := by
      refine' L2.fi_mk (name := "amount") a_Fee ?_
      k_is
    have naE_amount_Pay := by
      refine' L2.fi_mk (name := "amount") a_Pay ?_
      k_is
    have naE_amount_Due := by
      refine' L2.fi_mk (name := "amount") a_Due ?_
      k_is
    have naE_amount_Turn := by
      refine' L2.fi_mk (name := "amount") a_Turn ?_
      k_is
    have naE_amount_Rate := by
      refine' L2.fi_mk (name := "amount") a_Rate ?_
      k_is
    have naE_amount_Late := by
      refine' L2.fi_mk (name := "amount") a_Late ?_
      k_is
    have naE_amount_Still := by
      refine' L2.fi_mk (name := "amount") a_Still ?_
      k_is
    have naE_amount_Entry := by
      refine' L2.fi_mk (name := "amount") a_Entry ?_
      k_is
    have naE_day_Out := by
      refine' L2.fi_mk (name := "day") a_Out ?_
      k_is
    have naE_day_Fee := by
      refine' L2.fi_mk (name := "day") a_Fee ?_
      k_is
    have naE_day_Pay := by
      refine' L2.fi_mk (name := "day") a_Pay ?_
      k_is
    have naE_day_Due := by
      refine' L2.fi_mk (name := "day") a_Due ?_
      k_is
    have naE_day_Turn := by
      refine' L2.fi_mk (name := "day") a_Turn ?_
      k_is
    have naE_day_Rate := by
      refine' L2.fi_mk (name := "day") a_Rate ?_
      k_is
    have naE_day_Late := by
      refine' L2.fi_mk (name := "day") a_Late ?_
      k_is
    have naE_day_Still := by
      refine' L2.fi_mk (name := "day") a_Still ?_
      k_is
    have naE_day_Entry := by
      refine' L2.fi_mk (name := "day") a_Entry ?_
      k_is
    have naE_rate_Out := by
      refine' L2.fi_mk (name := "rate") a_Out ?_
      k_is
    have naE_rate_Fee := by
      refine' L2.fi_mk (name := "rate") a_Fee ?_
      k_is
    have naE_rate_Pay := by
      refine' L2.fi_mk (name := "rate") a_Pay ?_
      k_is
    have naE_rate_Due := by
      refine' L2.fi_mk (name := "rate") a_Due ?_
      k_is
    have naE_rate_Turn := by
      refine' L2.fi_mk (name := "rate") a_Turn ?_
      k_is
    have naE_rate_Rate := by
      refine' L2.fi_mk (name := "rate") a_Rate ?_
      k_is
    have naE_rate_Late := by
      refine' L2.fi_mk (name := "rate") a_Late ?_
      k_is
    have naE_rate_Still := by
      refine' L2.fi_mk (name := "rate") a_Still ?_
      k_is
    have naE_rate_Entry := by
      refine' L2.fi_mk (name := "rate") a_Entry ?_
      k_is
    have naE_until_Out := by
      refine' L2.fi_mk (name := "until") a_Out ?_
      k_is
    have naE_until_Fee := by
      refine' L2.fi_mk (name := "until") a_Fee ?_
      k_is
    have naE_until_Pay := by
      refine' L2.fi_mk (name := "until") a_Pay ?_
      k_is
    have naE_until_Due := by
      refine' L2.fi_mk (name := "until") a_Due ?_
      k_is
    have naE_until_Turn := by
      refine' L2.fi_mk (name := "until") a_Turn ?_
      k_is
    have naE_until_Rate := by
      refine' L2.fi_mk (name := "until") a_Rate ?_
      k_is
    have naE_until_Late := by
      refine' L2.fi_mk (name := "until") a_Late ?_
      k_is
    have naE_until_Still := by
      refine' L2.fi_mk (name := "until") a_Still ?_
      k_is
    have naE_until_Entry := by
      refine' L2.fi_mk (name := "until") a_Entry ?_
      k_is
    have mi_Due := by
      refine' L2.mki_mk a_Due ?_ ?_
      all_goals k_is
    have mi_Fee := by
      refine' L2.mki_mk a_Fee ?_ ?_
      all_goals k_is
    have mi_Late := by
      refine' L2.mki_mk a_Late ?_ ?_
      all_goals k_is
    have mi_Out := by
      refine' L2.mki_mk a_Out ?_ ?_
      all_goals k_is
    have mi_Pay := by
      refine' L2.mki_mk a_Pay ?_ ?_
      all_goals k_is
    have mi_Rate := by
      refine' L2.mki_mk a_Rate ?_ ?_
      all_goals k_is
    have mi_Still := by
      refine' L2.mki_mk a_Still ?_ ?_
      all_goals k_is
    have mi_Turn := by
      refine' L2.mki_mk a_Turn ?_ ?_
      all_goals k_is
    have S_e_out_word := by
      refine' L2.meth_mk (m := "word") (qual := "Out.word") (st := My.s_Out_word) (ps := ["self"]) a_Out ?xi ?xf ?xk ?xl ?xc ?xb
      (case xi => k_is); (case xf => k_is); (case xk => k_is); (case xl => k_is); (case xc => k_is)
      (case xb => exact L2.us1 (fun _ => rfl))
    have S_e_fee_word := by
      refine' L2.meth_mk (m := "word") (qual := "Fee.word") (st := My.s_Fee_word) (ps := ["self"]) a_Fee ?xi ?xf ?xk ?xl ?xc ?xb
      (case xi => k_is); (case xf => k_is); (case xk => k_is); (case xl => k_is); (case xc => k_is)
      (case xb => exact L2.us1 (fun _ => rfl))
    have S_e_pay_word := by
      refine' L2.meth_mk (m := "word") (qual := "Pay.word") (st := My.s_Pay_word) (ps := ["self"]) a_Pay ?xi ?xf ?xk ?xl ?xc ?xb
      (case xi => k_is); (case xf => k_is); (case xk => k_is); (case xl => k_is); (case xc => k_is)
      (case xb => exact L2.us1 (fun _ => rfl))
    have S_e_due_word := by
      refine' L2.meth_mk (m := "word") (qual := "Due.word") (st := My.s_Due_word) (ps := ["self"]) a_Due ?xi ?xf ?xk ?xl ?xc ?xb
      (case xi => k_is); (case xf => k_is); (case xk => k_is); (case xl => k_is); (case xc => k_is)
      (case xb => exact L2.us1 (fun _ => rfl))
    have S_e_turn_word := by
      refine' L2.meth_mk (m := "word") (qual := "Turn.word") (st := My.s_Turn_word) (ps := ["self"]) a_Turn ?xi ?xf ?xk ?xl ?xc ?xb
      (case xi => k_is); (case xf => k_is); (case xk => k_is); (case xl => k_is); (case xc => k_is)
      (case xb => exact L2.us1 (fun _ => rfl))
    have S_e_rate_word := by
      refine' L2.meth_mk (m := "word") (qual := "Rate.word") (st := My.s_Rate_word) (ps := ["self"]) a_Rate ?xi ?xf ?xk ?xl ?xc ?xb
      (case xi => k_is); (case xf => k_is); (case xk => k_is); (case xl => k_is); (case xc => k_is)
      (case xb => exact L2.us1 (fun _ => rfl))
    have S_e_late_word := by
      refine' L2.meth_mk (m := "word") (qual := "Late.word") (st := My.s_Late_word) (ps := ["self"]) a_Late ?xi ?xf ?xk ?xl ?xc ?xb
      (case xi => k_is); (case xf => k_is); (case xk => k_is); (case xl => k_is); (case xc => k_is)
      (case xb => exact L2.us1 (fun _ => rfl))
    have S_e_still_word := by
      refine' L2.meth_mk (m := "word") (qual := "Still.word") (st := My.s_Still_word) (ps := ["self"]) a_Still ?xi ?xf ?xk ?xl ?xc ?xb
      (case xi => k_is); (case xf => k_is); (case xk => k_is); (case xl => k_is); (case xc => k_is)
      (case xb => exact L2.us1 (fun _ => rfl))
    have S_e_base_word := by
      refine' L2.meth_mk (m := "word") (qual := "Entry.word") (st := My.s_Entry_word) (ps := ["self"]) a_Entry ?xi ?xf ?xk ?xl ?xc ?xb
      (case xi => k_is); (case xf => k_is); (case xk => k_is); (case xl => k_is); (case xc => k_is)
      (case xb => exact L2.us1 (fun _ => rfl))
    have S_e_out_row := by
      refine' L2.meth_mk (m := "row") (qual := "AmountEntry.row") (st := My.s_AmountEntry_row) (ps := ["self"]) a_Out ?xi ?xf ?xk ?xl ?xc ?xb
      (case xi => k_is); (case xf => k_is); (case xk => k_is); (case xl => k_is); (case xc => k_is)
      (case xb => exact L2.us1 (fun _ => rfl))
    have S_e_fee_row := by
      refine' L2.meth_mk (m := "row") (qual := "AmountEntry.row") (st := My.s_AmountEntry_row) (ps := ["self"]) a_Fee ?xi ?xf ?xk ?xl ?xc ?xb
      (case xi => k_is); (case xf => k_is); (case xk => k_is); (case xl => k_is); (case xc => k_is)
      (case xb => exact L2.us1 (fun _ => rfl))
    have S_e_pay_row := by
      refine' L2.meth_mk (m := "row") (qual := "AmountEntry.row") (st := My.s_AmountEntry_row) (ps := ["self"]) a_Pay ?xi ?xf ?xk ?xl ?xc ?xb
      (case xi => k_is); (case xf => k_is); (case xk => k_is); (case xl => k_is); (case xc => k_is)
      (case xb => exact L2.us1 (fun _ => rfl))
    have S_e_due_row := by
      refine' L2.meth_mk (m := "row") (qual := "AmountEntry.row") (st := My.s_AmountEntry_row) (ps := ["self"]) a_Due ?xi ?xf ?xk ?xl ?xc ?xb
      (case xi => k_is); (case xf => k_is); (case xk => k_is); (case xl => k_is); (case xc => k_is)
      (case xb => exact L2.us1 (fun _ => rfl))
    have S_e_turn_row := by
      refine' L2.meth_mk (m := "row") (qual := "Entry.row") (st := My.s_Entry_row) (ps := ["self"]) a_Turn ?xi ?xf ?xk ?xl ?xc ?xb
      (case xi => k_is); (case xf => k_is); (case xk => k_is); (case xl => k_is); (case xc => k_is)
      (case xb => exact L2.us1 (fun _ => rfl))
    have S_e_rate_row := by
      refine' L2.meth_mk (m := "row") (qual := "RateEntry.row") (st := My.s_RateEntry_row) (ps := ["self"]) a_Rate ?xi ?xf ?xk ?xl ?xc ?xb
      (case xi => k_is); (case xf => k_is); (case xk => k_is); (case xl => k_is); (case xc => k_is)
      (case xb => exact L2.us1 (fun _ => rfl))
    have S_e_late_row := by
      refine' L2.meth_mk (m := "row") (qual := "RateEntry.row") (st := My.s_RateEntry_row) (ps := ["self"]) a_Late ?xi ?xf ?xk ?xl ?xc ?xb
      (case xi => k_is); (case xf => k_is); (case xk => k_is); (case xl => k_is); (case xc => k_is)
      (case xb => exact L2.us1 (fun _ => rfl))
    have S_e_still_row := by
      refine' L2.meth_mk (m := "row") (qual := "Still.row") (st := My.s_Still_row) (ps := ["self"]) a_Still ?xi ?xf ?xk ?xl ?xc ?xb
      (case xi => k_is); (case xf => k_is); (case xk => k_is); (case xl => k_is); (case xc => k_is)
      (case xb => exact L2.us1 (fun _ => rfl))
    have S_e_base_row := by
      refine' L2.meth_mk (m := "row") (qual := "Entry.row") (st := My.s_Entry_row) (ps := ["self"]) a_Entry ?xi ?xf ?xk ?xl ?xc ?xb
      (case xi => k_is); (case xf => k_is); (case xk => k_is); (case xl => k_is); (case xc => k_is)
      (case xb => exact L2.us1 (fun _ => rfl))
    have S_init_Due := by
      refine' L2.meth_mk (m := "__init__") (qual := "AmountEntry.__init__") (st := My.s_AmountEntry_init) (ps := ["self", "day", "amount"]) a_Due ?xi ?xf ?xk ?xl ?xc ?xb
      (case xi => k_is); (case xf => k_is); (case xk => k_is); (case xl => k_is); (case xc => k_is)
      (case xb => exact L2.us3 (fun _ _ _ => rfl))
    have S_init_Fee := by
      refine' L2.meth_mk (m := "__init__") (qual := "AmountEntry.__init__") (st := My.s_AmountEntry_init) (ps := ["self", "day", "amount"]) a_Fee ?xi ?xf ?xk ?xl ?xc ?xb
      (case xi => k_is); (case xf => k_is); (case xk => k_is); (case xl => k_is); (case xc => k_is)
      (case xb => exact L2.us3 (fun _ _ _ => rfl))
    have S_init_Late := by
      refine' L2.meth_mk (m := "__init__") (qual := "RateEntry.__init__") (st := My.s_RateEntry_init) (ps := ["self", "day", "rate"]) a_Late ?xi ?xf ?xk ?xl ?xc ?xb
      (case xi => k_is); (case xf => k_is); (case xk => k_is); (case xl => k_is); (case xc => k_is)
      (case xb => exact L2.us3 (fun _ _ _ => rfl))
    have S_init_Out := by
      refine' L2.meth_mk (m := "__init__") (qual := "AmountEntry.__init__") (st := My.s_AmountEntry_init) (ps := ["self", "day", "amount"]) a_Out ?xi ?xf ?xk ?xl ?xc ?xb
      (case xi => k_is); (case xf => k_is); (case xk => k_is); (case xl => k_is); (case xc => k_is)
      (case xb => exact L2.us3 (fun _ _ _ => rfl))
    have S_init_Pay := by
      refine' L2.meth_mk (m := "__init__") (qual := "AmountEntry.__init__") (st := My.s_AmountEntry_init) (ps := ["self", "day", "amount"]) a_Pay ?xi ?xf ?xk ?xl ?xc ?xb
      (case xi => k_is); (case xf => k_is); (case xk => k_is); (case xl => k_is); (case xc => k_is)
      (case xb => exact L2.us3 (fun _ _ _ => rfl))
    have S_init_Rate := by
      refine' L2.meth_mk (m := "__init__") (qual := "RateEntry.__init__") (st := My.s_RateEntry_init) (ps := ["self", "day", "rate"]) a_Rate ?xi ?xf ?xk ?xl ?xc ?xb
      (case xi => k_is); (case xf => k_is); (case xk => k_is); (case xl => k_is); (case xc => k_is)
      (case xb => exact L2.us3 (fun _ _ _ => rfl))
    have S_init_Still := by
      refine' L2.meth_mk (m := "__init__") (qual := "Still.__init__") (st := My.s_Still_init) (ps := ["self", "day", "until"]) a_Still ?xi ?xf ?xk ?xl ?xc ?xb
      (case xi => k_is); (case xf => k_is); (case xk => k_is); (case xl => k_is); (case xc => k_is)
      (case xb => exact L2.us3 (fun _ _ _ => rfl))
    have S_init_Turn := by
      refine' L2.meth_mk (m := "__init__") (qual := "Entry.__init__") (st := My.s_Entry_init) (ps := ["self", "day"]) a_Turn ?xi ?xf ?xk ?xl ?xc ?xb
      (case xi => k_is); (case xf => k_is); (case xk => k_is); (case xl => k_is); (case xc => k_is)
      (case xb => exact L2.us2 (fun _ _ => rfl))
    have S_U_Entry_init := by
      refine' L2.unb_mk (m := "__init__") (qual := "Entry.__init__") (st := My.s_Entry_init) (ps := ["self", "day"]) a_Entry ?x1 ?x2 ?x3 ?x4 ?xk ?xl ?xc ?xb
      (case x1 => k_is); (case x2 => k_is); (case x3 => k_is); (case x4 => rfl); (case xk => k_is); (case xl => k_is); (case xc => k_is)
      (case xb => exact L2.us2 (fun _ _ => rfl))
    have x_NoDay := by
      refine' L2.x2_mk a_NoDay ?_
      k_exc
    have x_NoText := by
      refine' L2.x2_mk a_NoText ?_
      k_exc
    have zz_BadEntry := by
      refine' L2.x1_mk a_BadEntry ?_ ?_ ?_ ?_ ?_ ?_ ?_
      all_goals k_is
    have i_BadEntry := by
      refine' L2.x3_mk (qual := "BadEntry.__init__") (st := My.s_init_BadEntry) (ps := ["self", "place"]) a_BadEntry zz_BadEntry ?xl ?xq ?xi ?xf ?xs ?xk ?xfl ?xfc ?xfk ?xhb
      (case xl => k_is); (case xq => k_exc); (case xi => k_is); (case xf => k_is); (case xs => k_is); (case xk => k_is); (case xfl => k_is); (case xfc => k_is); (case xfk => k_is)
      (case xhb => exact L2.us2 (fun _ _ => rfl))
    have p_BadEntry_place := by
      refine' L2.fi_mk (name := "place") a_BadEntry ?_
      k_is
    have e_NoDay_NoDay := by
      refine' L2.exm_mk a_NoDay a_NoDay ?_ ?_ ?_ ?_
      all_goals k_is
    have e_BadEntry_BadEntry := by
      refine' L2.exm_mk a_BadEntry a_BadEntry ?_ ?_ ?_ ?_
      all_goals k_is
    have e_NoText_NoText := by
      refine' L2.exm_mk a_NoText a_NoText ?_ ?_ ?_ ?_
      all_goals k_is
    have z_NoText := by
      refine' L2.x1_mk a_NoText ?_ ?_ ?_ ?_ ?_ ?_ ?_
      all_goals k_is
    have k_NoText_LoanError := by
      refine' L2.kit_mk (v := true) a_NoText a_LoanError ?_
      kit_is
    have k_NoText_BadEntry := by
      refine' L2.kit_mk (v := false) a_NoText a_BadEntry ?_
      kit_is
    have g_FIGURES := by
      refine' L2.gstr_mk (mg := mg) (x := "FIGURES") (i := "0123456789") KX G ?a
      (case a => k_is)
    have g_FIRST_YEAR := by
      refine' L2.gint_mk (mg := mg) (x := "FIRST_YEAR") (i := 2000) KX G ?a
      (case a => k_is)
    have g_LAST_DAY := by
      refine' L2.gint_mk (mg := mg) (x := "LAST_DAY") (i := 999999) KX G ?a
      (case a => k_is)
    have g_LENGTHS := by
      refine' L2.gtup_mk (mg := mg) (x := "LENGTHS") (xs := [.int 31, .int 28, .int 31, .int 30, .int 31, .int 30, .int 31, .int 31, .int 30, .int 31, .int 30, .int 31]) KX G ?a ?l ?r ?z
      (case a => k_is); (case l => k_is)
      (case r => repeat (first | exact .nil | refine .cons ⟨_, rfl⟩ ?_))
      (case z => decide)
    have g_MOST_AMOUNT := by
      refine' L2.gint_mk (mg := mg) (x := "MOST_AMOUNT") (i := 1000000000000) KX G ?a
      (case a => k_is)
    have g_MOST_FIGURES := by
      refine' L2.gint_mk (mg := mg) (x := "MOST_FIGURES") (i := 30) KX G ?a
      (case a => k_is)
    have g_MOST_RATE := by
      refine' L2.gint_mk (mg := mg) (x := "MOST_RATE") (i := 1000000) KX G ?a
      (case a => k_is)
    have g_PART := by
      refine' L2.gint_mk (mg := mg) (x := "PART") (i := 1000000000000000000) KX G ?a
      (case a => k_is)
    have g_PART_FIGURES := by
      refine' L2.gint_mk (mg := mg) (x := "PART_FIGURES") (i := 18) KX G ?a
      (case a => k_is)
    have g_ROUND_DAYS := by
      refine' L2.gint_mk (mg := mg) (x := "ROUND_DAYS") (i := 146097) KX G ?a
      (case a => k_is)
    have g_ROUND_YEARS := by
      refine' L2.gint_mk (mg := mg) (x := "ROUND_YEARS") (i := 400) KX G ?a
      (case a => k_is)
    have g_WORDS := by
      refine' L2.gtup_mk (mg := mg) (x := "WORDS") (xs := [.str "out", .str "fee", .str "turn", .str "pay", .str "due", .str "rate", .str "late", .str "still"]) KX G ?a ?l ?r ?z
      (case a => k_is); (case l => k_is)
      (case r => repeat (first | exact .nil | refine .cons ⟨_, rfl⟩ ?_))
      (case z => decide)
    have S_is_whole := by
      refine' L2.src_mk (mg := mg) (x := "is_whole") (st := My.s_is_whole) (ps := ["thing"]) KX G ?a ?l ?c ?k ?b
      (case a => k_is); (case l => k_is); (case c => k_is); (case k => k_is)
      (case b => exact L2.us1 (fun _ => rfl))
    have S_is_leap := by
      refine' L2.src_mk (mg := mg) (x := "is_leap") (st := My.s_is_leap) (ps := ["year"]) KX G ?a ?l ?c ?k ?b
      (case a => k_is); (case l => k_is); (case c => k_is); (case k => k_is)
      (case b => exact L2.us1 (fun _ => rfl))
    have S_new_year := by
      refine' L2.src_mk (mg := mg) (x := "new_year") (st := My.s_new_year) (ps := ["year"]) KX G ?a ?l ?c ?k ?b
      (case a => k_is); (case l => k_is); (case c => k_is); (case k => k_is)
      (case b => exact L2.us1 (fun _ => rfl))
    have S_has_form := by
      refine' L2.src_mk (mg := mg) (x := "has_form") (st := My.s_has_form) (ps := ["row"]) KX G ?a ?l ?c ?k ?b
      (case a => k_is); (case l => k_is); (case c => k_is); (case k => k_is)
      (case b => exact L2.us1 (fun _ => rfl))
    have S_check_text := by
      refine' L2.src_mk (mg := mg) (x := "check_text") (st := My.s_check_text) (ps := ["thing"]) KX G ?a ?l ?c ?k ?b
      (case a => k_is); (case l => k_is); (case c => k_is); (case k => k_is)
      (case b => exact L2.us1 (fun _ => rfl))
    have S_are_figures := by
      refine' L2.src_mk (mg := mg) (x := "are_figures") (st := My.s_are_figures) (ps := ["text"]) KX G ?a ?l ?c ?k ?b
      (case a => k_is); (case l => k_is); (case c => k_is); (case k => k_is)
      (case b => exact L2.us1 (fun _ => rfl))
    have S_show_whole := by
      refine' L2.src_mk (mg := mg) (x := "show_whole") (st := My.s_show_whole) (ps := ["number"]) KX G ?a ?l ?c ?k ?b
      (case a => k_is); (case l => k_is); (case c => k_is); (case k => k_is)
      (case b => exact L2.us1 (fun _ => rfl))
    have S_two_figures := by
      refine' L2.src_mk (mg := mg) (x := "two_figures") (st := My.s_two_figures) (ps := ["number"]) KX G ?a ?l ?c ?k ?b
      (case a => k_is); (case l => k_is); (case c => k_is); (case k => k_is)
      (case b => exact L2.us1 (fun _ => rfl))
    have S__law_cell_at := by
      refine' L2.src_mk (mg := mg) (x := "_law_cell_at") (st := My.s__law_cell_at) (ps := ["_law_script", "_law_k"]) KX G ?a ?l ?c ?k ?b
      (case a => k_is); (case l => k_is); (case c => k_is); (case k => k_is)
      (case b => exact L2.us2 (fun _ _ => rfl))
    have S__law_draws := by
      refine' L2.src_mk (mg := mg) (x := "_law_draws") (st := My.s__law_draws) (ps := ["_law_cell", "_law_many"]) KX G ?a ?l ?c ?k ?b
      (case a => k_is); (case l => k_is); (case c => k_is); (case k => k_is)
      (case b => exact L2.us2 (fun _ _ => rfl))
    have S__law_leap := by
      refine' L2.src_mk (mg := mg) (x := "_law_leap") (st := My.s__law_leap) (ps := ["_law_year"]) KX G ?a ?l ?c ?k ?b
      (case a => k_is); (case l => k_is); (case c => k_is); (case k => k_is)
      (case b => exact L2.us1 (fun _ => rfl))
    have S__law_two := by
      refine' L2.src_mk (mg := mg) (x := "_law_two") (st := My.s__law_two) (ps := ["_law_number"]) KX G ?a ?l ?c ?k ?b
      (case a => k_is); (case l => k_is); (case c => k_is); (case k => k_is)
      (case b => exact L2.us1 (fun _ => rfl))
    have S__law_value := by
      refine' L2.src_mk (mg := mg) (x := "_law_value") (st := My.s__law_value) (ps := ["_law_word", "_law_day", "_law_xs"]) KX G ?a ?l ?c ?k ?b
      (case a => k_is); (case l => k_is); (case c => k_is); (case k => k_is)
      (case b => exact L2.us3 (fun _ _ _ => rfl))
    have S__law_plain := by
      refine' L2.src_mk (mg := mg) (x := "_law_plain") (st := My.s__law_plain) (ps := ["_law_row_here"]) KX G ?a ?l ?c ?k ?b
      (case a => k_is); (case l => k_is); (case c => k_is); (case k => k_is)
      (case b => exact L2.us1 (fun _ => rfl))
    have S_is_day := by
      refine' L2.src_mk (mg := mg) (x := "is_day") (st := My.s_is_day) (ps := ["thing"]) KX G ?a ?l ?c ?k ?b
      (case a => k_is); (case l => k_is); (case c => k_is); (case k => k_is)
      (case b => exact L2.us1 (fun _ => rfl))
    have S_month_days := by
      refine' L2.src_mk (mg := mg) (x := "month_days") (st := My.s_month_days) (ps := ["year", "month"]) KX G ?a ?l ?c ?k ?b
      (case a => k_is); (case l => k_is); (case c => k_is); (case k => k_is)
      (case b => exact L2.us2 (fun _ _ => rfl))
    have S_year_of := by
      refine' L2.src_mk (mg := mg) (x := "year_of") (st := My.s_year_of) (ps := ["day"]) KX G ?a ?l ?c ?k ?b
      (case a => k_is); (case l => k_is); (case c => k_is); (case k => k_is)
      (case b => exact L2.us1 (fun _ => rfl))
    have S_is_within := by
      refine' L2.src_mk (mg := mg) (x := "is_within") (st := My.s_is_within) (ps := ["thing", "least", "most"]) KX G ?a ?l ?c ?k ?b
      (case a => k_is); (case l => k_is); (case c => k_is); (case k => k_is)
      (case b => exact L2.us3 (fun _ _ _ => rfl))
    have S_read_whole := by
      refine' L2.src_mk (mg := mg) (x := "read_whole") (st := My.s_read_whole) (ps := ["text"]) KX G ?a ?l ?c ?k ?b
      (case a => k_is); (case l => k_is); (case c => k_is); (case k => k_is)
      (case b => exact L2.us1 (fun _ => rfl))
    have S_show_cents := by
      refine' L2.src_mk (mg := mg) (x := "show_cents") (st := My.s_show_cents) (ps := ["cents"]) KX G ?a ?l ?c ?k ?b
      (case a => k_is); (case l => k_is); (case c => k_is); (case k => k_is)
      (case b => exact L2.us1 (fun _ => rfl))
    have S__law_month_size := by
      refine' L2.src_mk (mg := mg) (x := "_law_month_size") (st := My.s__law_month_size) (ps := ["_law_year", "_law_month"]) KX G ?a ?l ?c ?k ?b
      (case a => k_is); (case l => k_is); (case c => k_is); (case k => k_is)
      (case b => exact L2.us2 (fun _ _ => rfl))
    have S__law_shown := by
      refine' L2.src_mk (mg := mg) (x := "_law_shown") (st := My.s__law_shown) (ps := ["_law_number"]) KX G ?a ?l ?c ?k ?b
      (case a => k_is); (case l => k_is); (case c => k_is); (case k => k_is)
      (case b => exact L2.us1 (fun _ => rfl))
    have S__law_row := by
      refine' L2.src_mk (mg := mg) (x := "_law_row") (st := My.s__law_row) (ps := ["_law_cell", "_law_base", "_law_wide"]) KX G ?a ?l ?c ?k ?b
      (case a => k_is); (case l => k_is); (case c => k_is); (case k => k_is)
      (case b => exact L2.us3 (fun _ _ _ => rfl))
    have S_is_date := by
      refine' L2.src_mk (mg := mg) (x := "is_date") (st := My.s_is_date) (ps := ["year", "month", "day"]) KX G ?a ?l ?c ?k ?b
      (case a => k_is); (case l => k_is); (case c => k_is); (case k => k_is)
      (case b => exact L2.us3 (fun _ _ _ => rfl))
    have S_date_of := by
      refine' L2.src_mk (mg := mg) (x := "date_of") (st := My.s_date_of) (ps := ["day"]) KX G ?a ?l ?c ?k ?b
      (case a => k_is); (case l => k_is); (case c => k_is); (case k => k_is)
      (case b => exact L2.us1 (fun _ => rfl))
    have S_is_third := by
      refine' L2.src_mk (mg := mg) (x := "is_third") (st := My.s_is_third) (ps := ["word", "day", "thing"]) KX G ?a ?l ?c ?k ?b
      (case a => k_is); (case l => k_is); (case c => k_is); (case k => k_is)
      (case b => exact L2.us3 (fun _ _ _ => rfl))
    have S_read_coins := by
      refine' L2.src_mk (mg := mg) (x := "read_coins") (st := My.s_read_coins) (ps := ["text"]) KX G ?a ?l ?c ?k ?b
      (case a => k_is); (case l => k_is); (case c => k_is); (case k => k_is)
      (case b => exact L2.us1 (fun _ => rfl))
    have S_show_rate := by
      refine' L2.src_mk (mg := mg) (x := "show_rate") (st := My.s_show_rate) (ps := ["rate"]) KX G ?a ?l ?c ?k ?b
      (case a => k_is); (case l => k_is); (case c => k_is); (case k => k_is)
      (case b => exact L2.us1 (fun _ => rfl))
    have S__law_date := by
      refine' L2.src_mk (mg := mg) (x := "_law_date") (st := My.s__law_date) (ps := ["_law_day"]) KX G ?a ?l ?c ?k ?b
      (case a => k_is); (case l => k_is); (case c => k_is); (case k => k_is)
      (case b => exact L2.us1 (fun _ => rfl))
    have S__law_drawn := by
      refine' L2.src_mk (mg := mg) (x := "_law_drawn") (st := My.s__law_drawn) (ps := ["_law_cell"]) KX G ?a ?l ?c ?k ?b
      (case a => k_is); (case l => k_is); (case c => k_is); (case k => k_is)
      (case b => exact L2.us1 (fun _ => rfl))
    have S_day_of := by
      refine' L2.src_mk (mg := mg) (x := "day_of") (st := My.s_day_of) (ps := ["year", "month", "day"]) KX G ?a ?l ?c ?k ?b
      (case a => k_is); (case l => k_is); (case c => k_is); (case k => k_is)
      (case b => exact L2.us3 (fun _ _ _ => rfl))
    have S_made := by
      refine' L2.src_mk (mg := mg) (x := "made") (st := My.s_made) (ps := ["word", "day", "thing"]) KX G ?a ?l ?c ?k ?b
      (case a => k_is); (case l => k_is); (case c => k_is); (case k => k_is)
      (case b => exact L2.us3 (fun _ _ _ => rfl))
    have S_read_cents := by
      refine' L2.src_mk (mg := mg) (x := "read_cents") (st := My.s_read_cents) (ps := ["text"]) KX G ?a ?l ?c ?k ?b
      (case a => k_is); (case l => k_is); (case c => k_is); (case k => k_is)
      (case b => exact L2.us1 (fun _ => rfl))
    have S_show_date := by
      refine' L2.src_mk (mg := mg) (x := "show_date") (st := My.s_show_date) (ps := ["day"]) KX G ?a ?l ?c ?k ?b
      (case a => k_is); (case l => k_is); (case c => k_is); (case k => k_is)
      (case b => exact L2.us1 (fun _ => rfl))
    have S__law_written := by
      refine' L2.src_mk (mg := mg) (x := "_law_written") (st := My.s__law_written) (ps := ["_law_day"]) KX G ?a ?l ?c ?k ?b
      (case a => k_is); (case l => k_is); (case c => k_is); (case k => k_is)
      (case b => exact L2.us1 (fun _ => rfl))
    have S__law_made := by
      refine' L2.src_mk (mg := mg) (x := "_law_made") (st := My.s__law_made) (ps := ["_law_row_here"]) KX G ?a ?l ?c ?k ?b
      (case a => k_is); (case l => k_is); (case c => k_is); (case k => k_is)
      (case b => exact L2.us1 (fun _ => rfl))
    have S_entry_of := by
      refine' L2.src_mk (mg := mg) (x := "entry_of") (st := My.s_entry_of) (ps := ["row"]) KX G ?a ?l ?c ?k ?b
      (case a => k_is); (case l => k_is); (case c => k_is); (case k => k_is)
      (case b => exact L2.us1 (fun _ => rfl))
    have S_read_rate := by
      refine' L2.src_mk (mg := mg) (x := "read_rate") (st := My.s_read_rate) (ps := ["text"]) KX G ?a ?l ?c ?k ?b
      (case a => k_is); (case l => k_is); (case c => k_is); (case k => k_is)
      (case b => exact L2.us1 (fun _ => rfl))
    have S_read_date := by
      refine' L2.src_mk (mg := mg) (x := "read_date") (st := My.s_read_date) (ps := ["text"]) KX G ?a ?l ?c ?k ?b
      (case a => k_is); (case l => k_is); (case c => k_is); (case k => k_is)
      (case b => exact L2.us1 (fun _ => rfl))
    have S_show_third := by
      refine' L2.src_mk (mg := mg) (x := "show_third") (st := My.s_show_third) (ps := ["word", "thing"]) KX G ?a ?l ?c ?k ?b
      (case a => k_is); (case l => k_is); (case c => k_is); (case k => k_is)
      (case b => exact L2.us2 (fun _ _ => rfl))
    have S__law_text := by
      refine' L2.src_mk (mg := mg) (x := "_law_text") (st := My.s__law_text) (ps := ["_law_row_here"]) KX G ?a ?l ?c ?k ?b
      (case a => k_is); (case l => k_is); (case c => k_is); (case k => k_is)
      (case b => exact L2.us1 (fun _ => rfl))
    have S__law_tail := by
      refine' L2.src_mk (mg := mg) (x := "_law_tail") (st := My.s__law_tail) (ps := ["_law_row_here", "_law_x"]) KX G ?a ?l ?c ?k ?b
      (case a => k_is); (case l => k_is); (case c => k_is); (case k => k_is)
      (case b => exact L2.us2 (fun _ _ => rfl))
    have S_read_third := by
      refine' L2.src_mk (mg := mg) (x := "read_third") (st := My.s_read_third) (ps := ["word", "text"]) KX G ?a ?l ?c ?k ?b
      (case a => k_is); (case l => k_is); (case c => k_is); (case k => k_is)
      (case b => exact L2.us2 (fun _ _ => rfl))
    have S_show_entry := by
      refine' L2.src_mk (mg := mg) (x := "show_entry") (st := My.s_show_entry) (ps := ["entry"]) KX G ?a ?l ?c ?k ?b
      (case a => k_is); (case l => k_is); (case c => k_is); (case k => k_is)
      (case b => exact L2.us1 (fun _ => rfl))
    have S__law_bent := by
      refine' L2.src_mk (mg := mg) (x := "_law_bent") (st := My.s__law_bent) (ps := ["_law_row_here", "_law_words", "_law_xs"]) KX G ?a ?l ?c ?k ?b
      (case a => k_is); (case l => k_is); (case c => k_is); (case k => k_is)
      (case b => exact L2.us3 (fun _ _ _ => rfl))
    have S_read_entry := by
      refine' L2.src_mk (mg := mg) (x := "read_entry") (st := My.s_read_entry) (ps := ["words"]) KX G ?a ?l ?c ?k ?b
      (case a => k_is); (case l => k_is); (case c => k_is); (case k => k_is)
      (case b => exact L2.us1 (fun _ => rfl))
    have S__law_read := by
      refine' L2.src_mk (mg := mg) (x := "_law_read") (st := My.s__law_read) (ps := ["_law_words"]) KX G ?a ?l ?c ?k ?b
      (case a => k_is); (case l => k_is); (case c => k_is); (case k => k_is)
      (case b => exact L2.us1 (fun _ => rfl))
    have S_law := by
      refine' L2.src_mk (mg := mg) (x := "law") (st := My.s_law) (ps := ["_law_script"]) KX G ?a ?l ?c ?k ?b
      (case a => k_is); (case l => k_is); (case c => k_is); (case k => k_is)
      (case b => exact L2.us1 (fun _ => rfl))
    exact ⟨S_law, fun base => My.all_ok (⟨n_abs, n_all, n_bool, n_int, n_isinstance, n_len, n_list, n_max, n_min, n_range, n_reversed, n_str, n_sum, n_tuple, m_BadEntry, m_Due, m_Entry, m_Fee, m_Late, m_LoanError, m_NoDay, m_NoText, m_Out, m_Pay, m_Rate, m_Still, m_Turn, (fun k => match k with | .out => clE_Out | .fee => clE_Fee | .pay => clE_Pay | .due => clE_Due | .turn => clE_Turn | .rate => clE_Rate | .late => clE_Late | .still => clE_Still | .base => clE_Entry), (fun k => match k with | .out => naE_amount_Out | .fee => naE_amount_Fee | .pay => naE_amount_Pay | .due => naE_amount_Due | .turn => naE_amount_Turn | .rate => naE_amount_Rate | .late => naE_amount_Late | .still => naE_amount_Still | .base => naE_amount_Entry), (fun k => match k with | .out => naE_day_Out | .fee => naE_day_Fee | .pay => naE_day_Pay | .due => naE_day_Due | .turn => naE_day_Turn | .rate => naE_day_Rate | .late => naE_day_Late | .still => naE_day_Still | .base => naE_day_Entry), (fun k => match k with | .out => naE_rate_Out | .fee => naE_rate_Fee | .pay => naE_rate_Pay | .due => naE_rate_Due | .turn => naE_rate_Turn | .rate => naE_rate_Rate | .late => naE_rate_Late | .still => naE_rate_Still | .base => naE_rate_Entry), (fun k => match k with | .out => naE_until_Out | .fee => naE_until_Fee | .pay => naE_until_Pay | .due => naE_until_Due | .turn => naE_until_Turn | .rate => naE_until_Rate | .late => naE_until_Late | .still => naE_until_Still | .base => naE_until_Entry), mi_Due, mi_Fee, mi_Late, mi_Out, mi_Pay, mi_Rate, mi_Still, mi_Turn, x_NoDay, x_NoText, i_BadEntry, p_BadEntry_place, e_NoDay_NoDay, e_BadEntry_BadEntry, e_NoText_NoText, z_NoText, k_NoText_LoanError, k_NoText_BadEntry, g_FIGURES, g_FIRST_YEAR, g_LAST_DAY, g_LENGTHS, g_MOST_AMOUNT, g_MOST_FIGURES, g_MOST_RATE, g_PART, g_PART_FIGURES, g_ROUND_DAYS, g_ROUND_YEARS, g_WORDS⟩ : My.Txt _ mg) S_is_whole S_is_leap S_new_year S_has_form S_check_text S_are_figures S_show_whole S_two_figures S__law_cell_at S__law_draws S__law_leap S__law_two S__law_value S__law_plain S_is_day S_month_days S_year_of S_is_within S_read_whole S_show_cents S__law_month_size S__law_shown S__law_row S_is_date S_date_of S_is_third S_read_coins S_show_rate S__law_date S__law_drawn S_day_of S_made S_read_cents S_show_date S__law_written S__law_made S_entry_of S_read_rate S_read_date S_show_third S__law_text S__law_tail S_read_third S_show_entry S__law_bent S_read_entry S__law_read S_law S_e_out_word S_e_fee_word S_e_pay_word S_e_due_word S_e_turn_word S_e_rate_word S_e_late_word S_e_still_word S_e_base_word S_e_out_row S_e_fee_row S_e_pay_row S_e_due_row S_e_turn_row S_e_rate_row S_e_late_row S_e_still_row S_e_base_row S_init_Due S_init_Fee S_init_Late S_init_Out S_init_Pay S_init_Rate S_init_Still S_init_Turn S_U_Entry_init⟩

