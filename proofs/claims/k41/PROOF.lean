import PyProof.Rows.All
import Wide.All
import OpenK.KSplit
import OpenK.KNot
import OpenK.KApp
import KE.KIsAll
import KE.RegKIsAll
import KE.LcSums
import KE.KItem
import KE.KSortTup
import KE.KSortAsk
import KE.KDictOf
import KE.KItemsList
import Wide.FinOn
import Lean
import PyProof.EqAt
import PyProof.EqKinds
import PyProof.TupleCall
import PyProof.Rows.CallKwBuiltin
import KE.KLam
import KE.KSortKey
import PySem.Challenge.RW_loanroll_k41_books_told
import KE.KTryMore
set_option Elab.async false
set_option linter.all false
set_option maxRecDepth 100000
set_option maxHeartbeats 20000000
noncomputable section
set_option genSizeOf false
set_option compiler.extract_closed false
namespace PySem.W.Fast
local macro_rules | `(command| #check [$x,*])=>do
 return Lean.mkNullNode (<-x.getElems.mapM λ x=>`(command| noncomputable def $(Lean.mkIdent (.mkSimple s!"tw{x.raw.isNatLit?.get!}")):ident:=0))
#check [14156406021369676376,17869382584089847645,8217608775432466977,861502493610598483,16011428029765260039,2895464141788373703,10958507122237075249,7777950181485318433,4295534447537059203,11284616107681220019,7774113678449685934,5711620825125641002,5596707715709568816,7865408815302691273,11888710085139899048,4439319140970448188,4529759306923343198,8490095065718275380,9721000390032803332,9076787650804036852,12855510547181587295,206458477050631689,55536753830339475,1696603150406912985,14257035121206530791,14938211915633500526,977887537182713850,3940733116343649955,14575388751658381831,12298192366917762067,1692201390411429781,2046362190076281809,14647417624928369756,17188069144378779261,14560624547652848805,360634875079729221,7181997581385953548,16260866306193365299,15910123707662034135,13366278800048369731,14284835775768690865,10387345722656961088,296083027919845158,17952953904234253443,1835201335921387983,15831126876759372255,10167646349310259628,17016834523296244275,8331849164307833061,15012102849882553082,14961746396406840608,4524658085876675188,11502921971960690029,5992840812097835891,14963028359598502718,2597523674469684444,18004296560267143027,4309217394794523951,14594842627406614536,6420159726195949164,6188973233030003785,16145670418848962200,6548459193220583526,5342471268416680606,9744259246892133002,2132029292895624192,726351398001015727,13313058339493701161,11524815483048965402,4699756791338806529,16902085369446701243,6798380500665416597,14819390147424179368,140236481695663071,3945831679567021610,12132596417379514657,9104974531708491489,13931877327420345601,9536688357841153863,3198059409981156222,651700358538967526,18095796173783872564,17590876675597686902,10510056951384868246,14116014176715886054,13567515925198824819,5662061979359257339,11076892268299887525,12717557048674177747,12727641955093265886,17382457898008728272,11205608169257636508,609457278022895560,5649666937502919571,6526287140368922620,17963105932079019327,14154597600763967237,13367274342830030513,14341141199694864594,8752102160057688731,6851275008772768644,3897268976836264337,13831308528885131752,2078950565319712143,3432194006399707252,2997480634906808460,4884199854448574,5891704040020730945,16626521671886133394,9399754086935153974,11009225556382593827,9113380124883318265,4334401890000744311,13307065042914920193,14036186469904095446,10295913840692754127,17689344090056996911,8924819469995637033,17512793052788017329,6880980288501444468,7478123994339007903,16520785806668781166,8899516883271353254,7350462372000428638,8995945545434573385,6714880395473160397,14995258362815363992,9304451534382375720,9689729476882780088,9977182230042388008,17986951261819808105,12768989823518198380,11468729153070441980,7212858340449540239,12058884036946728934,11368310244458860372,16860917588515726111,4171853373547519906,9495317472360511255,16839002366802243188,14022695629967993375,8737599933303070863,18031968618487185184,12901003280762261817,2941924889016668590,11373181179767321252,13069393092227542028,17852080271459398996,3475869608268796686,15779231459743154856,1825952489489211193,15925456577456769635,13385558918117058561,15214748959534726111,10294078964567370430,9223045988441327695,8833860146974802555,5289818103960998278,15438627641174518403,16248296213531012650,11384182702204212275,3300257896294614128,12314708539913122752,16108870410212019532,6229817132586351632,306047672372848657,10958628066121416707,3726453103677007866,6651725471809605288,12542895121996172375,14689541978594310382,17013487888433625170,10576836333797772347,12297992134047619483,2392593158011319353,7091221385724896812,3233987462203235646,7837367980739423823,4341293187932698999,15499940227032437249,3328118118096588273,12461081396071149458,446995266069924076,12431713363859531893,16766484511958638138,11180800956215176064,8428246938381088814,2172276787581067923,13956191218907399338,6690350156832105676,12921946191010883867,9768418358887946270,354308444213283272,15042883488752021643,8080008513338510535,539538531456391632,1979317910248211280,14172470266813156586,11853640710764476214,8498532028676091811]
#check [2741014181512449073,6170744672141170255,3671519592330383864,11662115353561507501,11481637867367846703,5537553045615171315,12269216009862288129,2144661209622563809,16955839230299176341,6522051377940421278,8997383693586321770,17435391645217708394,10539347186207431242,13996866031312336078,3239113980409921550,4946147512530127568,14607143338591219252,5404398260228975080,14617222483516278133,7501186508268903616,6828597562223498359,11564986514327137767,3543459598558145280,13631397514672939371,9045458381397004210,13710940844802916613,172746767574481773,7046044490832178742,16226643914720891334,17170472223608059050,1293241653719404408,2466311954974566718,8565224436197482051,13348088958985639553,16864618592142003386,2570914705882880060,3365755272349913518,12550775161083096063,2595618661548880785,8232614014015475128,17397653436517662659,6331431999304432861,622995879521568732,4734895289157585001,987426779421491659,18361725300881549022,8909772338491405060,15593559885672580101,12459912946257978736,896878414759379649,10294118229990073760,14564479935002850509,4189273013823423559,4859391219904099992,16217903435359918192,17351735930882485243,15870398105094248349,15805137534098808535,6278996535519779258,17659185236578331656,819570635367399668,14845619989558847073,6162269159774324313,4480162626587320490,2708802028933385196,8736506791609843793,13788375583471885543,9501610304058242746,14594121865129679737,12991707099607933795,9823988804889866712,2353497105660221152,5702276774652866934,1986786360949550309,18407495941553956032,2827255003249426055,16409965706819354750,3641951560692057861,5438652380644606353,3042748168174471775,18101783494082082527,13215348057498601715,6208910965292489261,7424060955962978353,4906484309439969231,8374155422468719031,3382625519597670723,2386784164831690217,5960047855520388891,2261719852989239553,11962351593759143498,2990168724187919761,12382822922155266910,18418582437962087742,10988312798546598065,1835071406663858368,547895379624588593,599730875272715187,12740759652641322565,8047209995159408440,9404705873571188630,5002640475654186023,15235614512728720,8535803893964050539,3985964047577975286,12468840222048715292,14664691819916384248,6105849179199505303,16636501806038632012,8431482922422412695,12738610918357793766,18310463660012746435,4860023922305330110,14454166528178196959,13343918040275786880,16109456028575089023,727553628536289456,14553807712399142462,8919978131948313185,2314633323536394700,5459702643516471331,5037459499596335280,17937168697417666835,9381626543082597023,5395340147747708899,7374399212775623666,6194202620331982285,9592300441314626372,14993981098963755598,14760874974797668852,15541240446876304647,13135312941875745310,14935156969734317764,3300454383303005205,12884060626414724322,2474200967059427378,17267597263503486738,14219159868682941630,14398111036562950334,16902440903046159558,9615563845995560447,87601786513091389,10282777137419654623,16120054744476736488,17410218998227585676,2694234056635809718,14520296925931582552,11421057715548341654,16298917771340976007,11095110211248682772,12887044766017154078,16723463757517087524,18094105663378112561,17163426234232328066,6248682570935725439,4772062507164038959,4290864757253303354,7933485763601977624,14935467056822913822,9972681490609642005,17760279517084355780,17312402878845073609,4051853165826885262,4408816720484365081,2708214617527550399,17271881437230615512,7764699552788554220,8115137120850386438,16035376269474964883,991626836265849350,12250869413391326473,9860861378791804195,12125097214300078407,2810200551564342888,7900394595670775223,14611616552423853409,16005714805435085966,4903002758410956813,12132732476715806282,16531682779099013679,12627051441459223148,3335794202401238526,11489344026974618541,8996207646774452837,13601115934706021691,17883462748017686043,14577027041581768965,14404928986312190071,7231845647793152400,8274446707539698164,8166255043249204926,3592811809046731828,699815216081779126,18124618509676941091,7220529860990300233,12369848792361866835,6125853113672642322,6408400580700104982,3433779192033484610,5010956058597451964]
#check [6145912378217320015,4493901809537577575,8865387616306378214,4561898282857576226,15702583709834301711,5137589814051832496,12954591660760965231,14847308668706973960,16053306600634468012,12747814925858328940,12843764043397292189,4938610541543285704,10910644110388302437,2400638427578300857,14226173905949225808,28018229315631829,2692750590507578028,8222940686941784037,429539710256275620,1725486776273817318,16822532161544500889,8171798328758944481,4683681711962371626,6702445572142316249,12138319994727072339,1717767836212652739,15402603294489630176,14061609134260724683,2187251505897268136,4026147355466621588,17483705464198625004,15240619367488684849,14387916025512776202,5890639436620234070,1000662321505670351,5994696166404524948,2931988195819169919,977512076041815475,3049343062529576306,11153475782318119604,9646623106273453227,11513857634932158529,6607644564249050058,1956260828630720203,3374319085511977134,3953844824629472508,15539815450414544023,13861969467909019144,18146532975450069615,7164969610272591079,6056707288978253535,5323657890516693427,11907897558876765624,2135409205425526673,2527701527901579348,523537741815420091,4096438862311573950,14592624751514493413,16493865465440409018,16003985067176294414,17590705303994421779,9197174079833555027,15142666989864626641,938635154573522699,14800370929953404514,11219443903484984970,13622603851894308203,17862349074038704544,13257283266767686631,15978794797337165890,4971374062829452455,11525993766095887173,11161164713144168021,14859695947638507448,8392358500681263680,18328257000508772394,890339118813698166,5622701340561072331,9947508896943372755,14537775516033599862,11024694936033576346,1342123614928995077,15166322114958858414,16721508838639397229,10159399881129095643,8157277791214410489,4548300405975405348,8297923619242306668,3270257207059953099,17292613610259460706,2107523057676978006,1915925776726481438,10470340158578859262,5449601097390414333,3801850119919557013,10611411778653204182,17338325484393633139,5444512763150141072,16682895059504647277,4039707410889071942,14703100239697439463,5217270863462422736,11066385474520676512,11434409910335936926,13705283562680751584,643336161829623379,18335596039185421423,10374632558016547081,17817366049700826239,10888863842102328177,12798174099139212305,4635989785427082552,16746677531222629524,13298828918039433023,9848817304349107530,9317495090193701157,4323258101793500111,17691633702590694504,4382473104129494423,9201617497623189827,4186743451310774866,1158361714356455011,5101696844757716304,561727478393794602,18003772858949239459,13557862171009465336,12099505692703838030,7538781388859322016,628631919661052299,12549542988036985293,6128145076113358165,3778530596728393105,1937721966566455358,8319933024895762948,2015444344454546412,17318462890700432884,740290905518256060,12147665669636231765,9461873434466728008,896239598344801917,18105302477358141223,4849480874435393781,11212356425047092601,11823594873375168262,17260811203177919210,15227483606004533461,140001813534094272,4063829332388037331,13674586047789940208,1198783387198779033,3681537716864247207,5874822333441161849,3581434408401558974,14801369171006070438,12772213712371865176,6631347999910079877,13444670453868202053,3419001889969749887,12770481643036789091,258204147387103276,7943549864190904611,8318101203651539667,13160504802963445071,2789304352393801511,13757698761724263525,6557801498797044033,17214186515701724070,4804111812005502284,9806118890596472461,1891733041441978011,1205274952441263945,17613222154834848340,13462424878891718212,10876078143196172821,4075453323654395381,2646887283097553488,5872530126848033075,17658959251048325594,256976265262469064,13812277999558781770,772564365185477556,14391293386007564604,2455152089536381482,1207101557538958131,14727194681476072466,7921390202802761869,866717566613908145,9919008367099125623,10624116801336726872,7480016910919988345,13669536469129627823,14903569129155370506,18400553757987027518,1142673529048489019,15554417296805563061,8219003486749837733,2950685276103557050,7217548393331319763,17518593693041627797,3303267245142563540]
#check [9630203353718772412,5072417060200589145,15895094517606616290,13547939009206843870,12917704675397863716,18073898193381586223,13053770412826190925,10842938092177581297,4953865588907285216,2295934692909999376,16654469307462801742,6549852094080907030,17334828202450815106,16756451883985382160,4547051000311932777,1840220198017710270,14842496431369740429,13421457143807847188,15590096980072825465,1467881925912835984,16873086082458093902,3215387988796971590,9331231397406362311,2483420100392427323,3238445694619138142,16279288168775177219,7485256538410118956,16753820520455620202,10161179621583223854,1864683662541468164,6542358382571353910,3235425350174046738]
end PySem.W.Fast
set_option maxHeartbeats 0 in
open_top hd for PySem.Challenge.rw_loanroll_k41_books_told
local macro_rules | `(tactic| walk_at "o") => `(tactic| first | lia | omega)
local macro_rules | `(tactic| ac_rfl)=>`(tactic| walk_at "o")
open List renaming getElem?_eq_getElem→yaa,length_map→yab,getD_eq_getElem?_getD→yac,getElem?_eq_some_iff→yad,replicate→yae,length_append→yaf,mem_append_right→yag,mem_of_getElem?→yah,mem_cons_self→yai,mem_cons_of_mem→yaj,mem_cons→yak,mem_append→yal,getElem?_map→yam,size_toArray→yan,mem_map→yao,mem_filter→yap,getElem?_eq_none→yaq,filter_cons_of_pos→yar,filter_cons_of_neg→yas,length_filter_le→yat,take_of_length_le→yau,mem_append_left→yav,mem_iff_getElem→yaw,length_replicate→yax,pairwise_iff_getElem→yay,filter_append→yaz,map_append→yba,range→ybb,length_take→ybc,length_cons→ybd,not_mem_nil→ybe,take_add_one→ybf,map_map→ybg,mem_singleton→ybh,replicate_succ→ybi,toArray→ybj,getElem?_append_right→ybk,pairwise_cons→ybl,nodup_cons→ybm,getElem?_append_left→ybn,map_congr_left→ybo,length_singleton→ybp,mem_iff_getElem?→ybq,pairwise_append→ybr,pairwise_singleton→ybs,map_cons→ybt,length_drop→ybu,mem_map_of_mem→ybv,mem_filterMap→ybw,lookup→ybx,mem_replicate→yby,getElem?_replicate→ybz,flatten_cons→yca,length_eq_zero_iff→ycb,ext_getElem?→ycc,filterMap_cons→ycd,find?_cons_of_pos→yce,find?_cons_of_neg→ycf,getElem?_range→ycg,length_take_le→ych,getElem_mem→yci,filter_eq_nil_iff→ycj,foldl_cons→yck,sum_cons→ycl,pairwise_map→ycm,getElem?_set_ne→ycn,mem_of_mem_take→yco,mem_of_mem_drop→ycp,getElem_map→ycq,any_eq_true→ycr,length_reverse→ycs,any_cons→yct
open Nat renaming le_refl→ycu,ne_of_lt→ycv,lt_of_lt_of_le→ycw,lt_of_le_of_lt→ycx,zero_le→ycy,le_trans→ycz,lt_irrefl→yda,lt_succ_self→ydb,lt_succ_of_lt→ydc,ne_of_gt→ydd,lt_trans→yde,le_succ→ydf,lt_trichotomy→ydg,le_succ_of_le→ydh,le_of_lt→ydi,sub_self→ydj
open PySem.Heap renaming get?_push_of_some→ydk,lt_size→ydl,get?_push_size→ydm,get?_update_other→ydn,get?_update_self→ydo,get?_update_ne→ydp,size_push→ydq,get?_none_of_le→ydr
open Int renaming emod_lt_of_pos→yds,emod_nonneg→ydt,le_refl→ydu
open Array renaming length_toList→ydv,getElem?_eq_getElem→ydw,getD_eq_getD_getElem?→ydx,getElem?_toList→ydy,getD→ydz
namespace L2
open PySem PySem.Spec PyProof.Rows
noncomputable abbrev Key:=Sum Int Str
noncomputable def zq3:Key->Value->Bool
 | .inl k,v=>Value.isInt k v
 | .inr x,v=>Value.isStrOf x v
noncomputable def ztY (w:World):Key->Int
 | .inl k=>hashInt k
 | .inr x=>hashStr w x
theorem zaJ:∀ {k:Key} {v:Value},zq3 k v=true->(∃ i t,k=Sum.inl i/\v=Value.int i t)\/(∃ x t,k=Sum.inr x/\v=Value.str x t)
 | .inl i,v,h=>by
  obtain ⟨t,e⟩:=Value.isInt_shape (k:=i) (v:=v) h
  exact .inl ⟨i,t,rfl,e⟩
 | .inr x,v,h=>by
  obtain ⟨t,e⟩:=Value.isStrOf_shape (x:=x) (v:=v) h
  exact .inr ⟨x,t,rfl,e⟩
theorem zsP (a b:Int):decide ((Sum.inl a:Key)=Sum.inl b)=(a == b):=by
 by_cases e:a=b
 ·subst e;simp
 ·have h:¬ (Sum.inl a:Key)=Sum.inl b:=fun q=>e (Sum.inl.inj q)
  rw[decide_eq_false h]
  exact (beq_eq_false_iff_ne.mpr e).symm
theorem zsj (a b:Str):decide ((Sum.inr a:Key)=Sum.inr b)=decide (a=b):=by
 by_cases e:a=b
 ·subst e;simp
 ·have h:¬ (Sum.inr a:Key)=Sum.inr b:=fun q=>e (Sum.inr.inj q)
  rw[decide_eq_false h,decide_eq_false e]
theorem zsE (a:Int) (b:Str):decide ((Sum.inl a:Key)=Sum.inr b)=false:=decide_eq_false (fun q=>nomatch q)
theorem zsH (a:Str) (b:Int):decide ((Sum.inr a:Key)=Sum.inl b)=false:=decide_eq_false (fun q=>nomatch q)
noncomputable def zrA (prog:Program) (w:World):PySem.KeyKind prog w Key where
 is:=zq3
 hash:=ztY w
 inj:=fun v a b ha hb=>by
  rcases zaJ ha with ⟨i,t,rfl,rfl⟩ | ⟨x,t,rfl,rfl⟩
  ·rcases zaJ hb with ⟨j,u,rfl,e⟩ | ⟨y,u,rfl,e⟩
   ·injection e with e1 _;rw[e1]
   ·exact nomatch e
  ·rcases zaJ hb with ⟨j,u,rfl,e⟩ | ⟨y,u,rfl,e⟩
   ·exact nomatch e
   ·injection e with e1 _;rw[e1]
 byValue:=fun k v h=>by
  rcases zaJ h with ⟨i,t,rfl,rfl⟩ | ⟨x,t,rfl,rfl⟩ <;> rfl
 pyHash:=fun hv h=>by
  rcases zaJ hv with ⟨i,t,rfl,rfl⟩ | ⟨x,t,rfl,rfl⟩
  ·exact wpAny_pyHash_int h
  ·exact wpAny_pyHash_str h
 eqBool:=fun hu hv h=>by
  rcases zaJ hu with ⟨i,t,rfl,rfl⟩ | ⟨x,t,rfl,rfl⟩
  ·rcases zaJ hv with ⟨j,u,rfl,rfl⟩ | ⟨y,u,rfl,rfl⟩
   ·rw[zsP] at h;exact wpAny_eqBool_int h
   ·rw[zsE] at h;exact SeqAt.EqAt.int_str i t y u _ _ _ _ h
  ·rcases zaJ hv with ⟨j,u,rfl,rfl⟩ | ⟨y,u,rfl,rfl⟩
   ·rw[zsH] at h;exact SeqAt.EqAt.str_int x t j u _ _ _ _ h
   ·rw[zsj] at h;exact wpAny_eqBool_str h
 «strs»:=fun k x t v h=>by
  rcases zaJ h with ⟨i,u,rfl,e⟩ | ⟨y,u,rfl,e⟩
  ·exact nomatch e
  ·injection e with e1 _
   subst e1
   cases v <;> rfl
inductive V where
 | non | bl (b:Bool) | int (i:Int) | str (x:Str) | byt (b:Array UInt8) | flt (b:UInt64) | ref (a:Addr) | ty (n:String)
 deriving DecidableEq
noncomputable def RelV:V->Value->Prop
 | .non,u=>u=Value.none
 | .bl b,u=>u=Value.bool b
 | .int i,u=>∃ t,u=Value.int i t
 | .str x,u=>∃ t,u=Value.str x t
 | .byt b,u=>∃ t,u=Value.bytes b t
 | .flt b,u=>∃ t,u=Value.float b t
 | .ref a,u=>u=Value.ref a
 | .ty n,u=>u=Value.type n
noncomputable abbrev Vals:List V->List Value->Prop:=Paired RelV
theorem Vals.length {xs:List V} {us:List Value} (r:Vals xs us):xs.length=us.length:=Paired.length r
theorem Vals.get:∀ {xs:List V} {us:List Value} {i:Nat} {x:V},Vals xs us->xs[i]?=some x->∃ u,us[i]?=some u/\RelV x u
 | _,_,_,_,.nil,e=>by simp at e
 | _,_,0,_,.cons r _,e=>by simp at e;subst e;exact ⟨_,rfl,r⟩
 | _,_,i+1,x,.cons _ t,e=>by
  obtain ⟨u,h1,h2⟩:=Vals.get (i:=i) (x:=x) t (by simpa using e)
  exact ⟨u,by simpa using h1,h2⟩
theorem Vals.set {x:V} {u:Value} (r:RelV x u):∀ {xs:List V} {us:List Value} (i:Nat),Vals xs us->Vals (xs.set i x) (us.set i u)
 | _,_,_,.nil=>.nil
 | _,_,0,.cons _ t=>.cons r t
 | _,_,i+1,.cons q t=>.cons q (Vals.set r i t)
theorem Vals.append:∀ {xs ys:List V} {us ws:List Value},Vals xs us->Vals ys ws->Vals (xs++ys) (us++ws)
 | _,_,_,_,.nil,s=>s
 | _,_,_,_,.cons r t,s=>.cons r (Vals.append t s)
theorem Vals.take:∀ {xs:List V} {us:List Value} (n:Nat),Vals xs us->Vals (xs.take n) (us.take n)
 | _,_,0,_=>.nil
 | _,_,_+1,.nil=>.nil
 | _,_,n+1,.cons r t=>.cons r (Vals.take n t)
theorem Vals.drop:∀ {xs:List V} {us:List Value} (n:Nat),Vals xs us->Vals (xs.drop n) (us.drop n)
 | _,_,0,r=>r
 | _,_,_+1,.nil=>.nil
 | _,_,n+1,.cons _ t=>Vals.drop n t
noncomputable def zgc:Option V->Option Value->Prop
 | some v,some u=>RelV v u
 | none,none=>True
 | _,_=>False
noncomputable def KV {κ:Type}:List (κ × V)->List (κ × Value)->Prop:=Paired fun (p:κ × V) (q:κ × Value)=>p.1=q.1/\RelV p.2 q.2
inductive HO where
 /-- a list -/
 | lst (xs:List V)
 /-- a tuple (never changes) -/
 | tup (xs:List V)
 /-- a dict whose keys are ints and texts;one whose keys are tuples of ints and texts (the empty one is both) -/
 | dK (kvs:List (Key × V))
 /-- a set of ints: its members,its size -/
 | set (S:Int->Bool) (n:Nat)
 /-- an instance of the class at C,its dict at dx,its attributes -/
 | ins (C dx:Addr) (fs:List (Str × V))
 /-- the dict of the instance at x -/
 | own (x:Addr)
 /-- the dict of an exception -/
 | xd (fs:List (Str × V))
 /-- a bound method,f of x -/
 | met (f x:Addr)
 /-- a range object lo,lo+1,.. below hi -/
 | rng (lo hi:Int)
 /-- a thing that is known to the object (the script;a dict while a loop walks it): read,never written while it is so -/
 | frz (o:Obj) (u:HO)
 /-- a code object's table -/
 | tbl (ps:Array Value)
 /-- any other thing,by what is true of its one object (a def of one's own: zov a S n:=HO.ext fun h=>..) -/
 | ext (φ:Heap->Prop)
noncomputable abbrev Hp:=Addr->Option HO
noncomputable def upd (H:Hp) (a:Addr) (o:HO):Hp:=fun b=>if b=a then some o else H b
theorem ze {H:Hp} {a:Addr} {o:HO}:upd H a o a=some o:=by unfold upd;rw[if_pos rfl]
theorem zi {H:Hp} {a b:Addr} {o:HO} (h:b≠a):upd H a o b=H b:=by unfold upd;rw[if_neg h]
theorem zam {H:Hp} {a:Addr} {o u:HO}:upd (upd H a o) a u=upd H a u:=by
 funext b;unfold upd;split <;> rfl
theorem zaj {H:Hp} {a b:Addr} {o u:HO} (h:H a=some o) (h':H b=some u) (d:o≠u):a≠b:=by
 intro e;subst e;rw[h] at h';exact d (Option.some.inj h')
theorem zU {H:Hp} {a b:Addr} {o:HO} (h:H a=some o) (h':H b=none):a≠b:=by
 intro e;subst e;rw[h] at h';cases h'
section
variable (P:Program) (w:World)
noncomputable def zad (H:Hp) (h:Heap) (a:Addr):HO->Prop
 | .lst xs=>xs.length<=sizeLine/\∃ (its:List Value) (n:Nat),Vals xs its/\h.get? a=some { cls:=.type "list", data:=.seq its.toArray n }
 | .tup xs=>xs.length<=sizeLine/\∃ its:List Value,Vals xs its/\IsTup h a its.toArray
 | .dK kvs=>kvs.length<=sizeLine/\(a == sysModules)=false/\∃ vs,KV kvs vs/\h.DictOf (zrA P w) a vs
 | .set S n=>h.SetOf (intKind P w) a S n
 | .ins C dx fs=>H dx=some (.own a)/\fs.length<=1000/\dx≠a/\h.get? a=some (PySem.W.instObj C dx) /\
   ∃ mA,h.Ns1 dx mA/\(∀ f,zgc (fs.lookup f) (mA f))/\PySem.Within mA (fs.map (·.1))
 | .own _=>∃ o,h.get? a=some o
 | .xd fs=>∃ mA,h.Ns1 a mA/\∀ f,zgc (fs.lookup f) (mA f)
 | .rng lo hi=>∃ t u v,h.get? a=some { cls:=.type "range", data:=.fields #[.int lo t,.int hi u,.int 1 v] }
 | .frz o u=>h.get? a=some o/\zad H h a u
 | .tbl ps=>h.get? a=some { cls:=.none,data:=.fields ps }
 | .met f x=>h.get? a=some (PySem.W.methodObj (.ref f) (.ref x))
 | .ext φ=>φ h/\(∃ o,h.get? a=some o)/\∀ h1 h2:Heap,φ h1->(∀ o,h1.get? a=some o->h2.get? a=some o)->φ h2
def HOk (H:Hp) (h:Heap):Prop:=∀ a o,H a=some o->zad P w H h a o
end
section
variable {P:Program} {w:World} {H H':Hp} {h h':Heap} {a:Addr} {o:HO}
theorem zad.lt (x:zad P w H h a o):a<h.objs.size:=by
 cases o with
 | lst xs=>obtain ⟨_,_,_,_,e⟩:=x;exact ydl e
 | tup xs=>obtain ⟨_,_,_,p⟩:=x;exact p.lt
 | dK kvs=>obtain ⟨_,_,_,_,o,_,_,e,_⟩:=x;exact ydl e
 | set S n=>obtain ⟨o,_,_,_,e,_⟩:=x;exact ydl e
 | ins C dx fs=>obtain ⟨_,_,_,e,_⟩:=x;exact ydl e
 | own y=>obtain ⟨_,e⟩:=x;exact ydl e
 | xd fs=>obtain ⟨_,⟨_,_,_,e,_⟩,_⟩:=x;exact ydl e
 | rng lo hi=>obtain ⟨_,_,_,e⟩:=x;exact ydl e
 | frz ob u=>obtain ⟨e,_⟩:=x;exact ydl e
 | tbl ps=>exact ydl (show h.get? a=some _ from x)
 | met f y=>exact ydl (show h.get? a=some _ from x)
 | ext φ=>obtain ⟨_,⟨_,e⟩,_⟩:=x;exact ydl e
theorem zad.stay (x:zad P w H h a o) (k:∀ b u,(b=a\/H b=some (.own a))->h.get? b=some u->h'.get? b=some u)
  (ho:∀ b,H b=some (.own a)->H' b=some (.own a)) (ht:∀ b xs,H b=some (.tup xs)->H' b=some (.tup xs)):zad P w H' h' a o:=by
 induction o with
 | lst xs=>obtain ⟨z,its,n,r,e⟩:=x;exact ⟨z,its,n,r,k _ _ (.inl rfl) e⟩
 | tup xs=>obtain ⟨z,its,r,ob,e,c⟩:=x;exact ⟨z,its,r,ob,k _ _ (.inl rfl) e,c⟩
 | dK kvs=>obtain ⟨z,y,vs,r,ob,es,ep,e,c⟩:=x;exact ⟨z,y,vs,r,ob,es,ep,k _ _ (.inl rfl) e,c⟩
 | set S n=>obtain ⟨ob,es,ep,t,e,c⟩:=x;exact ⟨ob,es,ep,t,k _ _ (.inl rfl) e,c⟩
 | ins C dx fs =>
  obtain ⟨d,z,ne,e,mA,⟨od,es,ep,e2,c⟩,r⟩:=x
  exact ⟨ho _ d,z,ne,k _ _ (.inl rfl) e,mA,⟨od,es,ep,k _ _ (.inr d) e2,c⟩,r⟩
 | own y=>obtain ⟨ob,e⟩:=x;exact ⟨ob,k _ _ (.inl rfl) e⟩
 | xd fs=>obtain ⟨mA,⟨od,es,ep,e,c⟩,r⟩:=x;exact ⟨mA,⟨od,es,ep,k _ _ (.inl rfl) e,c⟩,r⟩
 | rng lo hi=>obtain ⟨t,u,v,e⟩:=x;exact ⟨t,u,v,k _ _ (.inl rfl) e⟩
 | frz ob u ih=>obtain ⟨e,q⟩:=x;exact ⟨k _ _ (.inl rfl) e,ih q⟩
 | tbl ps =>
  have e:h.get? a=some { cls:=.none,data:=.fields ps }:=x
  show h'.get? a=some { cls:=.none,data:=.fields ps }
  exact k a _ (.inl rfl) e
 | met f y =>
  have e:h.get? a=some (PySem.W.methodObj (.ref f) (.ref y)):=x
  show h'.get? a=some (PySem.W.methodObj (.ref f) (.ref y))
  exact k a _ (.inl rfl) e
 | ext φ=>obtain ⟨p,⟨o,e⟩,st⟩:=x;exact ⟨st _ _ p fun o q=>k _ _ (.inl rfl) q,⟨o,k _ _ (.inl rfl) e⟩,st⟩
theorem HOk.lt (x:HOk P w H h) (e:H a=some o):a<h.objs.size:=(x a o e).lt
theorem HOk.fresh (x:HOk P w H h) (e:h.objs.size<=a):H a=none:=by
 cases q:H a with
 | none=>rfl
 | some u=>exact absurd (ycw (x.lt q) e) (yda _)
theorem HOk.kept (x:HOk P w H h) (k:∀ b u,h.get? b=some u->h'.get? b=some u):HOk P w H h':=fun a o e =>
 (x a o e).stay (fun b u _ q=>k b u q) (fun _ q=>q) fun _ _ q=>q
theorem HOk.laid (x:HOk P w H h) (k:∀ b u,h.get? b=some u->h'.get? b=some u) (hp:h.objs.size<=a) (new:zad P w (upd H a o) h' a o):HOk P w (upd H a o) h':=fun b u e=>by
 have hn:=x.fresh hp
 by_cases hb:b=a
 ·subst hb;rw[ze] at e;cases e;exact new
 ·rw[zi hb] at e
  exact (x b u e).stay (fun c v _ q=>k c v q) (fun c q=>by rw[zi (zU q hn)];exact q) fun c xs q=>by rw[zi (zU q hn)];exact q
end
def Rd (H:Hp) (a:Addr) (u:HO):Prop:=H a=some u\/∃ o,H a=some (.frz o u)
theorem Rd.ok {P:Program} {w:World} {H:Hp} {h:Heap} {a:Addr} {u:HO} (r:Rd H a u) (x:HOk P w H h):zad P w H h a u:=by
 rcases r with r | ⟨o,r⟩
 ·exact x a u r
 ·obtain ⟨_,q⟩:=x a _ r
  exact q
noncomputable def Mut:Option HO->Prop
 | some (.lst _)=>True
 | some (.dK _)=>True
 | some (.set _ _)=>True
 | some (.ins _ _ _)=>True
 | some (.ext _)=>True
 | _=>False
section
variable {P:Program} {w:World} {H:Hp} {h h':Heap} {x e:Addr} {o':HO}
theorem HOk.write (ok:HOk P w H h) (mu:Mut (H x)) (he:e=x\/H e=some (.own x)) (k:∀ b u,b≠e->h.get? b=some u->h'.get? b=some u) (heo:∃ u,h'.get? e=some u)
  (new:zad P w (upd H x o') h' x o'):HOk P w (upd H x o') h':=fun b u q=>by
 have nown:∀ c y,H c=some (.own y)->c≠x:=fun c y r z=>by subst z;rw[r] at mu;exact mu
 have ntup:∀ c xs,H c=some (.tup xs)->c≠x:=fun c xs r z=>by subst z;rw[r] at mu;exact mu
 by_cases hb:b=x
 ·subst hb;rw[ze] at q;cases q;exact new
 ·rw[zi hb] at q
  by_cases hbe:b=e
  ·have q':H b=some (.own x):=by
    rcases he with z | z
    ·exact absurd (hbe.trans z) hb
    ·rw[hbe];exact z
   rw[q] at q';cases q'
   obtain ⟨v,hv⟩:=heo
   exact ⟨v,by rw[hbe];exact hv⟩
  ·refine (ok b u q).stay (fun c v hc r=>k c v ?_ r) (fun c r=>by rw[zi (nown c b r)];exact r) fun c xs r=>by rw[zi (ntup c xs r)];exact r
   rcases hc with rfl | hc
   ·exact hbe
   ·rintro rfl
    rcases he with z | z
    ·exact nown c b hc z
    ·rw[hc] at z;cases z;exact hb rfl
end
set_option genInjectivity false
structure Un (fs ex:List Addr) (H H':Hp) (h h':Heap):Prop where
 keep:∀ b o,h.get? b=some o->H b=none->b ∉ fs->b ∉ ex->h'.get? b=some o
 slot:∀ b o,h.get? b=some o->H b=none->b∈fs->b ∉ ex->∃ sl,h'.get? b=some { o with slots:=sl }
 free:∀ b o,h.get? b=some o->H b=none->b ∉ ex->H' b=none
 there:∀ b o,h.get? b=some o->b ∉ ex->∃ o',h'.get? b=some o'
 tups:∀ b xs,H b=some (.tup xs)->H' b=some (.tup xs)
 frzs:∀ b o u,H b=some (.frz o u)->H' b=some (.frz o u)
 tbls:∀ b ps,H b=some (.tbl ps)->∃ more,H' b=some (.tbl (ps++more))
section
variable {fs fs' ex ex':List Addr} {H H1 H2:Hp} {h h1 h2 h':Heap} {a x e:Addr} {o:HO}
theorem Un.any (u:Un fs ex H H1 h h1) {b:Addr} {ob:Obj} (q:h.get? b=some ob) (n:H b=none) (hx:b ∉ ex):∃ sl,h1.get? b=some { ob with slots:=sl }:=by
 by_cases hb:b∈fs
 ·exact u.slot b ob q n hb hx
 ·exact ⟨ob.slots,u.keep b ob q n hb hx⟩
theorem Un.kept (k:∀ b u,h.get? b=some u->h'.get? b=some u):Un fs ex H H h h' :=
 ⟨fun b ob q _ _ _=>k b ob q,fun b ob q _ _ _=>⟨ob.slots,k b ob q⟩,fun _ _ _ n _=>n,fun b ob q _=>⟨ob,k b ob q⟩,fun _ _ q=>q,fun _ _ _ q=>q,fun _ ps q=>⟨#[],by rw[q];simp⟩⟩
theorem Un.refl:Un fs ex H H h h:=Un.kept fun _ _ q=>q
theorem Un.laid (k:∀ b u,h.get? b=some u->h'.get? b=some u) (hp:h.objs.size<=a) (hn:H a=none):Un fs ex H (upd H a o) h h' where
 keep:=fun b u q _ _ _=>k b u q
 slot:=fun b u q _ _ _=>⟨u.slots,k b u q⟩
 free:=fun b u q n _=>by rw[zi (ycv (ycw (ydl q) hp))];exact n
 there:=fun b u q _=>⟨u,k b u q⟩
 tups:=fun b xs q=>by rw[zi (zU q hn)];exact q
 frzs:=fun b u xs q=>by rw[zi (zU q hn)];exact q
 tbls:=fun b ps q=>⟨#[],by rw[zi (zU q hn),q];simp⟩
theorem Un.write (mu:Mut (H x)) (he:e=x\/H e=some (.own x)) (k:∀ b u,b≠e->h.get? b=some u->h'.get? b=some u) (heo:∃ u,h'.get? e=some u):Un fs ex H (upd H x o) h h':=by
 have hx:∀ b,H b=none->b≠x:=fun b n z=>by subst z;rw[n] at mu;exact mu
 have hb:∀ b,H b=none->b≠e:=fun b n z=>by
  subst z
  rcases he with r | r
  ·exact hx b n r
  ·rw[n] at r;cases r
 have hm:∀ b u,H b=some u->¬ Mut (some u)->b≠x:=fun b u q nm z=>by subst z;rw[q] at mu;exact nm mu
 refine ⟨fun b u q n _ _=>k b u (hb b n) q,fun b u q n _ _=>⟨u.slots,k b u (hb b n) q⟩,fun b u q n _=>by rw[zi (hx b n)];exact n,fun b u q _=>?_,
  fun b xs q=>by rw[zi (hm b _ q fun z=>z)];exact q,fun b u xs q=>by rw[zi (hm b _ q fun z=>z)];exact q,fun b ps q=>⟨#[],by rw[zi (hm b _ q fun z=>z),q];simp⟩⟩
 by_cases hbe:b=e
 ·subst hbe;exact heo
 ·exact ⟨u,k b u hbe q⟩
end
noncomputable def trk (h:Heap) (H:Hp):List Addr:=(ybb h.objs.size).filter fun a=>(H a).isSome
noncomputable def zfd (h:Heap) (H:Hp):Heap:=PySem.W.hideAll h (trk h H)
theorem zpj (h:Heap) (H:Hp):(zfd h H).objs.size=h.objs.size:=PySem.W.hideAll_size _ _
theorem zlN {h:Heap} {H:Hp} {b:Addr} {o:Obj} (e:h.get? b=some o) (n:H b=none):(zfd h H).get? b=some o :=
 PySem.W.hideAll_get _ e fun hm=>by
  have q:(H b).isSome=true:=(yap.mp hm).2
  rw[n] at q;simp at q
theorem zrT {h:Heap} {H:Hp} {b:Addr} {o:Obj} (e:(zfd h H).get? b=some o):h.get? b=some o/\H b=none:=by
 have e':h.get? b=some o:=PySem.W.of_hideAll (trk h H) e
 refine ⟨e',?_⟩
 cases q:H b with
 | none=>rfl
 | some x =>
  have hm:b∈trk h H:=yap.mpr ⟨List.mem_range.mpr (ydl e'),by simp[q]⟩
  have z:(zfd h H).get? b=none:=PySem.W.hideAll_none (trk h H) hm
  rw[z] at e;cases e
noncomputable def zrq (g h:Heap) (L:Addr):List (Addr × Obj):=(ybb h.objs.size).filterMap fun a=>if a=L\/(g.get? a).isSome=true then none else (h.get? a).map fun o=>(a,o)
noncomputable def rest (g h:Heap) (L d:Addr):List (Addr × Obj):=(zrq g h L).filter fun p=>decide (p.1≠d)
structure Mod (K:W.Frag) (mg:Str->Option Value) (base:Heap):Prop where
 kin:K.In base
 glob:base.Ns mainGlobals mg
 blt:∃ mb,base.Ns builtinsNs mb/\∀ x:Str,x ≠ "__name__" -> mb x=bootBuiltins x
 nolimit:base.NoLimit
structure Cx where
 prog:Program
 w:World
 K:W.Frag
 mg:Str->Option Value
 base:Heap
 A:Around
 N:List Str
 s₀:Shared
 H₀:Hp
 env:Env
 outer:List Env
 stack:List Env
 ex:List Addr
 fn:Str->Bool
 calm:Bool
 pn:List (Addr × Obj)
 xe:Value->Shared->Prop
noncomputable def frs (l:List Env):List Addr:=l.filterMap (·.frame)
noncomputable abbrev Cx.fs (X:Cx):List Addr:=frs X.outer
def Vis (sc:Scope) (x:Str):Prop:=sc.names.lookup x=some .local\/sc.names.lookup x=some .cell\/sc.names.lookup x=some .free
def Loc (sc:Scope) (x:Str):Prop:=sc.names.lookup x=some .local\/sc.names.lookup x=some .cell
def Look (env:Env) (h:Heap) (m:Str->Option Value) (x:Str) (u:Value):Prop :=
 (env.kindOf x=some .local/\m x=some u)\/((env.kindOf x=some .cell\/env.kindOf x=some .free)/\∃ c,env.cells.lookup x=some c/\h.IsCell c (some u))
structure Cx.Ok (X:Cx):Prop where
 mod:Mod X.K X.mg X.base
 kind:X.env.scope.kind=.function
 glob:X.env.globals=mainGlobals
 blt:X.env.builtins=builtinsNs
 above:X.s₀.heap.objs.size<=X.env.locals
 inj:∀ x y c,X.env.cells.lookup x=some c->X.env.cells.lookup y=some c->x=y
 has:∀ x,(X.env.kindOf x=some .cell\/X.env.kindOf x=some .free)->∃ c,X.env.cells.lookup x=some c
 cab:∀ x c,X.fn x=true->X.env.cells.lookup x=some c->X.s₀.heap.objs.size<=c
 hd:X.calm=true->X.A.handled=none
 frames:X.A.frames=some X.stack
 stk:X.stack=X.outer\/(X.stack=X.env::X.outer/\X.env.frame=some X.env.locals)
 exf:∀ b∈X.ex,b≠X.env.locals/\∀ x c,X.env.cells.lookup x=some c->c≠b
 bs:∀ b o,X.base.get? b=some o->X.s₀.heap.get? b=some o/\X.H₀ b=none
 bsz:X.base.objs.size<=X.s₀.heap.objs.size
 noex:∀ b o,X.base.get? b=some o->b ∉ X.ex
 exfs:∀ b∈X.ex,b ∉ X.fs
 funs:X.s₀.heap.FunFrames X.base X.outer
 frf:∀ b∈X.fs,X.H₀ b=none
structure Inv (X:Cx) (pins:List (Addr × Obj)) (σ:List (Option V)) (H:Hp) (s:Shared):Prop where
 ok:X.Ok
 os:s.os=X.s₀.os
 bare:AllBare s.gens
 base:Un X.fs X.ex X.H₀ H X.s₀.heap s.heap
 loc:∃ m,s.heap.Ns X.env.locals m/\∀ (i:Nat) (x:Str) (v:V),X.N[i]?=some x->σ[i]?=some (some v)->Vis X.env.scope x->∃ u,RelV v u/\Look X.env s.heap m x u
 cell:∀ x c,X.env.cells.lookup x=some c->∃ v,s.heap.IsCell c v
 free:H X.env.locals=none
 freeC:∀ x c,X.env.cells.lookup x=some c->H c=none
 pin:∀ p∈X.pn++pins,s.heap.get? p.1=some p.2/\H p.1=none/\p.1≠X.env.locals/\p.1 ∉ X.fs/\∀ v,p.2.data≠.cell v
 hok:HOk X.prog X.w H s.heap
 len:σ.length=X.N.length
section
variable {X:Cx} {pins:List (Addr × Obj)} {σ:List (Option V)} {H H':Hp} {s:Shared} {h':Heap}
theorem Cx.Ok.nofr (ok:X.Ok) {b:Addr} {o:Obj} (e:X.base.get? b=some o):b ∉ X.fs:=fun hb=>by
 have:=(ok.funs.mem hb).1
 rw[e] at this;cases this
theorem Inv.bs (I:Inv X pins σ H s):∀ b o,X.base.get? b=some o->s.heap.get? b=some o/\H b=none:=fun b o e =>
 ⟨I.base.keep b o (I.ok.bs b o e).1 (I.ok.bs b o e).2 (I.ok.nofr e) (I.ok.noex b o e),I.base.free b o (I.ok.bs b o e).1 (I.ok.bs b o e).2 (I.ok.noex b o e)⟩
theorem Inv.bk (I:Inv X pins σ H s):∀ b o,X.base.get? b=some o->s.heap.get? b=some o:=fun b o e=>(I.bs b o e).1
theorem Inv.mod (I:Inv X pins σ H s):Mod X.K X.mg X.base:=I.ok.mod
theorem Inv.kIn (I:Inv X pins σ H s):X.K.In s.heap:=I.ok.mod.kin.keeps I.bk
theorem Inv.nolimit (I:Inv X pins σ H s):s.heap.NoLimit:=I.ok.mod.nolimit.keeps I.bk
theorem Inv.lt (I:Inv X pins σ H s):X.env.locals<s.heap.objs.size:=let ⟨_,hn,_⟩:=I.loc;hn.lt
theorem Inv.sz (I:Inv X pins σ H s):X.s₀.heap.objs.size<=s.heap.objs.size:=ycz I.ok.above (ydi I.lt)
theorem Inv.nofs (I:Inv X pins σ H s) {a:Addr} (h:s.heap.objs.size<=a):a ∉ X.fs:=fun hb=>by
 obtain ⟨_,o,ho,_⟩:=I.ok.funs.mem hb
 exact absurd (ycw (ydl ho) (ycz I.sz h)) (yda _)
theorem Inv.cne (I:Inv X pins σ H s):∀ x c,X.env.cells.lookup x=some c->c≠X.env.locals:=fun x c e z=>by
 obtain ⟨v,o,ho,hd⟩:=I.cell x c e
 obtain ⟨m,⟨o',es,ep,ho',hd',_⟩,_⟩:=I.loc
 rw[z,ho'] at ho;cases ho;rw[hd'] at hd;cases hd
theorem Inv.funs (I:Inv X pins σ H s):s.heap.FunFrames X.base X.outer:=by
 have all:∀ (l:List Env),(∀ b∈frs l,b∈X.fs)->X.s₀.heap.FunFrames X.base l->s.heap.FunFrames X.base l:=by
  intro l
  induction l with
  | nil=>intro _ _;trivial
  | cons env r ih =>
   intro hs hl
   obtain ⟨hk,⟨L,o,hf,hn,ho,hd⟩,hr⟩:=hl
   have hL:L∈X.fs:=hs L (by unfold frs;rw[ycd,hf];exact yai)
   obtain ⟨sl,e⟩:=I.base.slot L o ho (I.ok.frf L hL) hL fun z=>I.ok.exfs L z hL
   exact ⟨hk,⟨L,_,hf,hn,e,hd⟩,ih (fun b hb=>hs b (by unfold frs;rw[ycd,hf];exact yaj _ hb)) hr⟩
 exact all X.outer (fun _ hb=>hb) I.ok.funs
theorem Inv.stack (I:Inv X pins σ H s):s.heap.FunFrames X.base X.stack:=by
 rcases I.ok.stk with e | ⟨e,hf⟩
 ·rw[e];exact I.funs
 ·rw[e]
  obtain ⟨m,hn,_⟩:=I.loc
  refine .cons (by rw[I.ok.kind];decide) hf hn ?_ I.funs
  exact ydr (ycz I.ok.bsz I.ok.above)
theorem Inv.zbQ (I:Inv X pins σ H s):∀ b∈frs X.stack,b∈X.env.locals::X.fs:=fun b hb=>by
 rcases I.ok.stk with e | ⟨e,hf⟩
 ·rw[e] at hb;exact yaj _ hb
 ·rw[e] at hb
  unfold frs at hb
  rw[ycd,hf] at hb
  exact hb
theorem Inv.zh2 (I:Inv X pins σ H s):∀ b∈frs X.stack,H b=none:=fun b hb=>by
 rcases yak.mp (I.zbQ b hb) with e | hb
 ·rw[e];exact I.free
 ·obtain ⟨_,o,ho,_⟩:=I.ok.funs.mem hb
  exact I.base.free b o ho (I.ok.frf b hb) fun z=>I.ok.exfs b z hb
theorem Inv.step {g':Array GenState} {t':Nat} {d':Drawn} {ch:List Addr} (I:Inv X pins σ H s)
  (hch:∀ b∈ch,(b∈X.ex\/X.s₀.heap.objs.size<=b)/\b≠X.env.locals/\(∀ x c,X.env.cells.lookup x=some c->c≠b)/\∀ p∈X.pn++pins,p.1≠b)
  (keep:∀ b o,b≠X.env.locals->b ∉ X.fs->b ∉ ch->s.heap.get? b=some o->H b=none->h'.get? b=some o)
  (slot:∀ b o,b≠X.env.locals->b∈X.fs->b ∉ ch->s.heap.get? b=some o->H b=none->∃ sl,h'.get? b=some { o with slots:=sl }) (free:∀ b o,b ∉ ch->s.heap.get? b=some o->H b=none->H' b=none)
  (there:∀ b o,b ∉ ch->s.heap.get? b=some o->∃ o',h'.get? b=some o')
  (tups:∀ b xs,H b=some (.tup xs)->H' b=some (.tup xs)) (frzs:∀ b o u,H b=some (.frz o u)->H' b=some (.frz o u)) (tbls:∀ b ps,H b=some (.tbl ps)->∃ more,H' b=some (.tbl (ps++more)))
  (ns:∀ m,s.heap.Ns X.env.locals m->h'.Ns X.env.locals m) (hok:HOk X.prog X.w H' h') (hg:AllBare g') :
  Inv X pins σ H' { s with heap:=h',gens:=g',drawn:=d',toks:=t' }:=by
 have neL:∀ b o,X.s₀.heap.get? b=some o->b≠X.env.locals:=fun b o e=>ycv (ycw (ydl e) I.ok.above)
 have neC:∀ b o,X.s₀.heap.get? b=some o->b ∉ X.ex->b ∉ ch:=fun b o e hx hb=>by
  rcases (hch b hb).1 with z | z
  ·exact hx z
  ·exact absurd (ycw (ydl e) z) (yda _)
 have cellK:∀ x c,X.env.cells.lookup x=some c->∀ v,s.heap.IsCell c v->h'.IsCell c v:=fun x c e v ⟨o,ho,hd⟩=>by
  have nch:c ∉ ch:=fun z=>(hch c z).2.2.1 x c e rfl
  by_cases hc:c∈X.fs
  ·obtain ⟨sl,q⟩:=slot c o (I.cne x c e) hc nch ho (I.freeC x c e)
   exact ⟨_,q,hd⟩
  ·exact ⟨o,keep c o (I.cne x c e) hc nch ho (I.freeC x c e),hd⟩
 refine ⟨I.ok,I.os,hg,⟨fun b o e n hb hx=>?_,fun b o e n hb hx=>?_,fun b o e n hx=>?_,fun b o e hx=>?_,fun b xs e=>tups b xs (I.base.tups b xs e),fun b o xs e=>frzs b o xs (I.base.frzs b o xs e),fun b ps e=>?_⟩,?_,fun x c e=>?_,?_,fun x c e=>?_,fun p hp=>?_,hok,I.len⟩
 ·exact keep b o (neL b o e) hb (neC b o e hx) (I.base.keep b o e n hb hx) (I.base.free b o e n hx)
 ·obtain ⟨sl,e1⟩:=I.base.slot b o e n hb hx
  obtain ⟨sl',e2⟩:=slot b _ (neL b o e) hb (neC b o e hx) e1 (I.base.free b o e n hx)
  exact ⟨sl',e2⟩
 ·obtain ⟨o',e1⟩:=I.base.there b o e hx
  exact free b o' (neC b o e hx) e1 (I.base.free b o e n hx)
 ·obtain ⟨o',e1⟩:=I.base.there b o e hx
  exact there b o' (neC b o e hx) e1
 ·obtain ⟨m1,e1⟩:=I.base.tbls b ps e
  obtain ⟨m2,e2⟩:=tbls b _ e1
  exact ⟨m1++m2,by rw[e2,Array.append_assoc]⟩
 ·obtain ⟨m,hn,hl⟩:=I.loc
  refine ⟨m,ns m hn,fun i x v e1 e2 e3=>?_⟩
  obtain ⟨u,r,l⟩:=hl i x v e1 e2 e3
  refine ⟨u,r,?_⟩
  rcases l with l | ⟨k,c,e,z⟩
  ·exact .inl l
  ·exact .inr ⟨k,c,e,cellK x c e _ z⟩
 ·obtain ⟨v,z⟩:=I.cell x c e
  exact ⟨v,cellK x c e v z⟩
 ·obtain ⟨m,⟨o,_,_,ho,_⟩,_⟩:=I.loc
  exact free _ o (fun z=>(hch _ z).2.1 rfl) ho I.free
 ·obtain ⟨v,o,ho,hd⟩:=I.cell x c e
  exact free c o (fun z=>(hch c z).2.2.1 x c e rfl) ho (I.freeC x c e)
 ·obtain ⟨e,n,ne,nf,d⟩:=I.pin p hp
  have nch:p.1 ∉ ch:=fun z=>(hch p.1 z).2.2.2 p hp rfl
  exact ⟨keep p.1 p.2 ne nf nch e n,free p.1 p.2 nch e n,ne,nf,d⟩
theorem Inv.un {t':Nat} (I:Inv X pins σ H s) (u:Un X.fs [] H H' s.heap h') (hok:HOk X.prog X.w H' h'):Inv X pins σ H' { s with heap:=h',toks:=t' }:=by
 obtain ⟨m,⟨o,es,ep,ho,r⟩,_⟩:=id I.loc
 obtain ⟨sl,hL⟩:=u.any ho I.free (by simp)
 exact I.step (g':=s.gens) (d':=s.drawn) (ch:=[]) (fun _ z=>nomatch z) (fun b o _ hb _ e n=>u.keep b o e n hb (by simp)) (fun b o _ hb _ e n=>u.slot b o e n hb (by simp)) (fun b o _ e n=>u.free b o e n (by simp)) (fun b o _ e=>u.there b o e (by simp)) u.tups u.frzs u.tbls (fun m' hm=>by
  obtain ⟨o',es',ep',ho',r'⟩:=hm
  rw[ho] at ho';cases ho'
  exact ⟨_,es',ep',hL,r'⟩) hok I.bare
theorem Inv.call {g':Array GenState} {t':Nat} {d':Drawn} {ch:List Addr} (I:Inv X pins σ H s) (u:Un (frs X.stack) ch H H' s.heap h') (hok:HOk X.prog X.w H' h') (hg:AllBare g')
  (hch:∀ b∈ch,(b∈X.ex\/X.s₀.heap.objs.size<=b)/\b≠X.env.locals/\(∀ x c,X.env.cells.lookup x=some c->c≠b)/\∀ p∈X.pn++pins,p.1≠b) :
  Inv X pins σ H' { s with heap:=h',gens:=g',drawn:=d',toks:=t' }:=by
 obtain ⟨m,⟨o,es,ep,ho,r⟩,_⟩:=id I.loc
 obtain ⟨sl,hL⟩:=u.any ho I.free fun z=>(hch _ z).2.1 rfl
 exact I.step (ch:=ch) hch (fun b o hL hb hc e n=>u.keep b o e n (fun z=>(yak.mp (I.zbQ b z)).elim hL hb) hc) (fun b o _ _ hc e n=>u.any e n hc) (fun b o hc e n=>u.free b o e n hc) (fun b o hc e=>u.there b o e hc) u.tups u.frzs u.tbls (fun m' hm=>by
  obtain ⟨o',es',ep',ho',r'⟩:=hm
  rw[ho] at ho';cases ho'
  exact ⟨_,es',ep',hL,r'⟩) hok hg
theorem Inv.turned {t':Nat} {it:Addr} (I:Inv X pins σ H s) (k:∀ b o,b≠it->s.heap.get? b=some o->h'.get? b=some o) (hn:H it=none) (hL:it≠X.env.locals)
  (h1:it∈X.ex\/X.s₀.heap.objs.size<=it) (h2:∀ x c,X.env.cells.lookup x=some c->c≠it) (h3:∀ p∈X.pn++pins,p.1≠it):Inv X pins σ H { s with heap:=h',toks:=t' }:=by
 have nit:∀ b u,H b=some u->b≠it:=fun b u e z=>by rw[z,hn] at e;cases e
 refine I.step (g':=s.gens) (d':=s.drawn) (ch:=[it]) (fun b hb=>?_) (fun b o _ _ hc e _=>k b o (fun z=>hc (by simp[z])) e) (fun b o _ _ hc e _=>⟨o.slots,k b o (fun z=>hc (by simp[z])) e⟩) (fun _ _ _ _ n=>n)
  (fun b o hc e=>⟨o,k b o (fun z=>hc (by simp[z])) e⟩) (fun _ _ e=>e) (fun _ _ _ e=>e) (fun b ps e=>⟨#[],by rw[e];simp⟩) (fun m hm=>?_) (fun b u e=>?_) I.bare
 ·have e:b=it:=by simpa using hb
  subst e
  exact ⟨h1,hL,h2,h3⟩
 ·obtain ⟨o,es,ep,ho,r⟩:=hm
  exact ⟨o,es,ep,k _ o (Ne.symm hL) ho,r⟩
 ·refine (I.hok b u e).stay (fun c v hc q=>k c v ?_ q) (fun _ q=>q) fun _ _ q=>q
  rcases hc with z | z
  ·rw[z];exact nit b u e
  ·exact nit c _ z
theorem Inv.tok (I:Inv X pins σ H s) (t:Nat):Inv X pins σ H { s with toks:=t }:=I.un (h':=s.heap) (t':=t) Un.refl I.hok
theorem Inv.kept {t':Nat} (I:Inv X pins σ H s) (k:∀ b u,s.heap.get? b=some u->h'.get? b=some u):Inv X pins σ H { s with heap:=h',toks:=t' }:=I.un (Un.kept k) (I.hok.kept k)
theorem Inv.laid {a:Addr} {o:HO} {t':Nat} (I:Inv X pins σ H s) (k:∀ b u,s.heap.get? b=some u->h'.get? b=some u) (hp:s.heap.objs.size<=a) (new:zad X.prog X.w (upd H a o) h' a o) :
  Inv X pins σ (upd H a o) { s with heap:=h',toks:=t' }:=I.un (Un.laid k hp (I.hok.fresh hp)) (I.hok.laid k hp new)
theorem Inv.write {x e:Addr} {o:HO} {t':Nat} (I:Inv X pins σ H s) (mu:Mut (H x)) (he:e=x\/H e=some (.own x)) (k:∀ b u,b≠e->s.heap.get? b=some u->h'.get? b=some u) (heo:∃ u,h'.get? e=some u)
  (new:zad X.prog X.w (upd H x o) h' x o):Inv X pins σ (upd H x o) { s with heap:=h',toks:=t' }:=I.un (Un.write mu he k heo) (I.hok.write mu he k heo new)
theorem Inv.zjU {pins':List (Addr × Obj)} (I:Inv X pins σ H s) (h:∀ p∈pins',s.heap.get? p.1=some p.2/\H p.1=none/\p.1≠X.env.locals/\p.1 ∉ X.fs/\∀ v,p.2.data≠.cell v):Inv X pins' σ H s :=
 ⟨I.ok,I.os,I.bare,I.base,I.loc,I.cell,I.free,I.freeC,fun p hp=>(yal.mp hp).elim (fun z=>I.pin p (yav _ z)) (h p),I.hok,I.len⟩
theorem zmf {N:List Str} (hN:N.Nodup) {i j:Nat} {x:Str} (a:N[i]?=some x) (b:N[j]?=some x):i=j:=by
 obtain ⟨h1,e1⟩:=yad.mp a
 obtain ⟨h2,e2⟩:=yad.mp b
 exact (List.getElem_inj hN).mp (e1.trans e2.symm)
theorem zoW {M:Model} {A:Around} {E:Value->Shared->Prop} {i:Nat} {x:Str} {v:V} {u:Value} {Q:Unit->Shared->Prop} (I:Inv X pins σ H s) (hN:X.N.Nodup) (hi:X.N[i]?=some x) (hx:Loc X.env.scope x) (r:RelV v u)
  (h:∀ s',Inv X pins (σ.set i (some v)) H s'->(∃ a,Heap.SameBut a s.heap s'.heap/\(a=X.env.locals\/X.env.cells.lookup x=some a))->Q () s') (hf:X.fn x=true\/X.env.scope.names.lookup x=some .local:=by first | exact .inl rfl | exact .inr rfl | assumption):wpAny M A (storeName X.env x u) Q E s:=by
 obtain ⟨m,hn,hl⟩:=id I.loc
 have hcls:(X.env.scope.kind == .class || (X.env.scope.kind == .module && X.env.locals != X.env.globals))=false:=by rw[I.ok.kind];rfl
 have hiσ:i<σ.length:=by rw[I.len];exact (yad.mp hi).1
 have cne:=I.cne
 have tracked:∀ {a:Addr} {h':Heap},(∃ o,s.heap.get? a=some o/\H a=none)->Heap.SameBut a s.heap h'->HOk X.prog X.w H h':=fun {a h'} ha hs b ob e=>by
  obtain ⟨_,_,hfree⟩:=ha
  refine (I.hok b ob e).stay (fun c w' hc q=>(hs.2 c ?_).trans q) (fun _ q=>q) fun _ _ q=>q
  rintro rfl
  rcases hc with rfl | hc
  ·rw[hfree] at e;cases e
  ·rw[hfree] at hc;cases hc
 rcases hx with hk | hk
 ·refine wpAny_storeName_local hk hn (fun h' hn' hs=>?_) hcls
  obtain ⟨oL,_,_,hoL,_⟩:=id hn
  refine h _ ⟨I.ok,I.os,I.bare,⟨fun b o e n hb hx=>?_,fun b o e n hb hx=>?_,I.base.free,fun b o e hx=>?_,I.base.tups,I.base.frzs,I.base.tbls⟩,⟨_,hn',fun j y v' e1 e2 e3=>?_⟩,fun y c e=>?_,I.free,I.freeC,fun p hp=>?_,tracked ⟨oL,hoL,I.free⟩ hs,by simpa using I.len⟩ ⟨_,hs,.inl rfl⟩
  ·exact (hs.2 b (ycv (ycw (ydl e) I.ok.above))).trans (I.base.keep b o e n hb hx)
  ·obtain ⟨sl,e1⟩:=I.base.slot b o e n hb hx
   exact ⟨sl,(hs.2 b (ycv (ycw (ydl e) I.ok.above))).trans e1⟩
  ·obtain ⟨o',e1⟩:=I.base.there b o e hx
   exact ⟨o',(hs.2 b (ycv (ycw (ydl e) I.ok.above))).trans e1⟩
  ·by_cases hj:j=i
   ·subst hj
    rw[hi] at e1;cases e1
    rw[List.getElem?_set_self hiσ] at e2
    cases e2
    exact ⟨u,r,.inl ⟨hk,by simp⟩⟩
   ·rw[ycn (Ne.symm hj)] at e2
    obtain ⟨u',r',q⟩:=hl j y v' e1 e2 e3
    refine ⟨u',r',?_⟩
    rcases q with ⟨k,e⟩ | ⟨k,c,e,z⟩
    ·refine .inl ⟨k,?_⟩
     have:y≠x:=fun e=>hj (zmf hN e1 (e ▸ hi))
     simp[this,e]
    ·exact .inr ⟨k,c,e,z.sameBut hs (cne y c e)⟩
  ·obtain ⟨w',z⟩:=I.cell y c e
   exact ⟨w',z.sameBut hs (cne y c e)⟩
  ·obtain ⟨e,n,ne,nf,d⟩:=I.pin p hp
   exact ⟨(hs.2 p.1 ne).trans e,n,ne,nf,d⟩
 ·have hfn:X.fn x=true:=by
   rcases hf with z | z
   ·exact z
   ·rw[z] at hk;cases hk
  obtain ⟨c,hc⟩:=I.ok.has x (.inl hk)
  obtain ⟨w',z⟩:=I.cell x c hc
  refine wpAny_storeName_cell I.ok.kind hk hc z (fun h' hc' hs=>?_)
  obtain ⟨oc,hoc,hocd⟩:=id z
  refine h { s with heap:=h' } ⟨I.ok,I.os,I.bare,⟨fun b o e n hb hx=>?_,fun b o e n hb hx=>?_,I.base.free,fun b o e hx=>?_,I.base.tups,I.base.frzs,I.base.tbls⟩,⟨m,hn.sameBut hs (Ne.symm (cne x c hc)),fun j y v' e1 e2 e3=>?_⟩,fun y c' e=>?_,I.free,I.freeC,fun p hp=>?_,tracked ⟨oc,hoc,I.freeC x c hc⟩ hs,by simpa using I.len⟩ ⟨c,hs,.inr hc⟩
  ·exact (hs.2 b (ycv (ycw (ydl e) (I.ok.cab x c hfn hc)))).trans (I.base.keep b o e n hb hx)
  ·obtain ⟨sl,e1⟩:=I.base.slot b o e n hb hx
   exact ⟨sl,(hs.2 b (ycv (ycw (ydl e) (I.ok.cab x c hfn hc)))).trans e1⟩
  ·obtain ⟨o',e1⟩:=I.base.there b o e hx
   exact ⟨o',(hs.2 b (ycv (ycw (ydl e) (I.ok.cab x c hfn hc)))).trans e1⟩
  ·by_cases hj:j=i
   ·subst hj
    rw[hi] at e1;cases e1
    rw[List.getElem?_set_self hiσ] at e2
    cases e2
    exact ⟨u,r,.inr ⟨.inl hk,c,hc,hc'⟩⟩
   ·rw[ycn (Ne.symm hj)] at e2
    obtain ⟨u',r',q⟩:=hl j y v' e1 e2 e3
    refine ⟨u',r',?_⟩
    rcases q with q | ⟨k,c',e,z'⟩
    ·exact .inl q
    ·refine .inr ⟨k,c',e,z'.sameBut hs ?_⟩
     rintro rfl
     exact hj (zmf hN e1 (I.ok.inj _ _ _ e hc ▸ hi))
  ·by_cases hcc:c'=c
   ·subst hcc;exact ⟨_,hc'⟩
   ·obtain ⟨w2,z2⟩:=I.cell y c' e
    exact ⟨w2,z2.sameBut hs hcc⟩
  ·obtain ⟨e,n,ne,nf,d⟩:=I.pin p hp
   refine ⟨(hs.2 p.1 ?_).trans e,n,ne,nf,d⟩
   intro q
   rw[q,hoc] at e
   have q':oc=p.2:=Option.some.inj e
   exact d w' (by rw[<-q'];exact hocd)
theorem ziG {M:Model} {A:Around} {E:Value->Shared->Prop} {i:Nat} {x:Str} {v:V} {u:Value} {Q:Unit->Shared->Prop} (I:Inv X pins σ H s) (hN:X.N.Nodup) (hi:X.N[i]?=some x) (hx:Loc X.env.scope x) (r:RelV v u)
  (h:∀ s',Inv X pins (σ.set i (some v)) H s'->Q () s') (hf:X.fn x=true\/X.env.scope.names.lookup x=some .local:=by first | exact .inl rfl | exact .inr rfl | assumption):wpAny M A (storeName X.env x u) Q E s :=
 zoW I hN hi hx r (fun s' I' _=>h s' I') hf
theorem Inv.call' {s':Shared} {ch:List Addr} (I:Inv X pins σ H s) (ho:s'.os=s.os) (u:Un (frs X.stack) ch H H' s.heap s'.heap) (hok:HOk X.prog X.w H' s'.heap) (hg:AllBare s'.gens)
  (hch:∀ b∈ch,(b∈X.ex\/X.s₀.heap.objs.size<=b)/\b≠X.env.locals/\(∀ x c,X.env.cells.lookup x=some c->c≠b)/\∀ p∈X.pn++pins,p.1≠b):Inv X pins σ H' s':=by
 obtain ⟨h',g',d',t',o'⟩:=s'
 have e:o'=s.os:=ho
 subst e
 exact I.call (g':=g') (t':=t') (d':=d') u hok hg hch
end
noncomputable abbrev XK:=Value->Option Addr->Hp->Prop
noncomputable abbrev St:=List (Option V)
noncomputable abbrev VK:=V->Hp->Prop
noncomputable abbrev TE:=St->Hp->VK->Prop
noncomputable abbrev TT:=St->Hp->(Bool->Hp->Prop)->Prop
noncomputable abbrev TA:=St->Hp->(List V->Hp->Prop)->Prop
structure Ends where
 nx:St->Hp->Prop
 rt:VK
 bk:St->Hp->Prop:=fun _ _=>False
 ct:St->Hp->Prop:=fun _ _=>False
noncomputable abbrev TS:=Ends->St->Hp->Prop
def EP (X:Cx) (pins:List (Addr × Obj)) (σ:St) (Q:VK) (u:Value) (s':Shared):Prop:=∃ v H',Inv X pins σ H' s'/\RelV v u/\Q v H'
def TP (X:Cx) (pins:List (Addr × Obj)) (σ:St) (Q:Bool->Hp->Prop) (b:Bool) (s':Shared):Prop:=∃ H',Inv X pins σ H' s'/\Q b H'
def AP (X:Cx) (pins:List (Addr × Obj)) (σ:St) (Q:List V->Hp->Prop) (us:List Value) (s':Shared):Prop:=∃ vs H',Inv X pins σ H' s'/\Vals vs us/\Q vs H'
def SP (X:Cx) (pins:List (Addr × Obj)) (D:Ends) (f:Flow) (s':Shared):Prop :=
 match f with
 | .next=>∃ σ' H',Inv X pins σ' H' s'/\D.nx σ' H'
 | .brk=>∃ σ' H',Inv X pins σ' H' s'/\D.bk σ' H'
 | .cont=>∃ σ' H',Inv X pins σ' H' s'/\D.ct σ' H'
 | .ret u=>∃ v σ' H',Inv X pins σ' H' s'/\RelV v u/\D.rt v H'
def PE (X:Cx) (e:Expr) (t:TE):Prop :=
 ∀ (pins:List (Addr × Obj)) (s:Shared) (σ:St) (H:Hp) (Q:VK),Inv X pins σ H s->t σ H Q->wpAny (model X.prog X.w) X.A (eval e X.env) (EP X pins σ Q) X.xe s
def PT (X:Cx) (e:Expr) (t:TT):Prop :=
 ∀ (pins:List (Addr × Obj)) (s:Shared) (σ:St) (H:Hp) (Q:Bool->Hp->Prop),Inv X pins σ H s->t σ H Q->wpAny (model X.prog X.w) X.A (isTrue e X.env (eval e X.env)) (TP X pins σ Q) X.xe s
def PW (X:Cx) (e:Expr) (t:TT):Prop :=
 ∀ (whole:Sem Value) (pins:List (Addr × Obj)) (s:Shared) (σ:St) (H:Hp) (Q:Bool->Hp->Prop),Inv X pins σ H s->t σ H Q->wpAny (model X.prog X.w) X.A (isTrue e X.env whole) (TP X pins σ Q) X.xe s
theorem PW.pt {X:Cx} {e:Expr} {t:TT} (h:PW X e t):PT X e t:=h _
def PA (X:Cx) (es:List Expr) (t:TA):Prop :=
 ∀ (pos:Pos) (pins:List (Addr × Obj)) (s:Shared) (σ:St) (H:Hp) (Q:List V->Hp->Prop),Inv X pins σ H s->t σ H Q->wpAny (model X.prog X.w) X.A (spliced (backTo pos (starEach es X.env))) (AP X pins σ Q) X.xe s
def PS (X:Cx) (st:Stmt) (t:TS):Prop :=
 ∀ (pins:List (Addr × Obj)) (s:Shared) (σ:St) (H:Hp) (D:Ends),Inv X pins σ H s->t D σ H->wpAny (model X.prog X.w) X.A (exec st X.env) (SP X pins D) X.xe s
def PSs (X:Cx) (st:List Stmt) (t:TS):Prop :=
 ∀ (pins:List (Addr × Obj)) (s:Shared) (σ:St) (H:Hp) (D:Ends),Inv X pins σ H s->t D σ H->wpAny (model X.prog X.w) X.A (execs st X.env) (SP X pins D) X.xe s
theorem thn {α:Type} {t:Sem α} {Q Q':α->Shared->Prop} {M:Model} {A:Around} {E:Value->Shared->Prop} {s:Shared} (h:wpAny M A t Q E s) (hQ:∀ a s,Q a s->Q' a s):wpAny M A t Q' E s:=wpAny_mono h hQ fun _ _ x=>x
section
variable {X:Cx}
def zsT (i:Nat):TE:=fun σ H Q=>∃ v,σ[i]?=some (some v)/\Q v H
def tC (v:V):TE:=fun _ H Q=>Q v H
theorem zsM {i:Nat} {x:Str} {pos:Pos} (hN:X.N[i]?=some x) (hv:Vis X.env.scope x) (hd:(x == ("__debug__" : Str))=false:=by decide) (hcd:(x == ("__classdict__" : Str))=false:=by decide):PE X (.Name x pos) (zsT i):=by
 intro pins s σ H Q I h
 obtain ⟨v,e,h⟩:=h
 obtain ⟨m,hn,hl⟩:=I.loc
 obtain ⟨u,r,l⟩:=hl i x v hN e hv
 have fin:EP X pins σ Q u s:=⟨v,H,I,r,h⟩
 rcases l with ⟨hk,hm⟩ | ⟨hk,c,hc,hcell⟩
 ·exact wpAny_Name (wpAny_loadName_local I.ok.kind hk hn hm fin) hd
 ·rcases hk with hk | hk
  ·exact wpAny_Name (wpAny_loadName_cell I.ok.kind hk hc hcell fin) hd
  ·exact wpAny_Name (wpAny_loadName_free I.ok.kind hk hc hcell fin hcd) hd
theorem zd {i j pos}:PE X (.Constant (.int i) j pos) (tC (.int i)):=fun _ _ _ H _ I h=>wpAny_Constant_int ⟨.int i,H,I.tok _,⟨_,rfl⟩,h⟩
theorem zaq {b j pos}:PE X (.Constant (.bool b) j pos) (tC (.bl b)):=fun _ _ _ H _ I h=>Constant_bool ⟨.bl b,H,I,rfl,h⟩
theorem zpf {j pos}:PE X (.Constant .none j pos) (tC .non):=fun _ _ _ H _ I h=>Constant_none ⟨.non,H,I,rfl,h⟩
theorem zp {x j pos}:PE X (.Constant (.str x) j pos) (tC (.str x)):=fun _ _ _ H _ I h=>Calls.Constant_str ⟨.str x,H,I.tok _,⟨_,rfl⟩,h⟩
def Gl (X:Cx) (x:Str):Prop:=X.env.kindOf x=some .globalImplicit
theorem zcF {E:Value->Shared->Prop} {pins:List (Addr × Obj)} {s:Shared} {σ:St} {H:Hp} {x:Str} {u:Value} {pos:Pos} {Q:Value->Shared->Prop} (I:Inv X pins σ H s) (hg:Gl X x) (hm:X.mg x=some u) (h:Q u s)
  (hd:(x == ("__debug__" : Str))=false:=by decide):wpAny (model X.prog X.w) X.A (eval (.Name x pos) X.env) Q E s :=
 Calls.Name_function_global I.ok.kind hg (Calls.loadGlobal_global (by rw[I.ok.glob];exact I.mod.glob.keeps I.bk) hm h) hd
theorem zfg {E:Value->Shared->Prop} {pins:List (Addr × Obj)} {s:Shared} {σ:St} {H:Hp} {x:Str} {u:Value} {pos:Pos} {Q:Value->Shared->Prop} (I:Inv X pins σ H s) (hg:Gl X x) (hm:X.mg x=none) (hv:bootBuiltins x=some u) (h:Q u s)
  (hn:x ≠ "__name__" := by decide) (hd:(x == ("__debug__" : Str))=false:=by decide):wpAny (model X.prog X.w) X.A (eval (.Name x pos) X.env) Q E s:=by
 obtain ⟨mb,h1,h2⟩:=I.mod.blt
 exact Calls.Name_function_global I.ok.kind hg (Calls.loadGlobal_builtin (by rw[I.ok.glob];exact I.mod.glob.keeps I.bk) hm (by rw[I.ok.blt];exact h1.keeps I.bk) ((h2 x hn).trans hv) h) hd
theorem zb1 {x:Str} {v:V} {u:Value} {pos:Pos} (hg:Gl X x) (hm:X.mg x=some u) (r:RelV v u) (hd:(x == ("__debug__" : Str))=false:=by decide):PE X (.Name x pos) (tC v) :=
 fun _ _ _ H _ I h=>zcF I hg hm ⟨v,H,I,r,h⟩ hd
theorem zjK {x:Str} {v:V} {u:Value} {pos:Pos} (hg:Gl X x) (hm:X.mg x=none) (hv:bootBuiltins x=some u) (r:RelV v u) (hn:x ≠ "__name__" := by decide) (hd:(x == ("__debug__" : Str))=false:=by decide):PE X (.Name x pos) (tC v) :=
 fun _ _ _ H _ I h=>zfg I hg hm hv ⟨v,H,I,r,h⟩ hn hd
variable {a b:Expr} {ta tb:TE} {pos:Pos}
def PC (X:Cx) (op:CmpOp) (a b:Expr) (t:TE):Prop :=
 ∀ (pins:List (Addr × Obj)) (s:Shared) (σ:St) (H:Hp) (Q:VK),Inv X pins σ H s->t σ H Q ->
  wpAny (model X.prog X.w) X.A (eval a X.env) (fun v s₁=>wpAny (model X.prog X.w) X.A (eval b X.env) (fun u s₂=>wpAny (model X.prog X.w) X.A (compareOp op v u) (EP X pins σ Q) X.xe s₂) X.xe s₁) X.xe s
def tB (t:TE):TT:=fun σ H Q=>t σ H fun x H1=>∃ c,x=.bl c/\Q c H1
theorem zfc {e:Expr} {t:TE} (h:PE X e t) (he:∀ whole,isTrue e X.env whole=(do let v <-whole;standAt e.pos;holding [v] (truthy v)):=by intro _;rfl):PT X e (tB t):=by
 intro pins s σ H Q I hw
 refine isTrue_plain (thn (h pins s σ H _ I hw) fun v s1 ⟨x,H1,I1,r1,q1⟩=>?_) (he _)
 obtain ⟨d,rfl,q⟩:=q1
 cases r1
 exact wpAny_truthy_bool ⟨H1,I1,q⟩
variable {tA tB':TT} {rest:List Expr}
def ztV (t u:TT):TT:=fun σ H Q=>t σ H fun c H1=>if c=true then u σ H1 Q else Q false H1
def tOr (t u:TT):TT:=fun σ H Q=>t σ H fun c H1=>if c=true then Q true H1 else u σ H1 Q
def ztR (t:TT):TT:=fun σ H Q=>t σ H fun c H1=>Q (!c) H1
theorem zkg (ha:PT X a tA):PW X (.BoolOp .And [a] pos) tA:=by
 intro wh pins s σ H Q I h
 refine isTrue_and (thn (ha pins s σ H Q I h) fun c s1 e=>?_)
 cases c with
 | true=>exact isTrue_and_nil e
 | false=>exact e
theorem zlJ (ha:PT X a tA):PW X (.BoolOp .Or [a] pos) tA:=by
 intro wh pins s σ H Q I h
 refine isTrue_or (thn (ha pins s σ H Q I h) fun c s1 e=>?_)
 cases c with
 | false=>exact isTrue_or_nil e
 | true=>exact e
theorem zjF (ha:PT X a tA) (hb:PW X (.BoolOp .And (b::rest) pos) tB'):PW X (.BoolOp .And (a::b::rest) pos) (ztV tA tB'):=by
 intro wh pins s σ H Q I h
 refine isTrue_and (thn (ha pins s σ H _ I h) fun c s1 ⟨H1,I1,q1⟩=>?_)
 cases c with
 | true=>exact hb wh pins s1 σ H1 Q I1 q1
 | false=>exact ⟨H1,I1,q1⟩
theorem zow (ha:PT X a tA) (hb:PW X (.BoolOp .Or (b::rest) pos) tB'):PW X (.BoolOp .Or (a::b::rest) pos) (tOr tA tB'):=by
 intro wh pins s σ H Q I h
 refine isTrue_or (thn (ha pins s σ H _ I h) fun c s1 ⟨H1,I1,q1⟩=>?_)
 cases c with
 | true=>exact ⟨H1,I1,q1⟩
 | false=>exact hb wh pins s1 σ H1 Q I1 q1
theorem zgB (ha:PT X a tA):PT X (.UnaryOp .Not a pos) (ztR tA):=by
 intro pins s σ H Q I h
 exact isTrue_not (ha pins s σ H (fun c H1=>Q (!c) H1) I h)
def ztr (ta tb:TE):TE:=fun σ H Q=>ta σ H fun x H1=>∃ c,x=.bl c/\if c=true then tb σ H1 Q else Q (.bl false) H1
def zti (ta:TE):TE:=fun σ H Q=>ta σ H fun x H1=>∃ c,x=.bl c/\Q (.bl (!c)) H1
theorem zl6 {op} {t:TE} (h:PE X a t):PE X (.BoolOp op [a] pos) t:=fun pins s σ H Q I hw=>BoolOp_one (h pins s σ H Q I hw)
theorem zm2 (ha:PE X a ta) (hb:PE X (.BoolOp .And (b::rest) pos) tb):PE X (.BoolOp .And (a::b::rest) pos) (ztr ta tb):=by
 intro pins s σ H Q I h
 refine BoolOp_and (thn (ha pins s σ H _ I h) fun v s1 ⟨x,H1,I1,r1,q1⟩=>?_)
 obtain ⟨c,rfl,q1⟩:=q1
 cases r1
 refine wpAny_truthy_bool ?_
 cases c with
 | true=>exact hb pins s1 σ H1 Q I1 q1
 | false=>exact ⟨.bl false,H1,I1,rfl,q1⟩
theorem zst (ha:PE X a ta):PE X (.UnaryOp .Not a pos) (zti ta):=by
 intro pins s σ H Q I h
 refine UnaryOp_ (thn (ha pins s σ H _ I h) fun v s1 ⟨x,H1,I1,r1,q1⟩=>?_)
 obtain ⟨c,rfl,q1⟩:=q1
 cases r1
 exact not_of (wpAny_truthy_bool ⟨.bl (!c),H1,I1,rfl,q1⟩)
end
def SqL (K:W.Frag) (H:Hp) (a:Addr) (xs:List V):Prop :=
 Rd H a (.lst xs) \/
  ∃ (o:Obj) (its:Array Value) (n:Nat),K.lookup a=some o/\o.cls=.type "list" /\ o.dict=none/\o.data=.seq its n/\its.size<=sizeLine/\Vals xs its.toList
def SqT (K:W.Frag) (H:Hp) (a:Addr) (xs:List V):Prop :=
 Rd H a (.tup xs) \/
  ∃ (o:Obj) (its:Array Value) (n:Nat),K.lookup a=some o/\o.cls=.type "tuple" /\ o.data=.seq its n/\its.size<=sizeLine/\Vals xs its.toList
noncomputable def zt4:Value->Option V
 | .none=>some .non
 | .bool b=>some (.bl b)
 | .int i _=>some (.int i)
 | .str x _=>some (.str x)
 | .bytes b _=>some (.byt b)
 | .float b _=>some (.flt b)
 | .ref a=>some (.ref a)
 | .type n=>some (.ty n)
 | _=>none
theorem RelV.abs {x:V} {u:Value} (r:RelV x u):zt4 u=some x:=by
 cases x with
 | non=>cases r;rfl
 | bl _=>cases r;rfl
 | int _=>obtain ⟨t,rfl⟩:=r;rfl
 | str _=>obtain ⟨t,rfl⟩:=r;rfl
 | byt _=>obtain ⟨t,rfl⟩:=r;rfl
 | flt _=>obtain ⟨t,rfl⟩:=r;rfl
 | ref _=>cases r;rfl
 | ty _=>cases r;rfl
theorem RelV.inj {x y:V} {u:Value} (r:RelV x u) (q:RelV y u):x=y:=Option.some.inj (r.abs.symm.trans q.abs)
theorem Vals.inj:∀ {xs ys:List V} {us:List Value},Vals xs us->Vals ys us->xs=ys
 | _,_,_,.nil,.nil=>rfl
 | _,_,_,.cons r t,.cons r' t'=>by rw[r.inj r',Vals.inj t t']
section
variable {X:Cx} {pins:List (Addr × Obj)} {σ:St} {H:Hp} {s:Shared} {a:Addr} {xs ys:List V}
theorem SqL.of {K:W.Frag} (h:H a=some (.lst xs)):SqL K H a xs:=.inl (.inl h)
theorem SqT.of {K:W.Frag} (h:H a=some (.tup xs)):SqT K H a xs:=.inl (.inl h)
theorem Inv.list (I:Inv X pins σ H s) (h:SqL X.K H a xs):∃ its:List Value,Vals xs its/\PlainL s.heap a its.toArray/\xs.length<=sizeLine:=by
 rcases h with h | ⟨o,its,n,hk,hc,hd,hs,hz,r⟩
 ·obtain ⟨z,its,n,r,e⟩:=h.ok I.hok
  exact ⟨its,r,⟨_,n,e,rfl,rfl,rfl⟩,z⟩
 ·refine ⟨its.toList,r,⟨o,n,I.kIn a o hk,hc,hd,by simpa using hs⟩,?_⟩
  have e:=r.length
  simp only[ydv] at e
  ac_rfl
theorem Inv.tuple (I:Inv X pins σ H s) (h:SqT X.K H a xs):∃ its:List Value,Vals xs its/\IsTup s.heap a its.toArray/\xs.length<=sizeLine:=by
 rcases h with h | ⟨o,its,n,hk,hc,hs,hz,r⟩
 ·obtain ⟨z,its,r,p⟩:=h.ok I.hok
  exact ⟨its,r,p,z⟩
 ·refine ⟨its.toList,r,⟨o,I.kIn a o hk,hc,n,by simpa using hs⟩,?_⟩
  have e:=r.length
  simp only[ydv] at e
  ac_rfl
theorem Inv.zp7 (I:Inv X pins σ H s) (h:SqL X.K H a xs) (h':SqL X.K H a ys):xs=ys:=by
 obtain ⟨its,r,⟨o,n,e,_,_,d⟩,_⟩:=I.list h
 obtain ⟨its',r',⟨o',n',e',_,_,d'⟩,_⟩:=I.list h'
 rw[e] at e';cases e'
 rw[d] at d'
 injection d' with d1 _
 have:its=its':=by simpa using congrArg Array.toList d1
 subst this
 exact r.inj r'
theorem Inv.zpG (I:Inv X pins σ H s) (h:SqT X.K H a xs) (h':SqT X.K H a ys):xs=ys:=by
 obtain ⟨its,r,⟨o,e,_,n,d⟩,_⟩:=I.tuple h
 obtain ⟨its',r',⟨o',e',_,n',d'⟩,_⟩:=I.tuple h'
 rw[e] at e';cases e'
 rw[d] at d'
 injection d' with d1 _
 have:its=its':=by simpa using congrArg Array.toList d1
 subst this
 exact r.inj r'
end
noncomputable abbrev Cx.wish (X:Cx) (E:Value->Shared->Prop):Cx:={ X with xe:=E }
noncomputable abbrev Cx.nox (X:Cx):Cx:=X.wish fun _ _=>False
theorem Cx.Ok.wish {X:Cx} (ok:X.Ok) (E:Value->Shared->Prop):(X.wish E).Ok :=
 ⟨ok.mod,ok.kind,ok.glob,ok.blt,ok.above,ok.inj,ok.has,ok.cab,ok.hd,ok.frames,ok.stk,ok.exf,ok.bs,ok.bsz,ok.noex,ok.exfs,ok.funs,ok.frf⟩
theorem Cx.Ok.unwish {X:Cx} {E:Value->Shared->Prop} (ok:(X.wish E).Ok):X.Ok :=
 ⟨ok.mod,ok.kind,ok.glob,ok.blt,ok.above,ok.inj,ok.has,ok.cab,ok.hd,ok.frames,ok.stk,ok.exf,ok.bs,ok.bsz,ok.noex,ok.exfs,ok.funs,ok.frf⟩
section
variable {X:Cx} {pins:List (Addr × Obj)} {σ:St} {H:Hp} {s:Shared} {E:Value->Shared->Prop}
theorem Inv.wish (I:Inv X pins σ H s) (E:Value->Shared->Prop):Inv (X.wish E) pins σ H s:=⟨I.ok.wish E,I.os,I.bare,I.base,I.loc,I.cell,I.free,I.freeC,I.pin,I.hok,I.len⟩
theorem Inv.unwish (I:Inv (X.wish E) pins σ H s):Inv X pins σ H s:=⟨I.ok.unwish,I.os,I.bare,I.base,I.loc,I.cell,I.free,I.freeC,I.pin,I.hok,I.len⟩
theorem SP.unwish {D:Ends} {f:Flow} {s':Shared} (h:SP (X.wish E) pins D f s'):SP X pins D f s':=by
 cases f with
 | next=>obtain ⟨σ',H',I,q⟩:=h;exact ⟨σ',H',I.unwish,q⟩
 | brk=>obtain ⟨σ',H',I,q⟩:=h;exact ⟨σ',H',I.unwish,q⟩
 | cont=>obtain ⟨σ',H',I,q⟩:=h;exact ⟨σ',H',I.unwish,q⟩
 | ret u=>obtain ⟨v,σ',H',I,r,q⟩:=h;exact ⟨v,σ',H',I.unwish,r,q⟩
theorem PSs.nox {st:List Stmt} {t:TS} (h:PSs X.nox st t):PSs X st t:=fun pins s σ H D I hw =>
 wpAny_mono (h pins s σ H D (I.wish _) hw) (fun _ _ q=>q.unwish) fun _ _ z=>False.elim z
end
section
variable {X:Cx} {st:Stmt} {rest:List Stmt} {t u:TS} {e:Expr} {te:TE} {pos:Pos}
def ztF:TS:=fun D σ H=>D.nx σ H
def zP (t u:TS):TS:=fun D σ H=>t { D with nx:=u D } σ H
theorem zL:PSs X [] ztF:=fun _ _ σ H _ I h=>wpAny_execs_nil ⟨σ,H,I,h⟩
theorem zqu (h1:PS X st t) (h2:PSs X rest u):PSs X (st::rest) (zP t u):=by
 intro pins s σ H D I h
 refine wpAny_execs_cons (thn (h1 pins s σ H { D with nx:=u D } I h) fun f s1 q=>?_)
 cases f with
 | next =>
  obtain ⟨σ',H',I',q⟩:=q
  exact h2 pins s1 σ' H' D I' q
 | ret v=>exact q
 | brk=>exact q
 | cont=>exact q
theorem zg (h1:PS X st t):PSs X [st] t:=by
 intro pins s σ H D I h
 refine wpAny_execs_cons (thn (h1 pins s σ H D I h) fun f s1 q=>?_)
 cases f with
 | next=>exact wpAny_execs_nil q
 | ret v=>exact q
 | brk=>exact q
 | cont=>exact q
theorem Inv.quiet {pins:List (Addr × Obj)} {σ:St} {H:Hp} {s:Shared} (I:Inv X pins σ H s):interactive X.env=false:=by simp[interactive,I.ok.kind]
def ztf (te:TE):TS:=fun D σ H=>te σ H fun _ H1=>D.nx σ H1
theorem zan (he:PE X e te) (hs:swapsWith e none pos.line X.env=pure false:=by rfl):PS X (.Expr e pos) (ztf te):=by
 intro pins s σ H D I h
 exact wpAny_Expr_any (thn (he pins s σ H _ I h) fun v s1 ⟨x,H1,I1,r1,q1⟩=>⟨σ,H1,I1,q1⟩) I.quiet hs
def ztH (te:TE):TS:=fun D σ H=>te σ H D.rt
theorem zk (he:PE X e te):PS X (.Return (some e) pos) (ztH te):=by
 intro pins s σ H D I h
 exact wpAny_Return_some (thn (he pins s σ H _ I h) fun v s1 ⟨x,H1,I1,r1,q1⟩=>⟨x,σ,H1,I1,r1,q1⟩)
def ztM (c:TT) (t u:TS):TS:=fun D σ H=>c σ H fun b H1=>if b=true then t D σ H1 else u D σ H1
theorem zaa {c:Expr} {a b:List Stmt} {tc:TT} (hc:PT X c tc) (ha:PSs X a t) (hb:PSs X b u):PS X (.If c a b pos) (ztM tc t u):=by
 intro pins s σ H D I h
 refine wpAny_If (thn (hc pins s σ H _ I h) fun d s1 ⟨H1,I1,q1⟩=>?_)
 cases d with
 | true=>exact ha pins s1 σ H1 D I1 q1
 | false=>exact hb pins s1 σ H1 D I1 q1
end
noncomputable abbrev TG:=V->St->Hp->(St->Hp->Prop)->Prop
noncomputable abbrev TGs:=List V->St->Hp->(St->Hp->Prop)->Prop
def PG (X:Cx) (target:Expr) (t:TG):Prop :=
 ∀ (pins:List (Addr × Obj)) (s:Shared) (σ:St) (H:Hp) (v:V) (u:Value) (Q:St->Hp->Prop),Inv X pins σ H s->RelV v u->t v σ H Q ->
  wpAny (model X.prog X.w) X.A (assign target X.env u) (fun _ s'=>∃ σ' H',Inv X pins σ' H' s'/\Q σ' H') X.xe s
def PGs (X:Cx) (ts:List Expr) (t:TGs):Prop :=
 ∀ (pins:List (Addr × Obj)) (s:Shared) (σ:St) (H:Hp) (vs:List V) (us:List Value) (Q:St->Hp->Prop),Inv X pins σ H s->Vals vs us->t vs σ H Q ->
  wpAny (model X.prog X.w) X.A (assignInOrder ((assignEach ts X.env).map (·.2)) us) (fun _ s'=>∃ σ' H',Inv X pins σ' H' s'/\Q σ' H') X.xe s
noncomputable abbrev TSet:=V->V->V->Hp->(Hp->Prop)->Prop
def PSet (X:Cx) (t:TSet):Prop :=
 ∀ (pins:List (Addr × Obj)) (s:Shared) (σ:St) (H:Hp) (o i v:V) (ov iv u:Value) (Q:Hp->Prop),Inv X pins σ H s->RelV o ov->RelV i iv->RelV v u->t o i v H Q ->
  wpAny (model X.prog X.w) X.A (setItem ov iv u) (fun _ s'=>∃ H',Inv X pins σ H' s'/\Q H') X.xe s
section
variable {X:Cx} {pos:Pos}
def zb4 (i:Nat):TG:=fun v σ H Q=>Q (σ.set i (some v)) H
theorem zO {i:Nat} {x:Str} (hN:X.N.Nodup) (hi:X.N[i]?=some x) (hx:Loc X.env.scope x) (hf:X.fn x=true\/X.env.scope.names.lookup x=some .local:=by first | exact .inl rfl | exact .inr rfl | assumption):PG X (.Name x pos) (zb4 i):=by
 intro pins s σ H v u Q I r h
 exact wpAny_assign_Name (ziG I hN hi hx r (fun s' I'=>⟨_,H,I',h⟩) hf)
noncomputable def zsC:TGs:=fun vs σ H Q=>vs=[]/\Q σ H
noncomputable def zln (t:TG) (u:TGs):TGs:=fun vs σ H Q=>∃ v r,vs=v::r/\t v σ H fun σ' H'=>u r σ' H' Q
theorem zez:PGs X [] zsC:=by
 intro pins s σ H vs us Q I r h
 obtain ⟨e,h⟩:=h
 subst e
 cases r
 exact assignInOrder_nil ⟨σ,H,I,h⟩
theorem zap {e:Expr} {es:List Expr} {t:TG} {u:TGs} (h1:PG X e t) (h2:PGs X es u)
  (hs:(assignEach (e::es) X.env).map (·.2)=assign e X.env::(assignEach es X.env).map (·.2):=by rfl):PGs X (e::es) (zln t u):=by
 intro pins s σ H vs us Q I r h
 obtain ⟨v,vr,e1,h⟩:=h
 subst e1
 cases r with
 | cons r rr =>
  rw[hs]
  refine assignInOrder_cons (thn (h1 pins s σ H _ _ _ I r h) fun _ s1 ⟨σ1,H1,I1,q1⟩=>?_)
  exact h2 pins s1 σ1 H1 _ _ Q I1 rr q1
def zsl (K:W.Frag) (n:Nat) (t:TGs):TG:=fun v σ H Q=>∃ a xs,v=.ref a/\SqT K H a xs/\xs.length=n/\t xs σ H Q
theorem zgA {es:List Expr} {k:Nat} {t:TGs} {n:Nat} (hc:X.calm=true) (h:PGs X es t)
  (hn:(assignEach es X.env).length=n:=by rfl) (hst:(assignEach es X.env).findIdx? (·.1)=none:=by rfl):PG X (.Tuple es k pos) (zsl X.K n t):=by
 intro pins s σ H v u Q I r hw
 obtain ⟨a,xs,e1,hq,hl,hw⟩:=hw
 subst e1
 cases r
 obtain ⟨its,rv,ht,hz⟩:=I.tuple hq
 refine assign_Tuple_tuple (I.ok.hd hc) ht (by simp[hn,<-hl,rv.length]) hst fun h' hx=>?_
 have I1:Inv X pins σ H { s with heap:=h' }:=I.kept (t':=s.toks) fun b o e=>hx b o (ycv (ydl e)) e
 exact h pins _ σ H xs _ Q I1 (by simpa using rv) hw
def ztS (to ti:TE) (t:TSet):TG:=fun v σ H Q=>to σ H fun o H1=>ti σ H1 fun i H2=>t o i v H2 fun H3=>Q σ H3
theorem zmv {o i:Expr} {to ti:TE} {t:TSet} (ho:PE X o to) (hi:PE X i ti) (hs:PSet X t)
  (ha:∀ v,assign (.Subscript o i pos) X.env v=(do
   let ov <-holding [v] (eval o X.env)
   let iv <-holding [v,ov] (eval i X.env)
   standAt pos
   holding [v,ov,iv] (setItem ov iv v)
   release [v,ov,iv] []):=by intro _;rfl):PG X (.Subscript o i pos) (ztS to ti t):=by
 intro pins s σ H v u Q I r h
 rw[ha]
 refine wpAny_bind (wpAny_holding (thn (ho pins s σ H _ I h) fun ov s1 ⟨x,H1,I1,r1,q1⟩=>?_))
 refine wpAny_bind (wpAny_holding (thn (hi pins s1 σ H1 _ I1 q1) fun iv s2 ⟨y,H2,I2,r2,q2⟩=>?_))
 refine wpAny_bind (wpAny_standAt (wpAny_bind (wpAny_holding (thn (hs pins s2 σ H2 x y v ov iv u _ I2 r1 r2 r q2) fun _ s3 ⟨H3,I3,q3⟩=>?_))))
 exact wpAny_release ⟨σ,H3,I3,q3⟩
def zlU (te:TE) (g:TG):TS:=fun D σ H=>te σ H fun x H1=>g x σ H1 D.nx
theorem zja {tg e:Expr} {te:TE} {g:TG} (he:PE X e te) (hg:PG X tg g) (hs:swapsWithSole [tg] e pos.line X.env=pure false:=by rfl) (hw:swappedStores [tg] e X.env=pure none:=by rfl)
  (h1:(assignEach [tg] X.env).map (·.2)=[assign tg X.env]:=by rfl):PS X (.Assign [tg] e pos) (zlU te g):=by
 intro pins s σ H D I h
 refine wpAny_Assign_stores (thn (he pins s σ H _ I h) fun v s1 ⟨x,H1,I1,r1,q1⟩=>?_) hs hw
 rw[h1]
 exact thn (hg pins s1 σ H1 x v _ I1 r1 q1) fun _ s2 q=>q
theorem zE {i:Nat} {x:Str} {e:Expr} {te:TE} {pos':Pos} (hN:X.N.Nodup) (hi:X.N[i]?=some x) (hx:Loc X.env.scope x) (he:PE X e te) (hs:swapsWith e (some (.Name x pos')) pos.line X.env=pure false:=by rfl) (hf:X.fn x=true\/X.env.scope.names.lookup x=some .local:=by first | exact .inl rfl | exact .inr rfl | assumption) :
  PS X (.Assign [.Name x pos'] e pos) (zlU te (zb4 i)):=by
 intro pins s σ H D I h
 refine wpAny_Assign_Name (thn (he pins s σ H _ I h) fun v s1 ⟨y,H1,I1,r1,q1⟩=>?_) hs
 exact ziG I1 hN hi hx r1 (fun s2 I2=>⟨_,H1,I2,q1⟩) hf
end
section
variable {X:Cx} {pos:Pos}
def zsv (c:TT) (tb:TS):TS:=fun D σ H=>∃ W:Nat->St->Hp->Prop,(∃ m,W m σ H)/\∀ m σ H,W m σ H ->
 c σ H fun b H1=>if b=true then ∃ N:St->Hp->Prop,(∀ σ' H',N σ' H'->∃ m',m'<m/\W m' σ' H')/\tb { D with nx:=N,ct:=N,bk:=D.nx } σ H1 else D.nx σ H1
theorem zlC {c:Expr} {body:List Stmt} {tc:TT} {tb:TS} (hp:PassesOwn (model X.prog X.w) X.A X.env X.xe) (hc:PT X c tc) (hb:PSs X body tb):PS X (.While c body [] pos) (zsv tc tb):=by
 intro pins s σ H D I h
 obtain ⟨W,⟨m0,w0⟩,turn⟩:=h
 refine wpAny_While (codeAny_whileLoop (fun n s'=>∃ σ' H',Inv X pins σ' H' s'/\W n σ' H') ?_ m0 ⟨σ,H,I,w0⟩)
 rintro n s1 ⟨σ1,H1,I1,w1⟩
 refine wpAny_passesOwn hp (thn (hc pins s1 σ1 H1 _ I1 (turn n σ1 H1 w1)) fun b s2 ⟨H2,I2,q2⟩=>?_)
 cases b with
 | true =>
  obtain ⟨N,hN,q2⟩:=q2
  rw[if_pos rfl]
  refine wpAny_passesOwn hp (thn (hb pins s2 σ1 H2 _ I2 q2) fun f s3 q3=>?_)
  cases f with
  | next =>
   obtain ⟨σ3,H3,I3,n3⟩:=q3
   obtain ⟨m',hm,w3⟩:=hN σ3 H3 n3
   exact ⟨m',hm,σ3,H3,I3,w3⟩
  | cont =>
   obtain ⟨σ3,H3,I3,n3⟩:=q3
   obtain ⟨m',hm,w3⟩:=hN σ3 H3 n3
   exact ⟨m',hm,σ3,H3,I3,w3⟩
  | brk=>exact q3
  | ret v=>exact q3
 | false =>
  rw[if_neg Bool.false_ne_true]
  exact wpAny_execs_nil ⟨σ1,H2,I2,q2⟩
end
structure It where
 go:Nat->Hp->Prop
 yld:Nat->Hp->V->Hp->Prop
 stop:Nat->Hp->Prop
def zaS (X:Cx) (pins:List (Addr × Obj)) (H:Hp) (b:Addr):Prop :=
 H b=none/\b≠X.env.locals/\b ∉ X.fs/\(b∈X.ex\/X.s₀.heap.objs.size<=b)/\(∀ x c,X.env.cells.lookup x=some c->c≠b)/\∀ p∈X.pn++pins,p.1≠b
theorem Inv.zj9 {X:Cx} {pins:List (Addr × Obj)} {σ:St} {H H':Hp} {s:Shared} {b:Addr} (I:Inv X pins σ H s) (hb:s.heap.objs.size<=b) (hn:H' b=none):zaS X pins H' b:=by
 refine ⟨hn,ydd (ycw I.lt hb),I.nofs hb,.inr (ycz I.sz hb),fun x c e z=>?_,fun p hp z=>?_⟩
 ·obtain ⟨v,q⟩:=I.cell x c e
  exact absurd (ycw q.lt (by rw[z];exact hb)) (yda _)
 ·exact absurd (ycw (ydl (I.pin p hp).1) (by rw[z];exact hb)) (yda _)
structure Turn (P:Program) (w:World) (K:W.Frag) (tg:Expr) (J:It) (fp:List Addr) (it:Addr) (tn:Nat->Heap->Prop):Prop where
 mem:it∈fp
 obj:∀ i h,tn i h->∀ b∈fp,∃ o,h.get? b=some o/\∀ v,o.data≠.cell v
 keep:∀ i h h',tn i h->(∀ b∈fp,∀ o,h.get? b=some o->h'.get? b=some o)->tn i h'
 item:∀ (X:Cx),X.prog=P->X.w=w->X.K=K->X.calm=true->∀ (i:Nat) (pins:List (Addr × Obj)) (s:Shared) (σ:St) (H:Hp) (E:Value->Shared->Prop),Inv X pins σ H s->(∀ b∈fp,zaS X pins H b)->tn i s.heap->J.go i H ->
  wpAny (model P w) X.A (pyNext (.ref it)) (fun r s1=>∃ u,r=some u /\
   wpAny (model P w) X.A (letOwnedTupleGo tg (.ref it) u) (fun _ s2=>∃ x H',Inv X pins σ H' s2/\RelV x u/\J.yld i H x H'/\tn (i+1) s2.heap/\∀ b∈fp,H' b=none) E s1) E s
 done:∀ (X:Cx),X.prog=P->X.w=w->X.K=K->X.calm=true->∀ (i:Nat) (pins:List (Addr × Obj)) (s:Shared) (σ:St) (H:Hp) (E:Value->Shared->Prop),Inv X pins σ H s->(∀ b∈fp,zaS X pins H b)->tn i s.heap->J.stop i H ->
  wpAny (model P w) X.A (pyNext (.ref it)) (fun r s1=>r=none/\Inv X pins σ H s1) E s
 self:∀ (A:Around) (i:Nat) (s:Shared) (Q:Value->Shared->Prop) (E:Value->Shared->Prop),tn i s.heap->Q (.ref it) s->wpAny (model P w) A (pyIter (.ref it)) Q E s
noncomputable abbrev TI:=St->Hp->(It->Hp->Prop)->Prop
def PIE (X:Cx) (pins:List (Addr × Obj)) (σ:St) (tg:Expr) (R:It->Hp->Prop) (itv:Value) (s2:Shared):Prop :=
 ∃ (it:Addr) (fp:List Addr) (tn:Nat->Heap->Prop) (J:It) (H':Hp),itv=.ref it/\Inv X pins σ H' s2/\Turn X.prog X.w X.K tg J fp it tn/\tn 0 s2.heap/\(∀ b∈fp,zaS X pins H' b)/\R J H'
def PI (X:Cx) (tg iter:Expr) (wi:TI):Prop :=
 ∀ (pins:List (Addr × Obj)) (s:Shared) (σ:St) (H:Hp) (R:It->Hp->Prop),Inv X pins σ H s->wi σ H R ->
  wpAny (model X.prog X.w) X.A (eval iter X.env) (fun v s1=>wpAny (model X.prog X.w) X.A (pyIter v) (PIE X pins σ tg R) X.xe s1) X.xe s
theorem zoP {M:Model} {A:Around} {E:Value->Shared->Prop} {s:Shared} {tg:Expr} {it:Addr} {u:Value} {o:Obj} {n:String} {vs:Array Value} {Q:Unit->Shared->Prop} (ho:s.heap.get? it=some o) (hc:o.cls=.type n) (hd:o.data=.fields vs)
  (hn:["enumerate", "zip", "dict_itemiterator", "dict_reverseitemiterator", "odict_iterator", "itertools.zip_longest", "itertools.pairwise"].contains n=false) (hQ:Q () s):wpAny M A (letOwnedTupleGo tg (.ref it) u) Q E s:=by
 unfold letOwnedTupleGo
 cases tg <;> first
  | exact wpAny_pure hQ
  | (cases u <;> first
    | exact wpAny_pure hQ
    | (refine wpAny_bind (wpAny_load ho ?_)
       rw[hc,hd]
       show wpAny M A (if (["enumerate", "zip", "dict_itemiterator", "dict_reverseitemiterator", "odict_iterator", "itertools.zip_longest", "itertools.pairwise"].contains n && vs[0]? == some (rawInt _))=true then _ else _) Q E s
       rw[if_neg (by intro h;rw[hn,Bool.false_and] at h;cases h)]
       exact wpAny_pure hQ))
noncomputable def Itl (K:W.Frag) (a:Addr):It :=
 ⟨fun i H=>∃ xs x,SqL K H a xs/\xs[i]?=some x,fun i H x H'=>H'=H/\∀ xs,SqL K H a xs->xs[i]?=some x,fun i H=>∃ xs,SqL K H a xs/\xs.length<=i⟩
noncomputable def Itt (K:W.Frag) (a:Addr):It :=
 ⟨fun i H=>∃ xs x,SqT K H a xs/\xs[i]?=some x,fun i H x H'=>H'=H/\∀ xs,SqT K H a xs->xs[i]?=some x,fun i H=>∃ xs,SqT K H a xs/\xs.length<=i⟩
noncomputable def Itr (lo:Int) (n:Nat):It:=⟨fun i _=>i<n,fun i H x H'=>H'=H/\x=.int (lo+i),fun i _=>n<=i⟩
theorem zpg {P:Program} {w:World} {K:W.Frag} {tg:Expr} (a it:Addr):Turn P w K tg (Itl K a) [it] it (fun i h=>h.IsListIter it a i) where
 mem:=by simp
 obj:=fun i h st b hb=>by
  have e:b=it:=by simpa using hb
  subst e
  obtain ⟨o,e,c,d⟩:=st
  exact ⟨o,e,fun v z=>by rw[d] at z;cases z⟩
 keep:=fun i h h' st k=>st.at fun o e=>k it (by simp) o e
 item:=by
  intro X hP hw hK hc i pins s σ H E I hf st hg
  subst hP hw hK
  obtain ⟨xs,x,hq,hx⟩:=hg
  obtain ⟨its,rv,p,hz⟩:=I.list hq
  obtain ⟨u,hu,ru⟩:=rv.get hx
  obtain ⟨f0,f1,f2,f3,f4,f5⟩:=hf it (by simp)
  refine wpAny_pyNext_list_item st p.isList (x:=u) (by simpa using hu) fun h' st' sb=>?_
  have I1:Inv X pins σ H { s with heap:=h' }:=I.turned (t':=s.toks) (fun b o hb e=>(sb.2 b hb).trans e) f0 f1 f3 f4 f5
  obtain ⟨o,e,c,d⟩:=id st'
  exact ⟨u,rfl,zoP (s:={ s with heap:=h' }) e c d (by decide) ⟨x,H,I1,ru,⟨rfl,fun ys hy=>by rw[I.zp7 hy hq];exact hx⟩,st',fun b hb=>(hf b hb).1⟩⟩
 done:=by
  intro X hP hw hK hc i pins s σ H E I hf st hg
  subst hP hw hK
  obtain ⟨xs,hq,hx⟩:=hg
  obtain ⟨its,rv,p,hz⟩:=I.list hq
  obtain ⟨f0,f1,f2,f3,f4,f5⟩:=hf it (by simp)
  have hl:=rv.length
  exact wpAny_pyNext_list_end (I.ok.hd hc) st p.isList (by simp;ac_rfl) fun h' eb=>⟨rfl,I.turned (t':=s.toks) (fun b o hb e=>eb b o hb e) f0 f1 f3 f4 f5⟩
 self:=fun _ _ _ _ _ st h=>wpAny_pyIter_listiter st h
theorem zoy {P:Program} {w:World} {K:W.Frag} {tg:Expr} (a it:Addr):Turn P w K tg (Itt K a) [it] it (fun i h=>h.IsTupleIter it a i) where
 mem:=by simp
 obj:=fun i h st b hb=>by
  have e:b=it:=by simpa using hb
  subst e
  obtain ⟨o,e,c,d⟩:=st
  exact ⟨o,e,fun v z=>by rw[d] at z;cases z⟩
 keep:=fun i h h' st k=>st.at fun o e=>k it (by simp) o e
 item:=by
  intro X hP hw hK hc i pins s σ H E I hf st hg
  subst hP hw hK
  obtain ⟨xs,x,hq,hx⟩:=hg
  obtain ⟨its,rv,p,hz⟩:=I.tuple hq
  obtain ⟨u,hu,ru⟩:=rv.get hx
  obtain ⟨f0,f1,f2,f3,f4,f5⟩:=hf it (by simp)
  refine wpAny_pyNext_tuple_item st (show s.heap.IsTuple a its.toArray from p) (x:=u) (by simpa using hu) fun h' st' sb=>?_
  have I1:Inv X pins σ H { s with heap:=h' }:=I.turned (t':=s.toks) (fun b o hb e=>(sb.2 b hb).trans e) f0 f1 f3 f4 f5
  obtain ⟨o,e,c,d⟩:=id st'
  exact ⟨u,rfl,zoP (s:={ s with heap:=h' }) e c d (by decide) ⟨x,H,I1,ru,⟨rfl,fun ys hy=>by rw[I.zpG hy hq];exact hx⟩,st',fun b hb=>(hf b hb).1⟩⟩
 done:=by
  intro X hP hw hK hc i pins s σ H E I hf st hg
  subst hP hw hK
  obtain ⟨xs,hq,hx⟩:=hg
  obtain ⟨its,rv,p,hz⟩:=I.tuple hq
  obtain ⟨f0,f1,f2,f3,f4,f5⟩:=hf it (by simp)
  have hl:=rv.length
  exact wpAny_pyNext_tuple_end (I.ok.hd hc) st (show s.heap.IsTuple a its.toArray from p) (by simp;ac_rfl) fun h' eb=>⟨rfl,I.turned (t':=s.toks) (fun b o hb e=>eb b o hb e) f0 f1 f3 f4 f5⟩
 self:=fun _ _ _ _ _ st h=>wpAny_pyIter_tupleiter st h
theorem zoq {P:Program} {w:World} {K:W.Frag} {tg:Expr} (it:Addr) (lo:Int) (n:Nat):Turn P w K tg (Itr lo n) [it] it (fun i h=>IsRangeIter h it (lo+(i:Nat)*1) ((n:Int)-(i:Nat)) 1) where
 mem:=by simp
 obj:=fun i h st b hb=>by
  have e:b=it:=by simpa using hb
  subst e
  exact ⟨_,st,fun v z=>by
   have z':Data.fields _=Data.cell v:=z
   cases z'⟩
 keep:=fun i h h' st k=>k it (by simp) _ st
 item:=by
  intro X hP hw hK hc i pins s σ H E I hf st hg
  subst hP hw hK
  obtain ⟨f0,f1,f2,f3,f4,f5⟩:=hf it (by simp)
  have W:=Walks.range (prog:=X.prog) (w:=X.w) (I.ok.hd hc) it lo 1 n
  refine W.item i s _ _ hg st fun v h' tk hv st' kk=>?_
  obtain ⟨t,rfl⟩:=hv
  have I1:Inv X pins σ H { s with heap:=h',toks:=tk }:=I.turned (fun b o hb e=>kk b o (by simpa using hb) e) f0 f1 f3 f4 f5
  refine ⟨_,rfl,zoP (s:={ s with heap:=h',toks:=tk }) (n:="range_iterator") st' rfl rfl (by decide) ⟨.int (lo+i),H,I1,⟨t,?_⟩,⟨rfl,rfl⟩,st',fun b hb=>(hf b hb).1⟩⟩
  rw[Int.mul_one]
 done:=by
  intro X hP hw hK hc i pins s σ H E I hf st hg
  subst hP hw hK
  obtain ⟨f0,f1,f2,f3,f4,f5⟩:=hf it (by simp)
  exact wpAny_pyNext_range_end (I.ok.hd hc) st (by have:n<=i:=hg;ac_rfl) fun h' eb=>⟨rfl,I.turned (t':=s.toks) (fun b o hb e=>eb b o hb e) f0 f1 f3 f4 f5⟩
 self:=fun _ _ _ _ _ st h=>wpAny_pyIter_rangeiter st h
section
variable {X:Cx} {tg:Expr}
def ztx (K:W.Frag) (tl:TE):TI:=fun σ H R=>tl σ H fun x H1=>∃ a,x=.ref a/\(∃ xs,SqL K H1 a xs)/\R (Itl K a) H1
def zud (K:W.Frag) (tl:TE):TI:=fun σ H R=>tl σ H fun x H1=>∃ a,x=.ref a/\(∃ xs,SqT K H1 a xs)/\R (Itt K a) H1
theorem zM {l:Expr} {tl:TE} (hl:PE X l tl):PI X tg l (ztx X.K tl):=by
 intro pins s σ H R I h
 refine thn (hl pins s σ H _ I h) fun v s1 ⟨x,H1,I1,r1,q1⟩=>?_
 obtain ⟨a,e,⟨xs,hq⟩,q⟩:=q1
 subst e
 cases r1
 obtain ⟨its,rv,p,hz⟩:=I1.list hq
 refine wpAny_pyIter_list p.isList ?_
 refine ⟨s1.heap.objs.size,[s1.heap.objs.size],_,_,H1,rfl,I1.kept (t':=s1.toks) fun b o e=>ydk _ e,zpg a _,⟨_,ydm _ rfl,rfl,rfl⟩,fun b hb=>?_,q⟩
 have e:b=s1.heap.objs.size:=by simpa using hb
 subst e
 exact I1.zj9 (ycu _) (I1.hok.fresh (ycu _))
theorem zsi {l:Expr} {tl:TE} (hl:PE X l tl):PI X tg l (zud X.K tl):=by
 intro pins s σ H R I h
 refine thn (hl pins s σ H _ I h) fun v s1 ⟨x,H1,I1,r1,q1⟩=>?_
 obtain ⟨a,e,⟨xs,hq⟩,q⟩:=q1
 subst e
 cases r1
 obtain ⟨its,rv,p,hz⟩:=I1.tuple hq
 refine wpAny_pyIter_tuple (show s1.heap.IsTuple a its.toArray from p) ?_
 refine ⟨s1.heap.objs.size,[s1.heap.objs.size],_,_,H1,rfl,I1.kept (t':=s1.toks) fun b o e=>ydk _ e,zoy a _,⟨_,ydm _ rfl,rfl,rfl⟩,fun b hb=>?_,q⟩
 have e:b=s1.heap.objs.size:=by simpa using hb
 subst e
 exact I1.zj9 (ycu _) (I1.hok.fresh (ycu _))
theorem zlL {pins:List (Addr × Obj)} {σ:St} {H:Hp} {s:Shared} {R:It->Hp->Prop} {E:Value->Shared->Prop} {lo hi:Int} {t u v:Tok} {tk:Nat} (I:Inv X pins σ H s) (h1:-(2 ^ 62)<=lo) (h2:lo<2 ^ 62) (h3:-(2 ^ 62)<=hi) (h4:hi<2 ^ 62)
  (q:R (Itr lo (hi-lo).toNat) H):wpAny (model X.prog X.w) X.A (pyIter (.ref s.heap.objs.size)) (PIE X pins σ tg R) E { s with heap:=s.heap.push { cls:=.type "range", data:=.fields #[.int lo t,.int hi u,.int 1 v] },toks:=tk }:=by
 refine wpAny_pyIter_range (IsRange.new ..) (small_one h1 h2 h3 h4) ?_
 have I1:Inv X pins σ H { s with heap:=s.heap.push { cls:=.type "range", data:=.fields #[.int lo t,.int hi u,.int 1 v] },toks:=tk }:=I.kept fun b o e=>ydk _ e
 refine ⟨(s.heap.push { cls:=.type "range", data:=.fields #[.int lo t,.int hi u,.int 1 v] }).objs.size,[(s.heap.push { cls:=.type "range", data:=.fields #[.int lo t,.int hi u,.int 1 v] }).objs.size],_,_,H,rfl,
  I1.kept (t':=tk) fun b o e=>ydk _ e,zoq _ lo (hi-lo).toNat,?_,fun b hb=>?_,q⟩
 ·have e1:lo+((0:Nat):Int)*1=lo:=by simp
  have e2:(((hi-lo).toNat:Nat):Int)-((0:Nat):Int)=Builtin.Range.rangeSize lo hi 1:=by rw[rangeSize_one];split <;> ac_rfl
  show IsRangeIter _ _ (lo+((0:Nat):Int)*1) ((((hi-lo).toNat:Nat):Int)-((0:Nat):Int)) 1
  rw[e1,e2]
  exact ydm _ rfl
 ·have e:b=(s.heap.push { cls:=.type "range", data:=.fields #[.int lo t,.int hi u,.int 1 v] }).objs.size:=by simpa using hb
  subst e
  exact I1.zj9 (ycu _) (I1.hok.fresh (ycu _))
def zts (ta:TA):TI:=fun σ H R=>ta σ H fun vs H1=>∃ j:Int,vs=[.int j] /\ -(2 ^ 62)<=j/\j<2 ^ 62/\R (Itr 0 j.toNat) H1
def ztE (ta:TA):TI:=fun σ H R=>ta σ H fun vs H1=>∃ i j:Int,vs=[.int i,.int j]/\(-(2 ^ 62)<=i/\i<2 ^ 62 /\ -(2 ^ 62)<=j/\j<2 ^ 62)/\R (Itr i (j-i).toNat) H1
theorem zkz {a:Expr} {ta:TA} {p pos:Pos} (hg:Gl X "range") (hm:X.mg "range" = none) (ha:PA X [a] ta) (hs:starEach [a] X.env=[(false,eval a X.env)]:=by rfl):PI X tg (.Call (.Name "range" p) [a] [] pos) (zts ta):=by
 intro pins s σ H R I h
 refine Call_ (zfg I hg hm boot_range (PyProof.Rows.callWith_type1 (thn (ha pos pins s σ H _ I h) fun us s1 ⟨vs,H1,I1,r1,q1⟩=>?_) hs rfl))
 obtain ⟨j,e,q1,q2,q⟩:=q1
 subst e
 cases r1 with
 | cons r rr =>
  cases rr
  obtain ⟨t,rfl⟩:=r
  exact call_range_1 (zlL I1 (by ac_rfl) (by ac_rfl) q1 q2 (by simpa using q))
theorem zpX {a b:Expr} {ta:TA} {p pos:Pos} (hg:Gl X "range") (hm:X.mg "range" = none) (ha:PA X [a,b] ta) (hs:starEach [a,b] X.env=[(false,eval a X.env),(false,eval b X.env)]:=by rfl) (hs2:starEach [b] X.env=[(false,eval b X.env)]:=by rfl) :
  PI X tg (.Call (.Name "range" p) [a,b] [] pos) (ztE ta):=by
 intro pins s σ H R I h
 refine Call_ (zfg I hg hm boot_range (PyProof.Rows.callWith_type1 (thn (ha pos pins s σ H _ I h) fun us s1 ⟨vs,H1,I1,r1,q1⟩=>?_) (by rw[hs,hs2]) (by rw[hs2];rfl)))
 obtain ⟨i,j,e,⟨q1,q2,q3,q4⟩,q⟩:=q1
 subst e
 cases r1 with
 | cons r rr =>
  cases rr with
  | cons r' rr =>
   cases rr
   obtain ⟨t,rfl⟩:=r
   obtain ⟨t',rfl⟩:=r'
   exact call_range_2 (zlL I1 q1 q2 q3 q4 q)
def ztU (wi:TI) (g:TG) (tb:TS):TS:=fun D σ H=>wi σ H fun J H1=>∃ W:Nat->Nat->St->Hp->Prop,(∃ m,W 0 m σ H1)/\∀ i m σ H,W i m σ H ->
 (J.stop i H/\D.nx σ H)\/(J.go i H/\∃ N:St->Hp->Prop,(∀ σ' H',N σ' H'->∃ m',m'<m/\W (i+1) m' σ' H')/\∀ x H',J.yld i H x H'->g x σ H' fun σ2 H2=>tb { D with nx:=N,ct:=N,bk:=D.nx } σ2 H2)
noncomputable def zgs (fp:List Addr) (h:Heap):List (Addr × Obj):=fp.filterMap fun b=>(h.get? b).map fun o=>(b,o)
theorem zbh {fp:List Addr} {h:Heap} {b:Addr} {o:Obj} (hb:b∈fp) (e:h.get? b=some o):(b,o)∈zgs fp h:=ybw.mpr ⟨b,hb,by rw[e];rfl⟩
theorem zpB {fp:List Addr} {h:Heap} {p:Addr × Obj} (hp:p∈zgs fp h):p.1∈fp/\h.get? p.1=some p.2:=by
 obtain ⟨b,hb,e⟩:=ybw.mp hp
 cases q:h.get? b with
 | none=>rw[q] at e;cases e
 | some o =>
  rw[q] at e
  have e':(b,o)=p:=Option.some.inj e
  subst e'
  exact ⟨hb,q⟩
theorem Inv.pinned {pins:List (Addr × Obj)} {σ:St} {H:Hp} {s:Shared} {fp:List Addr} (I:Inv X pins σ H s) (hf:∀ b∈fp,zaS X pins H b) (ho:∀ b∈fp,∃ o,s.heap.get? b=some o/\∀ v,o.data≠.cell v):Inv X (pins++zgs fp s.heap) σ H s :=
 I.zjU fun p hp=>(yal.mp hp).elim (fun z=>I.pin p (yag _ z)) fun z=>by
  obtain ⟨hb,e⟩:=zpB z
  obtain ⟨f0,f1,f2,_⟩:=hf p.1 hb
  obtain ⟨o,e',d⟩:=ho p.1 hb
  rw[e] at e';cases e'
  exact ⟨e,f0,f1,f2,d⟩
theorem Inv.unpinned {pins pl:List (Addr × Obj)} {σ:St} {H:Hp} {s:Shared} (I:Inv X (pins++pl) σ H s):Inv X pins σ H s:=I.zjU fun p hp=>I.pin p (yag _ (yav _ hp))
theorem zbW {iter:Expr} {body:List Stmt} {wi:TI} {g:TG} {tb:TS} {pos:Pos} (hp:PassesOwn (model X.prog X.w) X.A X.env X.xe) (hc:X.calm=true) (hi:PI X tg iter wi) (hg:PG X tg g) (hb:PSs X body tb)
  (hs:∀ x,foldedSetIterable iter X.env x=pure x:=by intro _;rfl):PS X (.For tg iter body [] pos) (ztU wi g tb):=by
 intro pins s σ H D I h
 refine wpAny_For (thn (hi pins s σ H _ I h) fun v s1 h1=>thn h1 fun itv s2 h2=>?_) hs
 obtain ⟨it,fp,tn,J,H2,e,I2,T,st2,f2,W,⟨m0,w0⟩,turn⟩:=h2
 subst e
 have stat:∀ {H':Hp},(∀ b∈fp,H' b=none)->∀ b∈fp,zaS X pins H' b:=fun hn b hb=>⟨hn b hb,(f2 b hb).2⟩
 refine codeAny_forLoop_any (fun n s'=>∃ i σ' H',Inv X pins σ' H' s'/\tn i s'.heap/\(∀ b∈fp,H' b=none)/\W i n σ' H') ?_ m0 ⟨0,σ,H2,I2,st2,fun b hb=>(f2 b hb).1,w0⟩
 rintro n s3 ⟨i,σ3,H3,I3,st3,fr3,w3⟩
 rcases turn i n σ3 H3 w3 with ⟨stop,qn⟩ | ⟨go,N,hN,step⟩
 ·refine wpAny_passesOwn hp (thn (T.done X rfl rfl rfl hc i pins s3 σ3 H3 X.xe I3 (stat fr3) st3 stop) fun r s4 ⟨hr,I4⟩=>?_)
  subst hr
  exact wpAny_execs_nil ⟨σ3,H3,I4,qn⟩
 ·refine wpAny_passesOwn hp (thn (T.item X rfl rfl rfl hc i pins s3 σ3 H3 X.xe I3 (stat fr3) st3 go) fun r s4 ⟨u,hr,h4⟩=>?_)
  subst hr
  refine wpAny_passesOwn hp (thn h4 fun _ s5 ⟨x,H5,I5,r5,y5,st5,fr5⟩=>?_)
  have I5':=I5.pinned (stat fr5) (T.obj _ _ st5)
  refine wpAny_passesOwn hp (thn (hg _ s5 σ3 H5 x u _ I5' r5 (step x H5 y5)) fun _ s6 ⟨σ6,H6,I6,q6⟩=>?_)
  refine wpAny_passesOwn hp (thn (hb _ s6 σ6 H6 _ I6 q6) fun f s7 q7=>?_)
  have again:∀ {σ7:St} {H7:Hp},Inv X (pins++zgs fp s5.heap) σ7 H7 s7->N σ7 H7->∃ m,m<n/\∃ i σ' H',Inv X pins σ' H' s7/\tn i s7.heap/\(∀ b∈fp,H' b=none)/\W i m σ' H':=fun {σ7 H7} I7 n7=>by
   obtain ⟨m',hm,w7⟩:=hN σ7 H7 n7
   refine ⟨m',hm,i+1,σ7,H7,I7.unpinned,T.keep _ _ _ st5 fun b hb o e=>(I7.pin (b,o) (yag _ (yag _ (zbh hb e)))).1,fun b hb=>?_,w7⟩
   obtain ⟨o,e,d⟩:=T.obj _ _ st5 b hb
   exact (I7.pin (b,o) (yag _ (yag _ (zbh hb e)))).2.1
  cases f with
  | next=>obtain ⟨σ7,H7,I7,n7⟩:=q7;exact again I7 n7
  | cont=>obtain ⟨σ7,H7,I7,n7⟩:=q7;exact again I7 n7
  | brk=>obtain ⟨σ7,H7,I7,q7⟩:=q7;exact ⟨σ7,H7,I7.unpinned,q7⟩
  | ret v=>obtain ⟨x7,σ7,H7,I7,r7,q7⟩:=q7;exact ⟨x7,σ7,H7,I7.unpinned,r7,q7⟩
end
theorem zbV {K:W.Frag} {a:Addr} {xs:List V} {g:TG} {tb:TS} {D:Ends} {σ:St} {H:Hp} (Pv:Nat->St->Hp->Prop) (h0:Pv 0 σ H) (hl:∀ i σ H,i<=xs.length->Pv i σ H->SqL K H a xs)
  (hs:∀ i x σ H,xs[i]?=some x->Pv i σ H->g x σ H fun σ2 H2=>tb { D with nx:=Pv (i+1),ct:=Pv (i+1),bk:=D.nx } σ2 H2) (hd:∀ σ H,Pv xs.length σ H->D.nx σ H) :
  ∃ W:Nat->Nat->St->Hp->Prop,(∃ m,W 0 m σ H)/\∀ i m σ H,W i m σ H ->
   ((Itl K a).stop i H/\D.nx σ H)\/((Itl K a).go i H/\∃ N:St->Hp->Prop,(∀ σ' H',N σ' H'->∃ m',m'<m/\W (i+1) m' σ' H')/\∀ x H',(Itl K a).yld i H x H'->g x σ H' fun σ2 H2=>tb { D with nx:=N,ct:=N,bk:=D.nx } σ2 H2):=by
 refine ⟨fun i m σ H=>m=xs.length-i/\i<=xs.length/\Pv i σ H,⟨xs.length,by simp,ycy _,h0⟩,?_⟩
 rintro i m σ H ⟨rfl,hi,p⟩
 have q:=hl i σ H hi p
 by_cases hlt:i<xs.length
 ·refine .inr ⟨⟨xs,xs[i],q,by simp[hlt]⟩,Pv (i+1),fun σ' H' p'=>⟨xs.length-(i+1),by ac_rfl,rfl,hlt,p'⟩,fun x H' y=>?_⟩
  obtain ⟨e,y⟩:=y
  subst e
  exact hs i x σ _ (y xs q) p
 ·have e:i=xs.length:=by ac_rfl
  subst e
  exact .inl ⟨⟨xs,q,ycu _⟩,hd σ H p⟩
theorem zhy {lo:Int} {n:Nat} {g:TG} {tb:TS} {D:Ends} {σ:St} {H:Hp} (Pv:Nat->St->Hp->Prop) (h0:Pv 0 σ H)
  (hs:∀ i σ H,i<n->Pv i σ H->g (.int (lo+i)) σ H fun σ2 H2=>tb { D with nx:=Pv (i+1),ct:=Pv (i+1),bk:=D.nx } σ2 H2) (hd:∀ σ H,Pv n σ H->D.nx σ H) :
  ∃ W:Nat->Nat->St->Hp->Prop,(∃ m,W 0 m σ H)/\∀ i m σ H,W i m σ H ->
   ((Itr lo n).stop i H/\D.nx σ H)\/((Itr lo n).go i H/\∃ N:St->Hp->Prop,(∀ σ' H',N σ' H'->∃ m',m'<m/\W (i+1) m' σ' H')/\∀ x H',(Itr lo n).yld i H x H'->g x σ H' fun σ2 H2=>tb { D with nx:=N,ct:=N,bk:=D.nx } σ2 H2):=by
 refine ⟨fun i m σ H=>m=n-i/\i<=n/\Pv i σ H,⟨n,by simp,ycy _,h0⟩,?_⟩
 rintro i m σ H ⟨rfl,hi,p⟩
 by_cases hlt:i<n
 ·refine .inr ⟨hlt,Pv (i+1),fun σ' H' p'=>⟨n-(i+1),by ac_rfl,rfl,hlt,p'⟩,fun x H' y=>?_⟩
  obtain ⟨e,y⟩:=y
  subst e y
  exact hs i σ _ hlt p
 ·have e:i=n:=by ac_rfl
  subst e
  exact .inl ⟨ycu _,hd σ H p⟩
noncomputable abbrev R2:=V->V->Hp->VK->Prop
def OpR (X:Cx) (f:Value->Value->Sem Value) (r:R2):Prop :=
 ∀ (pins:List (Addr × Obj)) (s:Shared) (σ:St) (H:Hp) (x y:V) (v u:Value) (Q:VK),Inv X pins σ H s->RelV x v->RelV y u->r x y H Q ->
  wpAny (model X.prog X.w) X.A (f v u) (EP X pins σ Q) X.xe s
def UnR (X:Cx) (f:Value->Sem Value) (r:V->Hp->VK->Prop):Prop :=
 ∀ (pins:List (Addr × Obj)) (s:Shared) (σ:St) (H:Hp) (x:V) (v:Value) (Q:VK),Inv X pins σ H s->RelV x v->r x H Q ->
  wpAny (model X.prog X.w) X.A (f v) (EP X pins σ Q) X.xe s
def zaT (X:Cx) (f:Value) (r:List V->Hp->VK->Prop):Prop :=
 ∀ (pins:List (Addr × Obj)) (s:Shared) (σ:St) (H:Hp) (xs:List V) (us:List Value) (Q:VK),Inv X pins σ H s->Vals xs us->r xs H Q ->
  wpAny (model X.prog X.w) X.A (call f us) (EP X pins σ Q) X.xe s
def tOp (r:R2) (ta tb:TE):TE:=fun σ H Q=>ta σ H fun x H1=>tb σ H1 fun y H2=>r x y H2 Q
def tUn (r:V->Hp->VK->Prop) (ta:TE):TE:=fun σ H Q=>ta σ H fun x H1=>r x H1 Q
def rI (C:Int->Int->Prop) (g:Int->Int->V):R2:=fun x y H Q=>∃ i j,x=.int i/\y=.int j/\C i j/\Q (g i j) H
def rI0 (g:Int->Int->V):R2:=fun x y H Q=>∃ i j,x=.int i/\y=.int j/\Q (g i j) H
noncomputable def rU (g:Int->V):V->Hp->VK->Prop:=fun x H Q=>∃ i,x=.int i/\Q (g i) H
section
variable {X:Cx} {a b c:Expr} {ta tb tc:TE} {pos:Pos}
theorem zqD (ha:PE X a ta) (hb:PE X b tb) {pins:List (Addr × Obj)} {s:Shared} {σ:St} {H:Hp} {R:V->V->Hp->Prop} (I:Inv X pins σ H s)
  (h:ta σ H fun x H1=>tb σ H1 fun y H2=>R x y H2) {Q:Value->Shared->Prop} {f:Value->Value->Sem Value}
  (hf:∀ v u s2 x y H2,Inv X pins σ H2 s2->RelV x v->RelV y u->R x y H2->wpAny (model X.prog X.w) X.A (f v u) Q X.xe s2) :
  wpAny (model X.prog X.w) X.A (eval a X.env) (fun v s₁=>wpAny (model X.prog X.w) X.A (eval b X.env) (fun u s₂=>wpAny (model X.prog X.w) X.A (f v u) Q X.xe s₂) X.xe s₁) X.xe s:=by
 refine thn (ha pins s σ H _ I h) fun v s1 ⟨x,H1,I1,r1,q1⟩=>?_
 refine thn (hb pins s1 σ H1 _ I1 q1) fun u s2 ⟨y,H2,I2,r2,q2⟩=>?_
 exact hf v u s2 x y H2 I2 r1 r2 q2
theorem zo {op:Operator} {r:R2} (ho:OpR X (binaryOp op) r) (ha:PE X a ta) (hb:PE X b tb):PE X (.BinOp a op b pos) (tOp r ta tb):=by
 intro pins s σ H Q I h
 exact wpAny_BinOp (zqD ha hb I h fun v u s2 x y H2 I2 rx ry q=>ho pins s2 σ H2 x y v u Q I2 rx ry q)
theorem zdA {op:UnaryOp} {r:V->Hp->VK->Prop} (ho:UnR X (unaryOp op) r) (ha:PE X a ta):PE X (.UnaryOp op a pos) (tUn r ta):=by
 intro pins s σ H Q I h
 exact UnaryOp_ (thn (ha pins s σ H _ I h) fun v s1 ⟨x,H1,I1,r1,q1⟩=>ho pins s1 σ H1 x v Q I1 r1 q1)
theorem opI {f:Value->Value->Sem Value} {C:Int->Int->Prop} {g:Int->Int->Int}
  (rule:∀ (i j:Int) (t u:Tok) (s:Shared) (Q:Value->Shared->Prop) (E:Value->Shared->Prop),C i j->Q (.int (g i j) s.toks) { s with toks:=s.toks+1 }->wpAny (model X.prog X.w) X.A (f (.int i t) (.int j u)) Q E s) :
  OpR X f (rI C fun i j=>.int (g i j)):=by
 intro pins s σ H x y v u Q I rx ry h
 obtain ⟨i,j,rfl,rfl,hc,q⟩:=h
 obtain ⟨t,rfl⟩:=rx
 obtain ⟨t',rfl⟩:=ry
 exact rule i j t t' s _ _ hc ⟨.int (g i j),H,I.tok _,⟨_,rfl⟩,q⟩
theorem zsK {f:Value->Value->Sem Value} {g:Int->Int->Int}
  (rule:∀ (i j:Int) (t u:Tok) (s:Shared) (Q:Value->Shared->Prop) (E:Value->Shared->Prop),Q (.int (g i j) s.toks) { s with toks:=s.toks+1 }->wpAny (model X.prog X.w) X.A (f (.int i t) (.int j u)) Q E s) :
  OpR X f (rI0 fun i j=>.int (g i j)):=by
 intro pins s σ H x y v u Q I rx ry h
 obtain ⟨i,j,rfl,rfl,q⟩:=h
 obtain ⟨t,rfl⟩:=rx
 obtain ⟨t',rfl⟩:=ry
 exact rule i j t t' s _ _ ⟨.int (g i j),H,I.tok _,⟨_,rfl⟩,q⟩
theorem zqM {f:Value->Value->Sem Value} {g:Int->Int->Bool}
  (rule:∀ (i j:Int) (t u:Tok) (s:Shared) (Q:Value->Shared->Prop) (E:Value->Shared->Prop),Q (.bool (g i j)) s->wpAny (model X.prog X.w) X.A (f (.int i t) (.int j u)) Q E s) :
  OpR X f (rI0 fun i j=>.bl (g i j)):=by
 intro pins s σ H x y v u Q I rx ry h
 obtain ⟨i,j,rfl,rfl,q⟩:=h
 obtain ⟨t,rfl⟩:=rx
 obtain ⟨t',rfl⟩:=ry
 exact rule i j t t' s _ _ ⟨.bl (g i j),H,I,rfl,q⟩
def CDiv (i j:Int):Prop:=0<j/\j<1073741824
def CPow (i j:Int):Prop:=0<=j/\j<=1000000/\i.natAbs<2 ^ 64
def CMul (i j:Int):Prop:=(-(2 ^ 64)<i/\i<2 ^ 64)\/(-(2 ^ 64)<j/\j<2 ^ 64)
theorem CMul.ok {i j:Int} (h:CMul i j):IntMulOk i j:=by
 rcases h with ⟨h1,h2⟩ | ⟨h1,h2⟩
 ·exact .of_left (intBits_le_64 h1 h2)
 ·exact .of_right (intBits_le_64 h1 h2)
theorem zaF:OpR X (binaryOp .Add) (rI0 fun i j=>.int (i+j)):=zsK fun _ _ _ _ _ _ _ q=>add_int q
theorem zeH:OpR X (binaryOp .Sub) (rI0 fun i j=>.int (i-j)):=zsK fun _ _ _ _ _ _ _ q=>sub_int q
theorem zhx:OpR X (binaryOp .Mult) (rI CMul fun i j=>.int (i*j)):=opI fun _ _ _ _ _ _ _ hc q=>mul_int q hc.ok
theorem zbs:OpR X (binaryOp .FloorDiv) (rI CDiv fun i j=>.int (i / j)):=opI fun i j _ _ _ _ _ hc q=>by
 have h1:(0:Int)<j:=hc.1
 have h2:j<1073741824:=hc.2
 exact floordiv_int (by ac_rfl) (by rw[Int.fdiv_eq_ediv_of_nonneg i (by ac_rfl)];exact q) (.inl (PyProof.noPylong_small (by ac_rfl)))
theorem zK:OpR X (binaryOp .Mod) (rI (fun _ j=>0<j) fun i j=>.int (i % j)):=opI fun i j _ _ _ _ _ hc q=>by
 have h1:(0:Int)<j:=hc
 exact mod_int' (by ac_rfl) (by rw[Int.fmod_eq_emod_of_nonneg i (by ac_rfl)];exact q)
theorem zsA:OpR X (binaryOp .Pow) (rI CPow fun i j=>.int (i ^ j.toNat)):=opI fun _ _ _ _ _ _ _ hc q=>pow_int_small hc.1 hc.2.1 hc.2.2 q
theorem unI {f:Value->Sem Value} {g:Int->Int}
  (rule:∀ (i:Int) (t:Tok) (s:Shared) (Q:Value->Shared->Prop) (E:Value->Shared->Prop),Q (.int (g i) s.toks) { s with toks:=s.toks+1 }->wpAny (model X.prog X.w) X.A (f (.int i t)) Q E s) :
  UnR X f (rU fun i=>.int (g i)):=by
 intro pins s σ H x v Q I rx h
 obtain ⟨i,rfl,q⟩:=h
 obtain ⟨t,rfl⟩:=rx
 exact rule i t s _ _ ⟨.int (g i),H,I.tok _,⟨_,rfl⟩,q⟩
theorem zcp:UnR X (unaryOp .USub) (rU fun i=>.int (-i)):=unI fun _ _ _ _ _ q=>neg_int q
end
noncomputable def scal:V->V->Bool
 | .non,.non=>true | .non,.int _=>true | .int _,.non=>true | .non,.bl _=>true | .bl _,.non=>true | .non,.str _=>true | .str _,.non=>true
 | .int _,.int _=>true | .bl _,.bl _=>true | .str _,.str _=>true | .byt _,.byt _=>true
 | .int _,.str _=>true | .str _,.int _=>true | .bl _,.str _=>true | .str _,.bl _=>true
 | _,_=>false
def rEq:R2:=fun x y H Q=>scal x y=true/\Q (.bl (decide (x=y))) H
def rNe:R2:=fun x y H Q=>scal x y=true/\Q (.bl (!decide (x=y))) H
theorem zn4 {i j:Int}:decide (V.int i=V.int j)=(i == j):=by
 rw[Bool.eq_iff_iff]
 simp
theorem zpi {i j:Bool}:decide (V.bl i=V.bl j)=(i == j):=by
 rw[Bool.eq_iff_iff]
 simp
theorem znS {i j:Str}:decide (V.str i=V.str j)=(i == j):=by
 rw[Bool.eq_iff_iff]
 simp
theorem znJ {i j:Array UInt8}:decide (V.byt i=V.byt j)=(i.toList == j.toList):=by
 rw[Bool.eq_iff_iff]
 cases i
 cases j
 simp
section
variable {X:Cx} {a b c:Expr} {ta tb tc:TE} {pos:Pos}
theorem zY {pins:List (Addr × Obj)} {σ:St} {H:Hp} {s:Shared} {Q:VK} {k k':Bool} (I:Inv X pins σ H s) (q:Q (.bl k) H) (e:k=k'):EP X pins σ Q (.bool k') s:=by
 subst e
 exact ⟨.bl k,H,I,rfl,q⟩
theorem zah:OpR X (compareOp .Eq) rEq:=by
 intro pins s σ H x y v u Q I rx ry h
 obtain ⟨hs,q⟩:=h
 cases x with
 | non =>
  cases rx
  cases y with
  | non=>cases ry;exact PySem.EqNone.eq_none_none (zY I q (by simp))
  | bl j=>cases ry;exact PySem.EqNone.eq_none_bool (zY I q (by simp))
  | int j=>obtain ⟨t',rfl⟩:=ry;exact PySem.EqNone.eq_none_int (zY I q (by simp))
  | str j=>obtain ⟨t',rfl⟩:=ry;exact PySem.EqNone.eq_none_str (zY I q (by simp))
  | _=>exact absurd (show false=true from hs) Bool.false_ne_true
 | bl i =>
  cases rx
  cases y with
  | non=>cases ry;exact PySem.EqNone.eq_bool_none (zY I q (by simp))
  | bl j=>cases ry;exact eq_bool (zY I q zpi)
  | str j=>obtain ⟨t',rfl⟩:=ry;exact PySem.EqMixed.eq_bool_str (zY I q (by simp))
  | _=>exact absurd (show false=true from hs) Bool.false_ne_true
 | int i =>
  obtain ⟨t,rfl⟩:=rx
  cases y with
  | non=>cases ry;exact PySem.EqNone.eq_int_none (zY I q (by simp))
  | int j=>obtain ⟨t',rfl⟩:=ry;exact eq_int (zY I q zn4)
  | str j=>obtain ⟨t',rfl⟩:=ry;exact PySem.EqMixed.eq_int_str (zY I q (by simp))
  | _=>exact absurd (show false=true from hs) Bool.false_ne_true
 | str i =>
  obtain ⟨t,rfl⟩:=rx
  cases y with
  | non=>cases ry;exact PySem.EqNone.eq_str_none (zY I q (by simp))
  | bl j=>cases ry;exact PySem.EqMixed.eq_str_bool (zY I q (by simp))
  | int j=>obtain ⟨t',rfl⟩:=ry;exact PySem.EqMixed.eq_str_int (zY I q (by simp))
  | str j=>obtain ⟨t',rfl⟩:=ry;exact eq_str (zY I q znS)
  | _=>exact absurd (show false=true from hs) Bool.false_ne_true
 | byt i =>
  obtain ⟨t,rfl⟩:=rx
  cases y with
  | byt j=>obtain ⟨t',rfl⟩:=ry;exact PySem.W.eq_bytes (zY I q znJ)
  | _=>exact absurd (show false=true from hs) Bool.false_ne_true
 | _=>cases y <;> exact absurd (show false=true from hs) Bool.false_ne_true
theorem ztu:OpR X (compareOp .NotEq) rNe:=by
 intro pins s σ H x y v u Q I rx ry h
 obtain ⟨hs,q⟩:=h
 cases x with
 | non =>
  cases rx
  cases y with
  | non=>cases ry;exact PySem.EqNone.ne_none_none (zY I q (by simp))
  | bl j=>cases ry;exact PySem.EqNone.ne_none_bool (zY I q (by simp))
  | int j=>obtain ⟨t',rfl⟩:=ry;exact PySem.EqNone.ne_none_int (zY I q (by simp))
  | str j=>obtain ⟨t',rfl⟩:=ry;exact PySem.EqNone.ne_none_str (zY I q (by simp))
  | _=>exact absurd (show false=true from hs) Bool.false_ne_true
 | bl i =>
  cases rx
  cases y with
  | non=>cases ry;exact PySem.EqNone.ne_bool_none (zY I q (by simp))
  | bl j=>cases ry;exact ne_bool (zY I q (congrArg not zpi))
  | str j=>obtain ⟨t',rfl⟩:=ry;exact PySem.EqMixed.ne_bool_str (zY I q (by simp))
  | _=>exact absurd (show false=true from hs) Bool.false_ne_true
 | int i =>
  obtain ⟨t,rfl⟩:=rx
  cases y with
  | non=>cases ry;exact PySem.EqNone.ne_int_none (zY I q (by simp))
  | int j=>obtain ⟨t',rfl⟩:=ry;exact ne_int (zY I q (congrArg not zn4))
  | str j=>obtain ⟨t',rfl⟩:=ry;exact PySem.EqMixed.ne_int_str (zY I q (by simp))
  | _=>exact absurd (show false=true from hs) Bool.false_ne_true
 | str i =>
  obtain ⟨t,rfl⟩:=rx
  cases y with
  | non=>cases ry;exact PySem.EqNone.ne_str_none (zY I q (by simp))
  | bl j=>cases ry;exact PySem.EqMixed.ne_str_bool (zY I q (by simp))
  | int j=>obtain ⟨t',rfl⟩:=ry;exact PySem.EqMixed.ne_str_int (zY I q (by simp))
  | str j=>obtain ⟨t',rfl⟩:=ry;exact ne_str (zY I q (congrArg not znS))
  | _=>exact absurd (show false=true from hs) Bool.false_ne_true
 | byt i =>
  obtain ⟨t,rfl⟩:=rx
  cases y with
  | byt j=>obtain ⟨t',rfl⟩:=ry;exact PySem.W.ne_bytes (zY I q (congrArg not znJ))
  | _=>exact absurd (show false=true from hs) Bool.false_ne_true
 | _=>cases y <;> exact absurd (show false=true from hs) Bool.false_ne_true
theorem zoJ:OpR X (compareOp .Lt) (rI0 fun i j=>.bl (decide (i<j))):=zqM fun _ _ _ _ _ _ _ q=>lt_int q
theorem zi2:OpR X (compareOp .LtE) (rI0 fun i j=>.bl (decide (i<=j))):=zqM fun _ _ _ _ _ _ _ q=>le_int q
theorem zlw:OpR X (compareOp .Gt) (rI0 fun i j=>.bl (decide (j<i))):=zqM fun _ _ _ _ _ _ _ q=>gt_int q
theorem nomark (b:Expr) {op:CmpOp} (h:op≠.In:=by decide) (h2:op≠.NotIn:=by decide):behindInMarks op b=false:=by
 have e1:(op == CmpOp.In)=false:=by cases op <;> first | rfl | exact absurd rfl h
 have e2:(op == CmpOp.NotIn)=false:=by cases op <;> first | rfl | exact absurd rfl h2
 cases b <;> simp[behindInMarks,e1,e2]
theorem zhZ {op:CmpOp} {r:R2} (ho:OpR X (compareOp op) r) (ha:PE X a ta) (hb:PE X b tb) (hm:behindInMarks op b=false):PE X (.Compare a [op] [b] pos) (tOp r ta tb):=by
 intro pins s σ H Q I h
 exact wpAny_Compare1 (zqD ha hb I h fun v u s2 x y H2 I2 rx ry q=>ho pins s2 σ H2 x y v u Q I2 rx ry q) hm
def zs8 (t:TE):TT:=fun σ H Q=>t σ H fun x H'=>∃ k,x=.bl k/\Q k H'
theorem zw {op:CmpOp} {r:R2} (ho:OpR X (compareOp op) r) (ha:PE X a ta) (hb:PE X b tb) (hm:behindInMarks op b=false):PT X (.Compare a [op] [b] pos) (zs8 (tOp r ta tb)):=by
 intro pins s σ H Q I h
 refine wpAny_isTrue_Compare1 (thn (ha pins s σ H _ I h) fun v s1 ⟨x,H1,I1,r1,q1⟩=>thn (hb pins s1 σ H1 _ I1 q1) fun u s2 ⟨y,H2,I2,r2,q2⟩ =>
  thn (ho pins s2 σ H2 x y v u _ I2 r1 r2 q2) fun c s3 ⟨z,H3,I3,r3,k,e,q3⟩=>?_) hm
 subst e
 cases r3
 exact wpAny_truthy_bool ⟨H3,I3,q3⟩
def zsD (r r':R2) (ta tb tc:TE):TE:=fun σ H Q=>ta σ H fun x H1=>tb σ H1 fun y H2=>r x y H2 fun z H3=>∃ k,z=.bl k /\
 (if k=true then tc σ H3 fun w' H4=>r' y w' H4 Q else Q (.bl false) H3)
theorem zqC {op op':CmpOp} {r r':R2} (ho:OpR X (compareOp op) r) (ho':OpR X (compareOp op') r') (ha:PE X a ta) (hb:PE X b tb) (hc:PE X c tc)
  (hm:lastMarks [op,op'] [b,c]=false:=by with_unfolding_all rfl):PE X (.Compare a [op,op'] [b,c] pos) (zsD r r' ta tb tc):=by
 intro pins s σ H Q I h
 refine Compare_chain (thn (ha pins s σ H _ I h) fun v s1 ⟨x,H1,I1,r1,q1⟩=>chain_link (thn (hb pins s1 σ H1 _ I1 q1) fun u s2 ⟨y,H2,I2,r2,q2⟩ =>
  thn (ho pins s2 σ H2 x y v u _ I2 r1 r2 q2) fun d s3 ⟨z,H3,I3,r3,k,e,q3⟩=>?_)) hm
 subst e
 cases r3
 refine wpAny_truthy_bool ?_
 cases k with
 | false=>exact ite_ff ⟨.bl false,H3,I3,rfl,q3⟩
 | true=>exact ite_tt (chain_last (thn (hc pins s3 σ H3 _ I3 q3) fun w' s4 ⟨z',H4,I4,r4,q4⟩=>ho' pins s4 σ H4 y z' u w' Q I4 r2 r4 q4))
theorem zjz:(sizeLine:Nat)<2 ^ 63:=by rw[sizeLine_eq];decide
theorem vals1 {x:V} {us:List Value} (r:Vals [x] us):∃ u,us=[u]/\RelV x u:=by
 cases r with
 | cons r1 r2=>cases r2;exact ⟨_,rfl,r1⟩
theorem vals2 {x y:V} {us:List Value} (r:Vals [x,y] us):∃ u w',us=[u,w']/\RelV x u/\RelV y w':=by
 cases r with
 | cons r1 r2 =>
  cases r2 with
  | cons r3 r4=>cases r4;exact ⟨_,_,rfl,r1,r3⟩
theorem zhu (hc:X.calm=true):zaT X (.builtin "max") (fun xs H Q=>∃ i j,xs=[.int i,.int j]/\Q (.int (if j > i then j else i)) H):=by
 intro pins s σ H xs us Q I r h
 obtain ⟨i,j,rfl,q⟩:=h
 obtain ⟨u,w',rfl,⟨t,rfl⟩,⟨t',rfl⟩⟩:=vals2 r
 refine max_two_ints (I.ok.hd hc) fun h' tk k=>⟨_,H,I.kept k,?_,q⟩
 by_cases hj:j > i
 ·rw[if_pos hj,if_pos hj];exact ⟨_,rfl⟩
 ·rw[if_neg hj,if_neg hj];exact ⟨_,rfl⟩
theorem zpl (hc:X.calm=true):zaT X (.builtin "min") (fun xs H Q=>∃ i j,xs=[.int i,.int j]/\Q (.int (if j<i then j else i)) H):=by
 intro pins s σ H xs us Q I r h
 obtain ⟨i,j,rfl,q⟩:=h
 obtain ⟨u,w',rfl,⟨t,rfl⟩,⟨t',rfl⟩⟩:=vals2 r
 refine min_two_ints (I.ok.hd hc) fun h' tk k=>⟨_,H,I.kept k,?_,q⟩
 by_cases hj:j<i
 ·rw[if_pos hj,if_pos hj];exact ⟨_,rfl⟩
 ·rw[if_neg hj,if_neg hj];exact ⟨_,rfl⟩
theorem zp2:zaT X (.type "int") (fun xs H Q=>(∃ i,xs=[.int i]/\Q (.int i) H)\/∃ k,xs=[.bl k]/\Q (.int (if k then 1 else 0)) H):=by
 intro pins s σ H xs us Q I r h
 rcases h with ⟨i,rfl,q⟩ | ⟨k,rfl,q⟩
 ·obtain ⟨u,rfl,t,rfl⟩:=vals1 r
  exact call_int_int ⟨.int i,H,I,⟨_,rfl⟩,q⟩
 ·obtain ⟨u,rfl,r1⟩:=vals1 r
  cases r1
  exact call_int_bool ⟨.int (if k then 1 else 0),H,I.tok _,⟨_,rfl⟩,q⟩
end
structure ziY (h:Heap) (x dx C:Addr) (mA:Str->Option Value):Prop where
 obj:h.get? x=some (PySem.W.instObj C dx)
 ns:h.Ns1 dx mA
 ne:dx≠x
theorem zpu {h:Heap} {dx:Addr} {mA:Str->Option Value} (n:h.Ns1 dx mA):∃ od,h.get? dx=some od/\∀ name,PySem.W.lookIn name od=some (mA name):=by
 obtain ⟨o,es,ep,ho,hd,hk,_,hm⟩:=n
 refine ⟨o,ho,fun name=>?_⟩
 have e:=hm name
 unfold nsFind findBy at e
 rw[<-Array.find?_toList] at e
 unfold PySem.W.lookIn
 rw[hd]
 dsimp only
 split
 ·rename_i y q
  rw[q] at e
  exact congrArg some e
 ·rename_i q
  rw[q] at e
  have a:es.toList.any (·.refKey)=false:=by
   rw[List.any_eq_false]
   intro y hy
   obtain ⟨z,t,hkey⟩:=hk y (Array.mem_toList_iff.mp hy)
   simp[DictEntry.refKey,hkey]
  have a':¬ es.toList.any (·.refKey)=true:=by rw[a];exact Bool.false_ne_true
  rw[if_neg a']
  exact congrArg some e
theorem ziY.look {h:Heap} {x dx C:Addr} {mA:Str->Option Value} (I:ziY h x dx C mA):∃ od,PySem.W.InstAt h x (PySem.W.instObj C dx) C (some od)/\∀ name,PySem.W.lookIn name od=some (mA name) :=
 let ⟨od,ho,hl⟩:=zpu I.ns
 ⟨od,⟨I.obj,rfl,rfl,ho⟩,hl⟩
section
variable {prog:Program} {w:World} {A:Around} {E:Value->Shared->Prop} {s:Shared} {K:W.Frag} {x dx C f:Addr} {mA:Str->Option Value} {name:Str} {v:Value}
theorem get_map {expr:Bool} {Q:Value->Shared->Prop} (X:K.In s.heap) (I:ziY s.heap x dx C mA) (hg:PySem.W.plainGet K C name=true) (hh:PySem.W.hasDictIn K C=true)
  (ha:PySem.W.findIn K (.ref C) name=some none) (hv:mA name=some v) (hv':PySem.W.handedIn v=true) (h:Q v { s with toks:=s.toks+1 }) :
  wpAny (model prog w) A (getAttr (.ref x) name expr) Q E s:=by
 obtain ⟨od,J,hl⟩:=I.look
 exact PySem.W.get_value X J (PySem.W.plainGet_of hg).1 (PySem.W.findObj_own hh ha rfl (by rw[hl,hv])) hv' h
theorem zqy {pl:Sem Bool} {Q:Value × List Value->Shared->Prop} (X:K.In s.heap) (I:ziY s.heap x dx C mA) (hg:PySem.W.plainGet K C name=true)
  (hf:PySem.W.findIn K (.ref C) name=some (some (.ref f))) (ht:PySem.W.isFn K (.ref f)=true) (hv:mA name=none) (h:Q (.ref f,[.ref x]) s) :
  wpAny (model prog w) A (getMethod (.ref x) name pl) Q E s:=by
 obtain ⟨od,J,hl⟩:=I.look
 exact PySem.W.method_fn X J (PySem.W.plainGet_of hg).1 (PySem.W.plainGet_of hg).2 hf (beq_iff_eq.mp ht) (by show (PySem.W.lookIn name od).map (·.isSome)=some false;rw[hl,hv];rfl) h
theorem zrk {ns:List Str} {Q:Unit->Shared->Prop} (X:K.In s.heap) (I:ziY s.heap x dx C mA)
  (hs:PySem.W.findIn K (.ref C) "__setattr__" = some (some (.builtin "object.__setattr__"))) (hp:PySem.W.plainOver K C=true) (ht:PySem.W.takerIn K C name=some none) (hh:PySem.W.hasDictIn K C=true)
  (hw:PySem.Within mA ns) (hsz:ns.length<=sizeLine)
  (h:∀ h',ziY h' x dx C (fun y=>if y=name then some v else mA y)->Heap.SameBut dx s.heap h'->Q () { s with heap:=h',toks:=s.toks+2 }) :
  wpAny (model prog w) A (setAttr (.ref x) name v) Q E s:=by
 obtain ⟨od,J,hl⟩:=I.look
 refine PySem.W.set_plain X J hs (PySem.W.osa_open (s:={ s with toks:=s.toks+1 }) (r:=none) X J hp ht fun b=>?_)
 obtain ⟨cd,hc,hd'⟩:=PySem.W.any_some hh
 have hx:s.heap.get? x=some ⟨.ref C,some dx,.plain,#[]⟩:=I.obj
 refine wpAny_bind (wpAny_pure (wpAny_bind (wpAny_bind (wpAny_loadPart hx (wpAny_bind (PySem.W.Looks.here (s:={ s with toks:=s.toks+1 }) (PySem.W.looks_clsIn X hc) ?_))))))
 rw[hd']
 refine wpAny_pure (a:=some dx) (wpAny_bind (wpAny_pure (wpAny_bind ?_)))
 refine wpAny_nsSet1 (s:={ s with toks:=s.toks+1 }) I.ns fun h' hn2 hs2=>?_
 obtain ⟨oD,esD,epD,hoD,hdD,hcD⟩:=hn2.count (PySem.Within.cons name v hw)
 refine wpAny_bind (wpAny_lookBehind hoD (by rw[hdD];exact pastItsLine_dict (ycz hcD (by rw[ybd];ac_rfl))) ?_)
 exact wpAny_pure (h _ ⟨(hs2.2 _ (Ne.symm I.ne)).trans I.obj,hn2,I.ne⟩ hs2)
theorem zqd {R:Result->Shared->Prop} {vs:List Value} {kw:List (Str × Value)} (X:K.In s.heap) (hm:PySem.W.makesIn K C=true)
  (hi:PySem.W.findIn K (.ref C) "__init__" = some (some (.ref f))) (hf:PySem.W.typeIn K (.ref f)=some (.type "function"))
  (h:codeAny (model prog w) (A.under (.builtin "type.__call__" ⟨.ref C::vs,kw⟩)) (.call (.ref f) ⟨.ref (s.heap.objs.size+1)::vs,kw⟩) (PySem.W.InitBack (s.heap.objs.size+1) R)
   { s with heap:=(s.heap.push PySem.W.emptyDict).push (PySem.W.instObj C s.heap.objs.size) }) :
  codeAny (model prog w) A (.call (.ref C) ⟨vs,kw⟩) R s:=by
 obtain ⟨hh,g,d,t,os⟩:=s
 exact PySem.W.make_core (PySem.W.makes_of X hm) (PySem.W.looks_findIn X hi) (fun self=>PySem.W.bind_fn X self hf) (.inl rfl) h
theorem zpk {R:Result->Shared->Prop} (X:K.In s.heap) (hm:PySem.W.makesIn K C=true)
  (hi:PySem.W.findIn K (.ref C) "__init__" = some (some (.builtin "object.__init__")))
  (hb:∀ self,PySem.W.Looks (model prog w) s.heap (bindSpecial (.builtin "object.__init__") self) (.builtin "object.__init__", [self]))
  (h:codeAny (model prog w) (A.under (.builtin "type.__call__" ⟨[.ref C],[]⟩)) (.call (.builtin "object.__init__") ⟨[.ref (s.heap.objs.size+1)],[]⟩) (PySem.W.InitBack (s.heap.objs.size+1) R)
   { s with heap:=(s.heap.push PySem.W.emptyDict).push (PySem.W.instObj C s.heap.objs.size) }) :
  codeAny (model prog w) A (.call (.ref C) ⟨[],[]⟩) R s:=by
 obtain ⟨hh,g,d,t,os⟩:=s
 exact PySem.W.make_core (PySem.W.makes_of X hm) (PySem.W.looks_findIn X hi) hb (.inr ⟨rfl,rfl⟩) h
end
noncomputable def zas (f:Str) (v:V):List (Str × V)->List (Str × V)
 | []=>[(f,v)]
 | (g,x)::r=>if g=f then (g,v)::r else (g,x)::zas f v r
theorem zij (f g:Str) (v:V):∀ fs:List (Str × V),(zas f v fs).lookup g=if g=f then some v else fs.lookup g
 | []=>by
  show ybx g [(f,v)]=_
  by_cases h:g=f
  ·have hb:(g == f)=true:=beq_iff_eq.mpr h
   simp only[ybx,hb,if_pos h]
  ·have hb:(g == f)=false:=beq_eq_false_iff_ne.mpr h
   simp only[ybx,hb,if_neg h]
 | (k,x)::r=>by
  have ih:=zij f g v r
  rw[show zas f v ((k,x)::r)=(if k=f then (k,v)::r else (k,x)::zas f v r) from rfl]
  by_cases hk:k=f
  ·rw[if_pos hk]
   by_cases h:g=k
   ·have hb:(g == k)=true:=beq_iff_eq.mpr h
    simp only[ybx,hb,if_pos (h.trans hk)]
   ·have hb:(g == k)=false:=beq_eq_false_iff_ne.mpr h
    simp only[ybx,hb,if_neg (fun e:g=f=>h (e.trans hk.symm))]
  ·rw[if_neg hk]
   by_cases h:g=k
   ·have hb:(g == k)=true:=beq_iff_eq.mpr h
    simp only[ybx,hb,if_neg (fun e:g=f=>hk (h.symm.trans e))]
   ·have hb:(g == k)=false:=beq_eq_false_iff_ne.mpr h
    simp only[ybx,hb]
    exact ih
theorem zhn (f:Str) (v:V):∀ fs:List (Str × V),f∈(zas f v fs).map (·.1)/\∀ g,g∈fs.map (·.1)->g∈(zas f v fs).map (·.1)
 | []=>⟨by simp[zas],fun g h=>by simp at h⟩
 | (k,x)::r=>by
  obtain ⟨i1,i2⟩:=zhn f v r
  rw[show zas f v ((k,x)::r)=(if k=f then (k,v)::r else (k,x)::zas f v r) from rfl]
  by_cases hk:k=f
  ·rw[if_pos hk]
   subst hk
   exact ⟨by simp,fun g h=>by simpa using h⟩
  ·rw[if_neg hk]
   refine ⟨?_,fun g h=>?_⟩
   ·rw[ybt]
    exact yaj _ i1
   ·rw[ybt] at h ⊢
    rcases yak.mp h with e | e
    ·exact yak.mpr (.inl e)
    ·exact yaj _ (i2 g e)
theorem ziw (f:Str) (v:V):∀ fs:List (Str × V),(zas f v fs).length<=fs.length+1
 | []=>by simp[zas]
 | (k,x)::r=>by
  have ih:=ziw f v r
  rw[show zas f v ((k,x)::r)=(if k=f then (k,v)::r else (k,x)::zas f v r) from rfl]
  by_cases hk:k=f
  ·rw[if_pos hk,ybd,ybd];ac_rfl
  ·rw[if_neg hk,ybd,ybd];ac_rfl
theorem zgc.some_of {v:V} {o:Option Value} (r:zgc (some v) o):∃ u,o=some u/\RelV v u:=by
 cases o with
 | none=>exact (show False from r).elim
 | some u=>exact ⟨u,rfl,r⟩
theorem zgc.none_of {o:Option Value} (r:zgc none o):o=none:=by
 cases o with
 | none=>rfl
 | some u=>exact (show False from r).elim
theorem zpA {v:V} {u:Value} (r:RelV v u):PySem.W.handedIn u=true:=by
 cases v with
 | non=>cases (show u=Value.none from r);rfl
 | bl b=>cases (show u=Value.bool b from r);rfl
 | int i=>obtain ⟨t,e⟩:=(show ∃ t,u=Value.int i t from r);cases e;rfl
 | str x=>obtain ⟨t,e⟩:=(show ∃ t,u=Value.str x t from r);cases e;rfl
 | byt b=>obtain ⟨t,e⟩:=(show ∃ t,u=Value.bytes b t from r);cases e;rfl
 | flt b=>obtain ⟨t,e⟩:=(show ∃ t,u=Value.float b t from r);cases e;rfl
 | ref a=>cases (show u=Value.ref a from r);rfl
 | ty n=>cases (show u=Value.type n from r);rfl
section
variable {P:Program} {w:World} {H H':Hp} {h h':Heap} {a C dx:Addr} {fs fs':List (Str × V)}
theorem zib (hok:HOk P w H h) (e:H a=some (.ins C dx fs)):∃ mA,ziY h a dx C mA/\(∀ f,zgc (fs.lookup f) (mA f))/\PySem.Within mA (fs.map (·.1))/\fs.length<=1000/\H dx=some (.own a):=by
 obtain ⟨d,z,ne,ob,mA,n,r,q⟩:=(show zad P w H h a (.ins C dx fs) from hok a _ e)
 exact ⟨mA,⟨ob,n,ne⟩,r,q,z,d⟩
end
structure Cls (K:W.Frag) (C:Addr):Prop where
 pg:PySem.W.plainGet K C Str.empty=true
 hd:PySem.W.hasDictIn K C=true
 po:PySem.W.plainOver K C=true
 sa:PySem.W.findIn K (.ref C) "__setattr__" = some (some (.builtin "object.__setattr__"))
theorem Cls.get {K:W.Frag} {C:Addr} (c:Cls K C) (f:Str):PySem.W.plainGet K C f=true:=c.pg
def zX (K:W.Frag) (C:Addr) (f:Str):Prop:=PySem.W.findIn K (.ref C) f=some none
theorem zX.taker {K:W.Frag} {C:Addr} {f:Str} (n:zX K C f):PySem.W.takerIn K C f=some none:=by
 unfold PySem.W.takerIn
 rw[show PySem.W.findIn K (.ref C) f=some none from n]
 rfl
structure Meth (K:W.Frag) (C:Addr) (m:Str) (f:Addr):Prop where
 at_:PySem.W.findIn K (.ref C) m=some (some (.ref f))
 fn:PySem.W.isFn K (.ref f)=true
 kp:PySem.W.keepIn K (.ref f)=true
section
variable {X:Cx} {pins:List (Addr × Obj)} {σ:St} {H:Hp} {s:Shared} {a C dx:Addr} {fs:List (Str × V)} {f:Str} {v:V} {A:Around} {E:Value->Shared->Prop}
theorem zjs {b:Bool} {Q:Value->Shared->Prop} (I:Inv X pins σ H s) (e:H a=some (.ins C dx fs)) (c:Cls X.K C) (n:zX X.K C f) (l:fs.lookup f=some v)
  (h:∀ u s',Inv X pins σ H s'->RelV v u->Q u s'):wpAny (model X.prog X.w) A (getAttr (.ref a) f b) Q E s:=by
 obtain ⟨mA,O,r,_,_,_⟩:=zib I.hok e
 obtain ⟨u,hu,ru⟩:=zgc.some_of (v:=v) (o:=mA f) (by rw[<-l];exact r f)
 exact get_map I.kIn O (c.get f) c.hd n hu (zpA ru) (h u _ (I.tok _) ru)
theorem zek {m:Str} {g:Addr} {pl:Sem Bool} {Q:Value × List Value->Shared->Prop} (I:Inv X pins σ H s) (e:H a=some (.ins C dx fs)) (c:Cls X.K C) (k:Meth X.K C m g) (l:fs.lookup m=none)
  (h:Q (.ref g,[.ref a]) s):wpAny (model X.prog X.w) A (getMethod (.ref a) m pl) Q E s:=by
 obtain ⟨mA,O,r,_,_,_⟩:=zib I.hok e
 have hn:mA m=none:=zgc.none_of (by rw[<-l];exact r m)
 exact zqy I.kIn O (c.get m) k.at_ k.fn hn h
theorem zjt {y:V} {u:Value} {Q:Unit->Shared->Prop} (I:Inv X pins σ H s) (e:H a=some (.ins C dx fs)) (c:Cls X.K C) (n:zX X.K C f) (hl:fs.length<1000) (ry:RelV y u)
  (h:∀ s',Inv X pins σ (upd H a (.ins C dx (zas f y fs))) s'->Q () s'):wpAny (model X.prog X.w) A (setAttr (.ref a) f u) Q E s:=by
 obtain ⟨mA,O,r,wi,_,ho⟩:=zib I.hok e
 have hz:(fs.map (·.1)).length<=sizeLine:=by rw[yab,sizeLine_eq];ac_rfl
 refine zrk I.kIn O c.sa c.po n.taker c.hd wi hz fun h' O' sb=>h _ ?_
 have hd:∃ o,h'.get? dx=some o:=let ⟨o,_,_,e',_⟩:=O'.ns;⟨o,e'⟩
 refine I.write (x:=a) (e:=dx) (by rw[e];exact True.intro) (.inr ho) (fun b q hb z=>(sb.2 b hb).trans z) hd ?_
 refine ⟨by rw[zi O.ne];exact ho,?_,O.ne,O'.obj,_,O'.ns,fun g=>?_,fun g hg=>?_⟩
 ·have:=ziw f y fs;ac_rfl
 ·show zgc ((zas f y fs).lookup g) (if g=f then some u else mA g)
  rw[zij]
  by_cases q:g=f
  ·rw[if_pos q,if_pos q];exact ry
  ·rw[if_neg q,if_neg q];exact r g
 ·by_cases q:g=f
  ·rw[q];exact (zhn f y fs).1
  ·refine (zhn f y fs).2 g (wi g fun z=>hg ?_)
   show (if g=f then some u else mA g)=none
   rw[if_neg q];exact z
theorem Inv.made (I:Inv X pins σ H s):Inv X pins σ (upd (upd H s.heap.objs.size (.own (s.heap.objs.size+1))) (s.heap.objs.size+1) (.ins C s.heap.objs.size []))
  { s with heap:=(s.heap.push PySem.W.emptyDict).push (PySem.W.instObj C s.heap.objs.size) }:=by
 have e1:(s.heap.push PySem.W.emptyDict).get? s.heap.objs.size=some PySem.W.emptyDict:=ydm s.heap rfl
 have e2:((s.heap.push PySem.W.emptyDict).push (PySem.W.instObj C s.heap.objs.size)).get? (s.heap.objs.size+1)=some (PySem.W.instObj C s.heap.objs.size):=by
  have:=ydm (s.heap.push PySem.W.emptyDict) (o:=PySem.W.instObj C s.heap.objs.size) rfl
  rwa [ydq] at this
 have e3:(s.heap.push PySem.W.emptyDict).Ns s.heap.objs.size (fun _=>none):=⟨PySem.W.emptyDict,#[],_,e1,rfl,(fun e he=>absurd he (by simp)),fun _=>rfl⟩
 have I1:=I.laid (a:=s.heap.objs.size) (o:=.own (s.heap.objs.size+1)) (h':=s.heap.push PySem.W.emptyDict) (t':=s.toks) (fun b u q=>ydk _ q) (ycu _) ⟨_,e1⟩
 refine I1.laid (a:=s.heap.objs.size+1) (o:=.ins C s.heap.objs.size []) (t':=s.toks) (fun b u q=>ydk _ q) (Nat.le_of_eq (ydq _ _)) ?_
 have ne:s.heap.objs.size≠s.heap.objs.size+1:=ycv (ydb _)
 refine ⟨by rw[zi ne,ze],ycy _,ne,e2,fun _=>none,(Heap.Ns1.of_empty e3).at fun o q=>ydk _ q,fun _=>True.intro,fun y hy=>absurd rfl hy⟩
theorem znN {prog:Program} {w:World} {env:Env} {e:Expr} {f:Str} {pos:Pos} {s:Shared} {Q:Value->Shared->Prop} (hb:attributeBase e f env (eval e env)=eval e env)
  (h:wpAny (model prog w) A (eval e env) (fun o s₁=>wpAny (model prog w) A (getAttr o f true) Q E s₁) E s):wpAny (model prog w) A (eval (.Attribute e f pos) env) Q E s :=
 Attribute_any_ h (by rw[arm_eval_Attribute,hb])
end
def zss (K:W.Frag) (ta:TE) (f:Str):TE:=fun σ H Q=>ta σ H fun x H1=>∃ a C dx fs v,x=.ref a/\H1 a=some (.ins C dx fs)/\Cls K C/\zX K C f/\fs.lookup f=some v/\Q v H1
def zue (K:W.Frag) (ta tv:TE) (f:Str):TS:=fun D σ H=>tv σ H fun y H1=>ta σ H1 fun x H2=>∃ a C dx fs,x=.ref a/\H2 a=some (.ins C dx fs)/\Cls K C/\zX K C f/\fs.length<1000 /\
 D.nx σ (upd H2 a (.ins C dx (zas f y fs)))
section
variable {X:Cx} {o e value:Expr} {f:Str} {pos pos' tpos:Pos} {ta tv:TE}
theorem zdP (he:PE X e ta) (hb:attributeBase e f X.env (eval e X.env)=eval e X.env):PE X (.Attribute e f pos) (zss X.K ta f):=by
 intro pins s σ H Q I h
 refine znN hb (thn (he pins s σ H _ I h) fun u s1 ⟨x,H1,I1,rx,a,C,dx,fs,v,ex,ea,c,n,l,q⟩=>?_)
 subst ex
 obtain rfl:u=Value.ref a:=rx
 exact zjs I1 ea c n l fun u' s2 I2 ru=>⟨v,H1,I2,ru,q⟩
theorem zhJ (ha:PE X o ta) (hv:PE X value tv) (hs:swapsWith value (some (.Attribute o f pos')) pos.line X.env=pure false):PS X (.Assign [.Attribute o f pos'] value pos) (zue X.K ta tv f):=by
 intro pins s σ H D I h
 refine plainObj_wpAny_Assign_Attribute (thn (hv pins s σ H _ I h) fun u s1 ⟨y,H1,I1,ry,q⟩=>thn (ha pins s1 σ H1 _ I1 q) fun ov s2 ⟨x,H2,I2,rx,a,C,dx,fs,ex,ea,c,n,l,q2⟩=>?_) hs
 subst ex
 obtain rfl:ov=Value.ref a:=rx
 exact zjt I2 ea c n l ry fun s3 I3=>⟨σ,_,I3,q2⟩
end
section
variable {X:Cx} {pins:List (Addr × Obj)} {σ:St} {H:Hp} {s:Shared} {A:Around} {E:Value->Shared->Prop} {Q:Value->Shared->Prop} {c:Value} {b:Bool}
inductive zbc (K:W.Frag) (H:Hp):V->Value->Prop where
 | non:zbc K H .non (.type "NoneType")
 | bl (x:Bool):zbc K H (.bl x) (.type "bool")
 | int (i:Int):zbc K H (.int i) (.type "int")
 | str (x:Str):zbc K H (.str x) (.type "str")
 | flt (x:UInt64):zbc K H (.flt x) (.type "float")
 | lst {a:Addr} {xs:List V} (e:H a=some (.lst xs)):zbc K H (.ref a) (.type "list")
 | frz {a:Addr} {o:Obj} {xs:List V} (e:H a=some (.frz o (.lst xs))):zbc K H (.ref a) (.type "list")
 | tup {a:Addr} {xs:List V} (e:H a=some (.tup xs)):zbc K H (.ref a) (.type "tuple")
 | dK {a:Addr} {kvs:List (Key × V)} (e:H a=some (.dK kvs)):zbc K H (.ref a) (.type "dict")
 | ins {a C dx:Addr} {fs:List (Str × V)} (e:H a=some (.ins C dx fs)) (cl:Cls K C) (ha:PySem.W.findIn K (.ref C) "__class__" = some (some (.builtin "object.__class__")))
   (hn:PySem.W.specialIn K (.builtin "object.__class__") "__get__" = some (some (.builtin "getset_descriptor.__get__"))) (htk:PySem.W.takesIn K (.builtin "object.__class__")=some true)
   (hm:PySem.W.mroIn K C (.type "object")=some true):zbc K H (.ref a) (.ref C)
theorem zkx {x:V} {u t:Value} (I:Inv X pins σ H s) (rx:RelV x u) (ty:zbc X.K H x t) (e:PySem.W.kitOne X.K t c=some b) (h:∀ tk,Q (.bool b) { s with toks:=tk }) :
  wpAny (model X.prog X.w) A (call (.builtin "isinstance") [u,c]) Q E s:=by
 cases ty with
 | non=>cases (show u=Value.none from rx);exact PySem.W.kia_one PySem.W.kitx_none I.kIn True.intro e (fun z=>nomatch z) h
 | bl y=>cases (show u=Value.bool y from rx);exact PySem.W.kia_one PySem.W.kitx_bool I.kIn True.intro e (fun z=>nomatch z) h
 | int i=>obtain ⟨t,q⟩:=(show ∃ t,u=Value.int i t from rx);cases q;exact PySem.W.kia_one PySem.W.kitx_int I.kIn True.intro e (fun z=>nomatch z) h
 | str y=>obtain ⟨t,q⟩:=(show ∃ t,u=Value.str y t from rx);cases q;exact PySem.W.kia_one PySem.W.kitx_str I.kIn True.intro e (fun z=>nomatch z) h
 | flt y=>obtain ⟨t,q⟩:=(show ∃ t,u=Value.float y t from rx);cases q;exact PySem.W.kia_one PySem.W.kitx_float I.kIn True.intro e (fun z=>nomatch z) h
 | @lst a xs ea =>
  cases (show u=Value.ref a from rx)
  obtain ⟨_,_,n,_,h1⟩:=(show zad X.prog X.w H s.heap a (.lst xs) from I.hok a _ ea)
  exact PySem.W.kia_one PySem.W.kitx_list I.kIn ⟨_,h1,rfl⟩ e (fun z=>nomatch z) h
 | @frz a ob xs ea =>
  cases (show u=Value.ref a from rx)
  obtain ⟨_,_,_,n,_,h1⟩:=(show zad X.prog X.w H s.heap a (.frz ob (.lst xs)) from I.hok a _ ea)
  exact PySem.W.kia_one PySem.W.kitx_list I.kIn ⟨_,h1,rfl⟩ e (fun z=>nomatch z) h
 | @tup a xs ea =>
  cases (show u=Value.ref a from rx)
  obtain ⟨_,_,_,p⟩:=(show zad X.prog X.w H s.heap a (.tup xs) from I.hok a _ ea)
  obtain ⟨o,h1,h2,_⟩:=p
  exact PySem.W.kia_one PySem.W.kitx_tuple I.kIn ⟨o,h1,h2⟩ e (fun z=>nomatch z) h
 | @dK a kvs ea =>
  cases (show u=Value.ref a from rx)
  obtain ⟨_,_,vs,_,p⟩:=(show zad X.prog X.w H s.heap a (.dK kvs) from I.hok a _ ea)
  obtain ⟨o,es,ep,h1,h2,_⟩:=p
  exact PySem.W.kia_one PySem.W.kitx_dict I.kIn ⟨o,h1,h2.1⟩ e (fun z=>nomatch z) h
 | @ins a C dx fs ea cl ha hn htk hm =>
  cases (show u=Value.ref a from rx)
  obtain ⟨mA,O,_⟩:=zib I.hok ea
  obtain ⟨od,J,_⟩:=O.look
  exact PySem.W.kia_one (PySem.W.kitx_own (cl.get _) cl.hd ha hn htk hm) I.kIn J e (fun z=>nomatch z) h
end
structure Room (k:Nat) (A:Around):Prop where
 hd:A.handled=none
 dp:A.depth+3*k+5<recursionLimit
 un:A.units+16*k+200<cLine
theorem Room.mono {j k:Nat} {A:Around} (r:Room k A) (h:j<=k):Room j A:=⟨r.hd,by have:=r.dp;ac_rfl,by have:=r.un;ac_rfl⟩
theorem Room.deeper {k:Nat} {A:Around} (r:Room (k+1) A) (env:Env):Room k (A.deeper env) :=
 ⟨r.hd,by have:=r.dp;show A.depth+1+3*k+5<_;ac_rfl,by have:=r.un;show A.units+3+16*k+200<_;ac_rfl⟩
theorem Room.in1 {k:Nat} {A:Around} (r:Room (k+1) A):Room k A.in1 :=
 ⟨r.hd,by have:=r.dp;show A.depth+3*k+5<_;ac_rfl,by have:=r.un;show A.units+1+16*k+200<_;ac_rfl⟩
theorem zod {A:Around} {C:Addr} {us:List Value} {kw:List (Str × Value)}:(A.under (.builtin "type.__call__" ⟨.ref C::us,kw⟩)).depth=A.depth+1:=by
 first | rfl | simp[Around.under,Code.weight,Code.isCreation,Code.isGuard,Code.isCaller,Code.frames,Code.isFrame,guardIds]
theorem zn9 {A:Around} {C:Addr} {us:List Value} {kw:List (Str × Value)}:(A.under (.builtin "type.__call__" ⟨.ref C::us,kw⟩)).units=A.units+1:=by
 first | rfl | simp[Around.under,Code.cUnits,Code.frames,Code.isFrame]
theorem Room.make {k:Nat} {A:Around} (r:Room (k+1) A) (C:Addr) (us:List Value) (kw:List (Str × Value)):Room k (A.under (.builtin "type.__call__" ⟨.ref C::us,kw⟩)) :=
 ⟨r.hd,by have:=r.dp;rw[zod];ac_rfl,by have:=r.un;rw[zn9];ac_rfl⟩
theorem Room.depth {k:Nat} {A:Around} (r:Room k A):A.depth<recursionLimit:=by have:=r.dp;ac_rfl
theorem Room.units {k:Nat} {A:Around} (r:Room k A):A.units+64<cLine:=by have:=r.un;ac_rfl
def zkj:TA:=fun _ H Q=>Q [] H
def ztc (ta:TE) (tr:TA):TA:=fun σ H Q=>ta σ H fun x H1=>tr σ H1 fun xs H2=>Q (x::xs) H2
section
variable {X:Cx} {e:Expr} {es:List Expr} {te:TE} {t:TA} {pos:Pos}
theorem zc:PA X [] zkj:=fun _ _ _ _ H Q I h=>Calls.spliced_nil ⟨[],H,I,.nil,h⟩
theorem za (ha:PE X e te) (hr:PA X es t) (hs:starEach (e::es) X.env=(false,eval e X.env)::starEach es X.env:=by rfl):PA X (e::es) (ztc te t):=by
 intro pos pins s σ H Q I h
 rw[hs]
 show wpAny _ _ (spliced ((false,eval e X.env)::backTo pos (starEach es X.env))) _ _ s
 refine Calls.spliced_cons (thn (ha pins s σ H _ I h) fun u s1 ⟨x,H1,I1,r1,q1⟩=>?_)
 exact thn (hr pos pins s1 σ H1 _ I1 q1) fun us s2 ⟨xs,H2,I2,r2,q2⟩=>⟨x::xs,H2,I2,.cons r1 r2,q2⟩
def ztJ (t:TA):TE:=fun σ H Q=>t σ H fun xs H1=>xs.length<=sizeLine/\∀ p,H1 p=none->Q (.ref p) (upd H1 p (.tup xs))
def zt0 (t:TA):TE:=fun σ H Q=>t σ H fun xs H1=>xs.length<=sizeLine/\∀ p,H1 p=none->Q (.ref p) (upd H1 p (.lst xs))
theorem zN {x1} (h:PA X es t):PE X (.Tuple es x1 pos) (ztJ t):=by
 intro pins s σ H Q I hq
 refine wpAny_Tuple_spliced (thn (h pos pins s σ H _ I hq) fun us s1 ⟨xs,H1,I1,r,z,q⟩=>⟨by rw[<-r.length];exact z,?_⟩)
 have hf:H1 s1.heap.objs.size=none:=I1.hok.fresh (ycu _)
 refine ⟨.ref s1.heap.objs.size,upd H1 s1.heap.objs.size (.tup xs),I1.laid (t':=s1.toks) (fun b u e=>ydk _ e) (ycu _) ?_,rfl,q _ hf⟩
 exact ⟨z,us,r,⟨_,ydm _ rfl,rfl,_,rfl⟩⟩
theorem zW (h:PA X es t):PE X (.List es pos) (zt0 t):=by
 intro pins s σ H Q I hq
 refine wpAny_List_spliced (thn (h pos pins s σ H _ I hq) fun us s1 ⟨xs,H1,I1,r,z,q⟩=>⟨by rw[<-r.length];exact z,?_⟩)
 have hf:H1 s1.heap.objs.size=none:=I1.hok.fresh (ycu _)
 refine ⟨.ref s1.heap.objs.size,upd H1 s1.heap.objs.size (.lst xs),I1.laid (t':=s1.toks) (fun b u e=>ydk _ e) (ycu _) ?_,rfl,q _ hf⟩
 exact ⟨z,us,0,r,ydm _ rfl⟩
end
noncomputable abbrev Sp:=List V->Hp->VK->XK->Prop
noncomputable abbrev CXT:=List Env->Hp->Shared->XK->Value->Shared->Prop
structure ziW (P:Program) (w:World) (K:W.Frag) (mg:Str->Option Value) (base:Heap) (A:Around) (outer:List Env) (s:Shared) (H:Hp):Prop where
 frames:A.frames=some outer
 mod:Mod K mg base
 bs:∀ b o,base.get? b=some o->s.heap.get? b=some o/\H b=none
 bsz:base.objs.size<=s.heap.objs.size
 funs:s.heap.FunFrames base outer
 frf:∀ b∈frs outer,H b=none
 hok:HOk P w H s.heap
 bare:AllBare s.gens
def CE (outer:List Env) (P:Program) (w:World) (H:Hp) (s:Shared) (Q:VK) (u:Value) (s':Shared):Prop :=
 ∃ v H',s'.os=s.os/\AllBare s'.gens/\Un (frs outer) [] H H' s.heap s'.heap/\HOk P w H' s'.heap/\RelV v u/\Q v H'
def CR (CX:CXT) (outer:List Env) (P:Program) (w:World) (H:Hp) (s:Shared) (Q:VK) (E:XK) (r:Result) (s':Shared):Prop :=
 match r with
 | .ok (.ret u)=>CE outer P w H s Q u s'
 | .ok _=>False
 | .error e=>CX outer H s E e s'
structure zbO (P:Program) (w:World) (K:W.Frag) (mg:Str->Option Value) (base:Heap) (CX:CXT) (k:Nat) (f:Addr) (fd:FuncData) (ps:List Str) (sp:Sp):Prop where
 len:∀ vs H Q E,sp vs H Q E->vs.length=ps.length
 run:∀ (A:Around) (outer:List Env) (s:Shared) (H:Hp) (args:Args) (us:List Value) (vs:List V) (Q:VK) (E:XK),Room k A->ziW P w K mg base A outer s H->BindsTo s fd args (ps.zip us)->Vals vs us->sp vs H Q E ->
  codeAny (model P w) A (.call (.ref f) args) (CR CX outer P w H s Q E) s
theorem ziW.make {P:Program} {w:World} {K:W.Frag} {mg:Str->Option Value} {base:Heap} {A:Around} {outer:List Env} {s:Shared} {H:Hp} (e:ziW P w K mg base A outer s H) (C:Addr) (us:List Value) (kw:List (Str × Value)) :
  ziW P w K mg base (A.under (.builtin "type.__call__" ⟨.ref C::us,kw⟩)) outer s H:=⟨by first | exact e.frames | (simpa [Around.under,Code.envs,Code.isFrame,pushEnvs] using e.frames),e.mod,e.bs,e.bsz,e.funs,e.frf,e.hok,e.bare⟩
section
variable {X:Cx} {pins:List (Addr × Obj)} {σ:St} {H:Hp} {s s':Shared}
theorem Inv.zsN (I:Inv X pins σ H s):ziW X.prog X.w X.K X.mg X.base X.A X.stack s H :=
 ⟨I.ok.frames,I.ok.mod,I.bs,ycz I.ok.bsz I.sz,I.stack,I.zh2,I.hok,I.bare⟩
theorem Inv.after {Q:VK} {u:Value} (I:Inv X pins σ H s) (h:CE X.stack X.prog X.w H s Q u s'):EP X pins σ Q u s':=by
 obtain ⟨v,H',os,bare,un,hok,r,q⟩:=h
 obtain ⟨hh,g,d,t,os'⟩:=s'
 obtain rfl:os'=s.os:=os
 exact ⟨v,H',I.call (h':=hh) (g':=g) (d':=d) (t':=t) (ch:=[]) un hok bare (fun b z=>absurd z (by simp)),r,q⟩
end
def zlm (sp:Sp) (dvs:List V) (E:XK) (t:TA):TE:=fun σ H Q=>t σ H fun vs H1=>sp (vs++dvs) H1 Q E
def zlo (C:Addr) (m:Str) (sp:Sp) (dvs:List V) (E:XK) (ta:TE) (t:TA):TE:=fun σ H Q=>ta σ H fun x H1=>∃ a dx fs,x=.ref a/\H1 a=some (.ins C dx fs)/\fs.lookup m=none /\
 t σ H1 fun vs H2=>sp (x::(vs++dvs)) H2 Q E
def zoo (C:Addr) (sp:Sp) (dvs:List V) (E:XK) (t:TA):TE:=fun σ H Q=>t σ H fun vs H1=>∀ x dx,H1 x=none->H1 dx=none->dx≠x ->
 sp (.ref x::(vs++dvs)) (upd (upd H1 dx (.own x)) x (.ins C dx [])) (fun v H2=>v=.non/\Q (.ref x) H2) E
def Binds (K:W.Frag) (fd:FuncData) (ps:List Str) (ds:List Value):Prop :=
 ∀ (s:Shared) (us:List Value),K.In s.heap->(us++ds).length=ps.length->BindsTo s fd ⟨us,[]⟩ (ps.zip (us++ds))
theorem Binds.all {K:W.Frag} {fd:FuncData} {ps:List Str} (h:∀ us:List Value,us.length=ps.length->bindArgs fd ⟨us,[]⟩=pure (ps.zip us)):Binds K fd ps []:=fun s us _ hl=>by
 rw[List.append_nil] at hl ⊢
 exact .of_eq (h us hl)
def Passes (CX:CXT) (X:Cx) (E:XK):Prop:=∀ (pins:List (Addr × Obj)) (σ:St) (H:Hp) (s:Shared) (e:Value) (s':Shared),Inv X pins σ H s->CX X.stack H s E e s'->X.xe e s'
section
variable {X:Cx} {CX:CXT} {k:Nat} {f C:Addr} {fd:FuncData} {ps:List Str} {sp:Sp} {dvs:List V} {ds:List Value} {E:XK} {x m:Str} {p pos apos:Pos} {e o:Expr} {es:List Expr} {ta:TE} {t:TA}
theorem zgq {pins:List (Addr × Obj)} {σ:St} {H:Hp} {s:Shared} {Q:VK} {us:List Value} {vs:List V} (F:zbO X.prog X.w X.K X.mg X.base CX k f fd ps sp) (hr:Room k X.A) (hb:Binds X.K fd ps ds) (hd:Vals dvs ds) (hx:Passes CX X E)
  (I:Inv X pins σ H s) (r:Vals vs us) (h:sp (vs++dvs) H Q E):wpAny (model X.prog X.w) X.A (call (.ref f) us) (EP X pins σ Q) X.xe s:=by
 have r2:Vals (vs++dvs) (us++ds):=r.append hd
 have hl:(us++ds).length=ps.length:=by rw[<-r2.length];exact F.len _ _ _ _ h
 refine wpAny_call (codeAny_mono (F.run X.A X.stack s H ⟨us,[]⟩ (us++ds) (vs++dvs) Q E hr I.zsN (hb s us I.kIn hl) r2 h) fun r s' hq=>?_)
 cases r with
 | error e=>exact hx pins σ H s e s' I hq
 | ok fl =>
  cases fl with
  | ret u=>exact I.after hq
  | next=>exact False.elim hq
  | brk=>exact False.elim hq
  | cont=>exact False.elim hq
theorem znP (F:zbO X.prog X.w X.K X.mg X.base CX k f fd ps sp) (hr:Room k X.A) (hg:Gl X x) (hm:X.mg x=some (.ref f)) (hk:PySem.W.keepIn X.K (.ref f)=true) (hb:Binds X.K fd ps ds) (hd:Vals dvs ds) (hx:Passes CX X E)
  (ha:PA X (e::es) t) (hdb:(x == ("__debug__" : Str))=false:=by decide) (he:starEach (e::es) X.env=(false,eval e X.env)::starEach es X.env:=by rfl) (hpl:(backTo pos (starEach es X.env)).any (·.1)=false:=by rfl) :
  PE X (.Call (.Name x p) (e::es) [] pos) (zlm sp dvs E t):=by
 intro pins s σ H Q I h
 refine wpAny_Call_Name_kw (zcF I hg hm ?_ hdb)
 refine PySem.W.callWith_K (h₀:=X.base) I.ok.mod.kin hk (thn (ha pos pins s σ H _ I h) fun us s1 ⟨vs,H1,I1,r,q⟩=>⟨I1.kIn,?_⟩) he hpl
 exact zgq F hr hb hd hx I1 r q
theorem zr5 {pl:Sem Bool} (he:PE X o ta) (c:Cls X.K C) (hm:Meth X.K C m f) (F:zbO X.prog X.w X.K X.mg X.base CX k f fd ps sp) (hr:Room k X.A) (hb:Binds X.K fd ps ds) (hd:Vals dvs ds) (hx:Passes CX X E) (ha:PA X (e::es) t)
  (hst:starEach (e::es) X.env=(false,eval e X.env)::starEach es X.env:=by rfl) (hpl:(backTo pos (starEach es X.env)).any (·.1)=false:=by rfl)
  (ht:eval (.Call (.Attribute o m apos) (e::es) [] pos) X.env=(do
   let ov <-eval o X.env
   standAt apos.atName
   let (f,first) <-holding [ov] (getMethod ov m pl)
   callWith pos f first (backTo pos (starEach (e::es) X.env)) (backToKw pos (keywordEach [] X.env))):=by rfl) :
  PE X (.Call (.Attribute o m apos) (e::es) [] pos) (zlo C m sp dvs E ta t):=by
 intro pins s σ H Q I h
 refine PySem.W.methodCall_KW (pl:=pl) (thn (he pins s σ H _ I h) fun u s1 ⟨x,H1,I1,rx,a,dx,fs,ex,ea,l,q⟩=>?_) ht
 subst ex
 obtain rfl:u=Value.ref a:=rx
 refine zek I1 ea c hm l ?_
 refine PySem.W.callWith_K (first:=[.ref a]) (h₀:=X.base) I.ok.mod.kin hm.kp (thn (ha pos pins s1 σ H1 _ I1 q) fun us s2 ⟨vs,H2,I2,r,q2⟩=>⟨I2.kIn,?_⟩) hst hpl
 exact zgq (us:=.ref a::us) (vs:=.ref a::vs) F hr hb hd hx I2 (.cons rfl r) q2
theorem zp5 {pl:Sem Bool} (he:PE X o ta) (c:Cls X.K C) (hm:Meth X.K C m f) (F:zbO X.prog X.w X.K X.mg X.base CX k f fd ps sp) (hr:Room k X.A) (hb:Binds X.K fd ps ds) (hd:Vals dvs ds) (hx:Passes CX X E)
  (ht:eval (.Call (.Attribute o m apos) [] [] pos) X.env=(do
   let ov <-eval o X.env
   standAt apos.atName
   let (f,first) <-holding [ov] (getMethod ov m pl)
   callWith pos f first (backTo pos (starEach [] X.env)) (backToKw pos (keywordEach [] X.env))):=by rfl) :
  PE X (.Call (.Attribute o m apos) [] [] pos) (zlo C m sp dvs E ta zkj):=by
 intro pins s σ H Q I h
 refine PySem.W.methodCall_KW (pl:=pl) (thn (he pins s σ H _ I h) fun u s1 ⟨x,H1,I1,rx,a,dx,fs,ex,ea,l,q⟩=>?_) ht
 subst ex
 obtain rfl:u=Value.ref a:=rx
 refine zek I1 ea c hm l ?_
 exact PySem.W.callWith_K0 (first:=[.ref a]) I1.kIn hm.kp (zgq (us:=[.ref a]) (vs:=[.ref a]) F hr hb hd hx I1 (.cons rfl .nil) q)
structure Mk (K:W.Frag) (C f:Addr):Prop where
 makes:PySem.W.makesIn K C=true
 init:PySem.W.findIn K (.ref C) "__init__" = some (some (.ref f))
 fn:PySem.W.isFn K (.ref f)=true
 kp:PySem.W.keepIn K (.ref C)=true
theorem zp4 {pins:List (Addr × Obj)} {σ:St} {H:Hp} {s:Shared} {Q:VK} {us:List Value} {vs:List V} (M:Mk X.K C f) (F:zbO X.prog X.w X.K X.mg X.base CX k f fd ps sp) (hr:Room (k+1) X.A) (hb:Binds X.K fd ps ds) (hd:Vals dvs ds)
  (hx:Passes CX X E) (I:Inv X pins σ H s) (r:Vals vs us)
  (h:∀ x dx,H x=none->H dx=none->dx≠x->sp (.ref x::(vs++dvs)) (upd (upd H dx (.own x)) x (.ins C dx [])) (fun v H2=>v=.non/\Q (.ref x) H2) E) :
  wpAny (model X.prog X.w) X.A (call (.ref C) us) (EP X pins σ Q) X.xe s:=by
 have hq:=h (s.heap.objs.size+1) s.heap.objs.size (I.hok.fresh (ydf _)) (I.hok.fresh (ycu _)) (ycv (ydb _))
 have I2:=Inv.made (C:=C) I
 have r2:Vals (V.ref (s.heap.objs.size+1)::(vs++dvs)) (Value.ref (s.heap.objs.size+1)::(us++ds)):=.cons rfl (r.append hd)
 have hl:(Value.ref (s.heap.objs.size+1)::us++ds).length=ps.length:=by
  have e:=r2.length
  rw[F.len _ _ _ _ hq] at e
  exact e.symm
 refine wpAny_call (zqd (f:=f) I.kIn M.makes M.init (beq_iff_eq.mp M.fn) (codeAny_mono (F.run _ X.stack _ _ ⟨Value.ref (s.heap.objs.size+1)::us,[]⟩ (Value.ref (s.heap.objs.size+1)::(us++ds)) _ _ E (hr.make C us [])
  (I2.zsN.make C us []) (hb _ (Value.ref (s.heap.objs.size+1)::us) I2.kIn hl) r2 hq) fun r s' hq'=>?_))
 cases r with
 | error e=>exact hx pins σ _ _ e s' I2 hq'
 | ok fl =>
  cases fl with
  | ret u =>
   obtain ⟨v,H',I3,rv,ev,q3⟩:=I2.after hq'
   subst ev
   exact ⟨rv,⟨V.ref (s.heap.objs.size+1),H',I3,rfl,q3⟩⟩
  | next=>exact False.elim hq'
  | brk=>exact False.elim hq'
  | cont=>exact False.elim hq'
theorem znT (M:Mk X.K C f) (F:zbO X.prog X.w X.K X.mg X.base CX k f fd ps sp) (hr:Room (k+1) X.A) (hg:Gl X x) (hm:X.mg x=some (.ref C)) (hb:Binds X.K fd ps ds) (hd:Vals dvs ds) (hx:Passes CX X E)
  (ha:PA X (e::es) t) (hdb:(x == ("__debug__" : Str))=false:=by decide) (he:starEach (e::es) X.env=(false,eval e X.env)::starEach es X.env:=by rfl) (hpl:(backTo pos (starEach es X.env)).any (·.1)=false:=by rfl) :
  PE X (.Call (.Name x p) (e::es) [] pos) (zoo C sp dvs E t):=by
 intro pins s σ H Q I h
 refine wpAny_Call_Name_kw (zcF I hg hm ?_ hdb)
 refine PySem.W.callWith_K (h₀:=X.base) I.ok.mod.kin M.kp (thn (ha pos pins s σ H _ I h) fun us s1 ⟨vs,H1,I1,r,q⟩=>⟨I1.kIn,?_⟩) he hpl
 exact zp4 M F hr hb hd hx I1 r q
end
section
variable {X:Cx} {CX:CXT} {k:Nat} {f C:Addr} {fd:FuncData} {ps ks:List Str} {sp:Sp} {E:XK} {x m:Str} {p pos apos kpos:Pos} {e o:Expr} {es:List Expr} {kws:List Keyword} {te ta:TE} {t tk:TA} {nm:Option Str}
variable {g:List Value->List Value->List Value} {gV:List V->List V->List V}
end
structure zj (N P:List Str) (sc:Scope):Prop where
 kind:sc.kind=.function
 co:sc.isCoroutine=false
 gen:sc.isGenerator=false
 nd:N.Nodup
 pre:N.take P.length=P
 par:∀ x∈P,sc.names.lookup x=some .local\/sc.names.lookup x=some .cell
 nofree:∀ y∈sc.names,y.2≠.free
theorem zkv {kindOf:Str->Option NameKind} {x:Str}:∀ {binds:List (Str × Value)} {m:Str->Option Value},(∀ v,(x,v) ∉ binds)->bindL kindOf binds m x=m x
 | [],_,_=>rfl
 | (n,v)::r,m,h=>by
  unfold bindL
  rw[zkv fun w hw=>h w (yaj _ hw)]
  split
  ·have:x≠n:=by rintro rfl;exact h v yai
   simp[this]
  ·rfl
theorem zkB {kindOf:Str->Option NameKind} {x:Str}:∀ {binds:List (Str × Value)} {m:Str->Option Value},(∀ v,(x,v) ∉ binds)->bindC kindOf binds m x=m x
 | [],_,_=>rfl
 | (n,v)::r,m,h=>by
  unfold bindC
  rw[zkB fun w hw=>h w (yaj _ hw)]
  split
  ·rfl
  ·have:x≠n:=by rintro rfl;exact h v yai
   simp[this]
theorem zkK {kindOf:Str->Option NameKind} {x:Str} {v:Value}:∀ {P:List Str} {vs:List Value} {i:Nat} {m:Str->Option Value},P.Nodup->P[i]?=some x->vs[i]?=some v->kindOf x=some .local ->
  bindL kindOf (P.zip vs) m x=some v
 | [],_,_,_,_,h,_,_=>by simp at h
 | _::_,[],_,_,_,_,h,_=>by simp at h
 | p::P,w::vs,0,m,nd,h1,h2,hk=>by
  simp at h1 h2;subst h1;subst h2
  show bindL kindOf ((p,w)::P.zip vs) m p=_
  unfold bindL
  rw[zkv fun v hv=>(ybm.mp nd).1 (List.of_mem_zip hv).1,if_pos hk]
  simp
 | p::P,w::vs,i+1,m,nd,h1,h2,hk=>by
  show bindL kindOf ((p,w)::P.zip vs) m x=_
  unfold bindL
  exact zkK (i:=i) (ybm.mp nd).2 (by simpa using h1) (by simpa using h2) hk
theorem zkA {kindOf:Str->Option NameKind} {x:Str} {v:Value}:∀ {P:List Str} {vs:List Value} {i:Nat} {m:Str->Option Value},P.Nodup->P[i]?=some x->vs[i]?=some v->kindOf x≠some .local ->
  bindC kindOf (P.zip vs) m x=some v
 | [],_,_,_,_,h,_,_=>by simp at h
 | _::_,[],_,_,_,_,h,_=>by simp at h
 | p::P,w::vs,0,m,nd,h1,h2,hk=>by
  simp at h1 h2;subst h1;subst h2
  show bindC kindOf ((p,w)::P.zip vs) m p=_
  unfold bindC
  rw[zkB fun v hv=>(ybm.mp nd).1 (List.of_mem_zip hv).1,if_neg hk]
  simp
 | p::P,w::vs,i+1,m,nd,h1,h2,hk=>by
  show bindC kindOf ((p,w)::P.zip vs) m x=_
  unfold bindC
  exact zkA (i:=i) (ybm.mp nd).2 (by simpa using h1) (by simpa using h2) hk
noncomputable def start (N:List Str) (vs:List V):St:=vs.map some++yae (N.length-vs.length) none
noncomputable def zaK (CX:CXT) (P:Program) (w:World) (K:W.Frag) (mg:Str->Option Value) (base:Heap) (N:List Str) (qual:Str) (scope:Scope) (f:Addr) (cd:Value) (A:Around) (outer:List Env) (s:Shared) (H:Hp) (E:XK):Cx where
 prog:=P
 w:=w
 K:=K
 mg:=mg
 base:=base
 A:=A.deeper (envOfC qual scope s.heap.objs.size f cd)
 N:=N
 s₀:=s
 H₀:=H
 env:=envOfC qual scope s.heap.objs.size f cd
 outer:=outer
 stack:=envOfC qual scope s.heap.objs.size f cd::outer
 ex:=[]
 calm:=true
 fn:=fun _=>true
 pn:=[]
 xe:=fun e s'=>wpAny (model P w) (A.deeper (envOfC qual scope s.heap.objs.size f cd)) (leaving (envOfC qual scope s.heap.objs.size f cd) e) (fun _ s''=>CX outer H s E e s'') (fun e' s''=>CX outer H s E e' s'') s'
theorem zmm {sc:Scope} {n:Nat} {x:Str} (h:sc.names.lookup x=some .cell):∃ c,(cellsFrom n sc.names []).lookup x=some c:=by
 have q:=PySem.W.cellsFrom_some sc.names n [] (.inl h)
 exact Option.isSome_iff_exists.mp q
theorem zoV {CX:CXT} {P:Program} {w:World} {K:W.Frag} {mg:Str->Option Value} {base:Heap} {N ps:List Str} {qual:Str} {scope:Scope} {f:Addr} {cd:Value} {A:Around} {outer:List Env} {s s1:Shared} {H:Hp} {E:XK} {us:List Value} {vs:List V}
  (S:zj N ps scope) (hd:A.handled=none) (e0:ziW P w K mg base A outer s H) (hl:vs.length=ps.length) (r:Vals vs us)
  (x:InCallC s s.heap.objs.size (bindL (envOfC qual scope s.heap.objs.size f cd).kindOf (ps.zip us) fun _=>none) (cellsFrom (s.heap.objs.size+1) scope.names []) (bindC (envOfC qual scope s.heap.objs.size f cd).kindOf (ps.zip us) fun _=>none) s1) :
  Inv (zaK CX P w K mg base N qual scope f cd A outer s H E) [] (start N vs) H s1:=by
 have hpl:ps.length<=N.length:=by have:=congrArg List.length S.pre;rw[ybc] at this;ac_rfl
 obtain ⟨h1,tk,rfl,hk⟩:=x.done
 have noA:∀ b:Addr,b ∉ (zaK CX P w K mg base N qual scope f cd A outer s H E).ex:=fun b z=>absurd (show b∈([]:List Addr) from z) (by simp)
 refine ⟨⟨e0.mod,S.kind,rfl,rfl,ycu _,fun y z c h1 h2=>?_,fun y hy=>?_,fun y c _ h=>?_,fun _=>hd,Around.frames_deeper e0.frames,.inr ⟨rfl,rfl⟩,fun b z=>absurd z (noA b),e0.bs,e0.bsz,fun b _ _=>noA b,fun b z=>absurd z (noA b),e0.funs,e0.frf⟩,
  rfl,e0.bare,Un.kept hk,⟨_,x.toInCall.ns,fun i y v h1 h2 h3=>?_⟩,fun y c h=>⟨_,x.cell y c h⟩,e0.hok.fresh (ycu _),fun y c h=>?_,fun p hp=>absurd (show p∈([]:List (Addr × Obj)) from hp) (by simp),e0.hok.kept hk,?_⟩
 ·exact name_of_addr x.apart (PySem.mem_of_lookup h1) (PySem.mem_of_lookup h2)
 ·have hy:scope.names.lookup y=some .cell\/scope.names.lookup y=some .free:=hy
  rcases hy with hy | hy
  ·exact zmm hy
  ·exact absurd rfl (S.nofree _ (PySem.mem_of_lookup hy))
 ·exact ydi (x.above y c (PySem.mem_of_lookup h))
 ·have hi:i<vs.length:=by
   unfold start at h2
   by_cases hi:i<vs.length
   ·exact hi
   ·rw[ybk (by simpa using hi)] at h2
    rw[ybz] at h2
    split at h2 <;> cases h2
  have ha:vs[i]?=some v:=by
   unfold start at h2
   rw[ybn (by simpa using hi),yam] at h2
   cases e:vs[i]? with
   | none=>rw[e] at h2;cases h2
   | some a=>rw[e] at h2;cases h2;rfl
  obtain ⟨u,hu,rv⟩:=r.get ha
  have hp:ps[i]?=some y:=by
   rw[<-S.pre,List.getElem?_take_of_lt (by ac_rfl)];exact h1
  have ndP:ps.Nodup:=by rw[<-S.pre];exact S.nd.sublist (List.take_sublist _ _)
  refine ⟨u,rv,?_⟩
  rcases S.par y (yah hp) with k | k
  ·exact .inl ⟨k,zkK ndP hp hu k⟩
  ·obtain ⟨c,e⟩:=zmm (n:=s.heap.objs.size+1) k
   refine .inr ⟨.inl k,c,e,?_⟩
   have q:=x.cell y c e
   rw[zkA ndP hp hu (by show scope.names.lookup y≠_;rw[k];decide)] at q
   exact q
 ·exact e0.hok.fresh (ydi (x.above y c (PySem.mem_of_lookup h)))
 ·unfold start
  show _=N.length
  rw[yaf,yab,yax]
  ac_rfl
theorem zll {CX:CXT} {P:Program} {w:World} {K:W.Frag} {mg:Str->Option Value} {base:Heap} {k:Nat} {f:Addr} {name qual:Str} {params:Arguments} {body:List Stmt} {scope:Scope} {dV kV doc pm cdv ct oc:Value} {an od:Option Addr}
  {osl:Array (Option Value)} {N ps:List Str} {sp:Sp} (lk:K.lookup f=some ⟨oc,od,.func (PySem.W.fnOf name qual params body scope dV kV doc pm an cdv ct),osl⟩) (hcd:PySem.W.codeIn K cdv qual=true) (S:zj N ps scope)
  (len:∀ vs H Q E,sp vs H Q E->vs.length=ps.length)
  (hbody:∀ (A:Around) (outer:List Env) (s:Shared) (H:Hp) (vs:List V) (Q:VK) (E:XK),Room k (A.deeper (envOfC qual scope s.heap.objs.size f cdv))->sp vs H Q E ->
   ∃ t,PSs (zaK CX P w K mg base N qual scope f cdv A outer s H E) body t/\t { nx:=fun _ H'=>Q .non H',rt:=Q } (start N vs) H) :
  zbO P w K mg base CX (k+1) f (PySem.W.fnOf name qual params body scope dV kV doc pm an cdv ct) ps sp:=by
 refine ⟨len,fun A outer s H args us vs Q E hr e0 hb r hsp=>?_⟩
 have hl:=len _ _ _ _ hsp
 have KX:K.In s.heap:=e0.mod.kin.keeps fun b o e=>(e0.bs b o e).1
 have lim:s.heap.NoLimit:=e0.mod.nolimit.keeps fun b o e=>(e0.bs b o e).1
 have hkind:∀ y∈ps.zip us,scope.names.lookup y.1=some .local\/(scope.names.lookup y.1=some .cell/\((cellsFrom (s.heap.objs.size+1) scope.names []).lookup y.1).isSome=true):=fun ⟨n,v⟩ hy=>by
  rcases S.par n (List.of_mem_zip hy).1 with q | q
  ·exact .inl q
  ·exact .inr ⟨q,PySem.W.cellsFrom_some _ _ _ (.inl q)⟩
 refine codeAny_call_function hr.depth (KX _ _ lk) rfl S.co S.gen rfl (PySem.W.codeRec_of KX hcd) (hb _ _ _ _ ?_)
 refine wpAny_newFunctionEnv_cells S.kind hkind fun env he s1 x=>?_
 subst he
 refine ⟨lim.keeps x.toInCall.keep,codeAny_func ?_⟩
 obtain ⟨t,ht,hq⟩:=hbody A outer s H vs Q E (hr.deeper _) hsp
 have I:Inv (zaK CX P w K mg base N qual scope f cdv A outer s H E) [] (start N vs) H s1:=zoV S hr.hd e0 hl r x
 refine wpAny_mono (ht [] s1 (start N vs) H _ I hq) (fun fl s' hs=>?_) fun e s' hs=>hs
 have fin:∀ {σ':St} {H':Hp} {v:V} {u:Value},Inv (zaK CX P w K mg base N qual scope f cdv A outer s H E) [] σ' H' s'->RelV v u->Q v H'->CE outer P w H s Q u s' :=
  fun {σ' H' v u} J rv q=>⟨v,H',J.os,J.bare,J.base,J.hok,rv,q⟩
 cases fl with
 | ret u =>
  obtain ⟨v,σ',H',J,rv,q⟩:=hs
  exact fin J rv q
 | next =>
  obtain ⟨σ',H',J,q⟩:=hs
  exact fin (v:=V.non) (u:=Value.none) J rfl q
 | brk =>
  obtain ⟨_,_,_,q⟩:=hs
  exact False.elim q
 | cont =>
  obtain ⟨_,_,_,q⟩:=hs
  exact False.elim q
section
variable {X:Cx} {x:Str} {p pos:Pos} {e:Expr} {es:List Expr} {t:TA} {id T:String} {r:List V->Hp->VK->Prop}
def tCB (r:List V->Hp->VK->Prop) (t:TA):TE:=fun σ H Q=>t σ H fun vs H1=>r vs H1 Q
theorem zI (hc:zaT X (.builtin id) r) (hg:Gl X x) (hm:X.mg x=none) (hv:bootBuiltins x=some (.builtin id)) (ha:PA X (e::es) t) (hn:x ≠ "__name__" := by decide) (hdb:(x == ("__debug__" : Str))=false:=by decide)
  (he:starEach (e::es) X.env=(false,eval e X.env)::starEach es X.env:=by rfl) (hpl:(backTo pos (starEach es X.env)).any (·.1)=false:=by rfl):PE X (.Call (.Name x p) (e::es) [] pos) (tCB r t):=by
 intro pins s σ H Q I h
 refine wpAny_Call_Name_kw (zfg I hg hm hv ?_ hn hdb)
 exact PyProof.Rows.callWith_builtin1 (thn (ha pos pins s σ H _ I h) fun us s1 ⟨vs,H1,I1,r1,q1⟩=>hc pins s1 σ H1 vs us Q I1 r1 q1) he hpl
theorem zae (hc:zaT X (.type T) r) (hg:Gl X x) (hm:X.mg x=none) (hv:bootBuiltins x=some (.type T)) (ha:PA X (e::es) t) (hn:x ≠ "__name__" := by decide) (hdb:(x == ("__debug__" : Str))=false:=by decide)
  (he:starEach (e::es) X.env=(false,eval e X.env)::starEach es X.env:=by rfl) (hpl:(backTo pos (starEach es X.env)).any (·.1)=false:=by rfl):PE X (.Call (.Name x p) (e::es) [] pos) (tCB r t):=by
 intro pins s σ H Q I h
 refine wpAny_Call_Name_kw (zfg I hg hm hv ?_ hn hdb)
 exact PyProof.Rows.callWith_type1 (thn (ha pos pins s σ H _ I h) fun us s1 ⟨vs,H1,I1,r1,q1⟩=>hc pins s1 σ H1 vs us Q I1 r1 q1) he hpl
end
end L2
namespace HT
open PySem PyProof.Rows
section
open PySem.SeqAt
open PySem.AutoSeq1 (wpAny_loadPart')
open PySem.MeetsSeq PySem.MeetsSeq2 PySem.MeetsSeq3
end
section
variable {prog:Program} {w:World} {A:Around} {E:Value->Shared->Prop} {s:Shared}
noncomputable def sIx (n d:Nat):Option Int->Nat
 | none=>d
 | some v=>if v<0 then (v+(n:Int)).toNat else min v.toNat n
theorem zsS (n d:Nat) (hd:d<=n) (o:Option Int):sIx n d o<=n:=by
 cases o with
 | none=>exact hd
 | some v =>
  show (if v<0 then (v+(n:Int)).toNat else min v.toNat n)<=n
  by_cases hv:v<0
  ·rw[if_pos hv];ac_rfl
  ·rw[if_neg hv];exact Nat.min_le_right _ _
theorem znO (v:Int) (n d:Nat):(if v<0 then max (v+(n:Int)) 0 else min v (n:Int))=((sIx n d (some v):Nat):Int):=by
 show (if v<0 then max (v+(n:Int)) 0 else min v (n:Int))=(((if v<0 then (v+(n:Int)).toNat else min v.toNat n):Nat):Int)
 by_cases hv:v<0
 ·simp only[if_pos hv];ac_rfl
 ·simp only[if_neg hv];ac_rfl
theorem zoH (lo hi:Option Int) (n:Nat):Builtin.Slice.sliceAdjust lo hi 1 (n:Int)=(((sIx n 0 lo:Nat):Int),((sIx n n hi:Nat):Int)):=by
 have h1:¬ ((1:Int)<0):=by ac_rfl
 unfold Builtin.Slice.sliceAdjust
 simp only[h1,if_false]
 refine Prod.ext ?_ ?_
 ·cases lo with
  | none=>rfl
  | some v=>exact znO v n 0
 ·cases hi with
  | none=>rfl
  | some v=>exact znO v n n
theorem zoA (i j:Nat):Builtin.Slice.slicePlaces (i:Int) (j:Int) 1=j-i:=by
 unfold Builtin.Slice.slicePlaces
 have h1:(1:Int) > 0:=by ac_rfl
 simp only[h1,if_true,Int.ediv_one]
 split <;> ac_rfl
theorem zjh {v:Value} {o:Option Int} {Q:Option Int->Shared->Prop} (p:IsPart v o) (h:Q o s):wpAny (model prog w) A (Builtin.Slice.slicePartIndex v) Q E s:=by
 cases p with
 | none=>exact slicePart_none h
 | int i t=>exact slicePart_int h
theorem ziJ {sl:Addr} {vl vu:Value} {lo hi:Option Int} {n:Nat} {Q:Int × Int × Nat->Shared->Prop} (hs:s.heap.IsSliceOf sl vl vu .none) (pl:IsPart vl lo) (pu:IsPart vu hi)
  (h:Q (((sIx n 0 lo:Nat):Int),1,sIx n n hi-sIx n 0 lo) s):wpAny (model prog w) A (Builtin.Slice.sliceApplied (.ref sl) (pure (n:Int))) Q E s:=by
 obtain ⟨os,hos,hcs,hds⟩:=id hs
 unfold Builtin.Slice.sliceApplied Builtin.Slice.sliceFields
 refine wpAny_bind (wpAny_bind (wpAny_field hos hds (x:=vl) rfl (wpAny_bind (wpAny_field hos hds (x:=vu) rfl (wpAny_bind (wpAny_field hos hds (x:=.none) rfl (wpAny_pure ?_)))))))
 refine wpAny_bind (slicePart_none ?_)
 show wpAny _ _ (if ((1:Int) == 0)=true then _ else _) _ _ s
 rw[if_neg (by decide)]
 refine wpAny_bind (zjh pl (wpAny_bind (zjh pu (wpAny_bind (wpAny_pure ?_)))))
 show wpAny _ _ (match Builtin.Slice.sliceAdjust lo hi 1 (n:Int) with | (lo,hi)=>pure (lo,(1:Int),Builtin.Slice.slicePlaces lo hi 1)) _ _ s
 rw[zoH lo hi n]
 show wpAny _ _ (pure (((sIx n 0 lo:Nat):Int),(1:Int),Builtin.Slice.slicePlaces ((sIx n 0 lo:Nat):Int) ((sIx n n hi:Nat):Int) 1)) _ _ s
 rw[zoA]
 exact wpAny_pure h
theorem zqi (xs:Array Value) (i k:Nat):((ybb k).filterMap fun (m:Nat)=>xs[((i:Int)+(m:Int)*1).toNat]?).toArray=((xs.toList.drop i).take k).toArray:=by
 have e:(fun (m:Nat)=>xs[((i:Int)+(m:Int)*1).toNat]?)=fun m=>xs[i+m]?:=by
  funext m
  have:((i:Int)+(m:Int)*1).toNat=i+m:=by ac_rfl
  rw[this]
 rw[e]
 have:=pick_run xs i k
 rw[List.filterMap_map] at this
 have e2:((fun x=>xs[x]?) ∘ fun x=>i+x)=fun m=>xs[i+m]?:=rfl
 rw[e2] at this
 rw[this]
theorem zif {t sl:Addr} {items:Array Value} {vl vu:Value} {lo hi:Option Int} {Q:Value->Shared->Prop} (ht:IsTup s.heap t items) (hs:s.heap.IsSliceOf sl vl vu .none) (pl:IsPart vl lo) (pu:IsPart vu hi)
  (hw:¬ (sIx items.size 0 lo=0/\sIx items.size items.size hi=items.size))
  (h:Q (.ref s.heap.objs.size) { s with heap:=s.heap.push { cls:=.type "tuple", data:=.seq ((items.toList.drop (sIx items.size 0 lo)).take (sIx items.size items.size hi-sIx items.size 0 lo)).toArray } })
  (hsz:items.size<=sizeLine):wpAny (model prog w) A (getItem (.ref t) (.ref sl)) Q E s:=by
 have htake:sizeOk (.seq ((items.toList.drop (sIx items.size 0 lo)).take (sIx items.size items.size hi-sIx items.size 0 lo)).toArray):=by
  show ((items.toList.drop (sIx items.size 0 lo)).take (sIx items.size items.size hi-sIx items.size 0 lo)).toArray.size<=sizeLine
  rw[yan,ybc,ybu,ydv]
  ac_rfl
 have hj:sIx items.size items.size hi<=items.size:=zsS _ _ (ycu _) hi
 obtain ⟨os,hos,hcs,hds⟩:=id hs
 have hTs:s.TypeIs (.ref sl) "slice" := ⟨os,hos,hcs⟩
 unfold getItem
 try with_reducible refine wpAny_holding ?_
 first | refine wpAny_bind (wpAny_pure ?_) | skip
 refine wpAny_bind (wpAny_sequenceKey ht.typeIs (by decide) ?_)
 refine wpAny_bind (wpAny_callSpecial?_slot (name:=Str.ofString "__getitem__") ht.typeIs PyProof.Rows.slot_tuple_getitem
  (wpAny_call_entry PyProof.Rows.slot_tuple_getitem ht.typeIs entry_tuple_getitem ?_ (args_tuple_getitem _ _)))
 show wpAny _ _ (Builtin.Tuple.tupleItemsOf (.ref t) >>= _) _ _ s
 refine wpAny_bind (tupleItemsOf_ ht ?_)
 refine wpAny_bind (wpAny_typeOf hTs ?_)
 rw[if_pos (by decide)]
 refine wpAny_bind (ziJ hs pl pu ?_)
 have hno:¬ ((((sIx items.size 0 lo:Nat):Int) == 0 && (1:Int) == 1 && (sIx items.size items.size hi-sIx items.size 0 lo) == items.size)=true):=by
  intro q
  rw[Bool.and_eq_true,Bool.and_eq_true] at q
  have q1:((sIx items.size 0 lo:Nat):Int)=0:=eq_of_beq q.1.1
  have q2:sIx items.size items.size hi-sIx items.size 0 lo=items.size:=eq_of_beq q.2
  exact hw ⟨by ac_rfl,by ac_rfl⟩
 show wpAny _ _ (if (((sIx items.size 0 lo:Nat):Int) == 0 && (1:Int) == 1 && (sIx items.size items.size hi-sIx items.size 0 lo) == items.size)=true then _ else _) _ _ s
 rw[if_neg hno,zqi]
 first
  | exact wpAny_bind (m:=Builtin.Tuple.tupleExact _) (wpAny_newObj_type (wpAny_pure ⟨_,rfl,wpAny_pure h⟩) htake)
  | exact wpAny_bind (m:=Builtin.Tuple.tupleExact _) (wpAny_newObj_type (wpAny_bind (wpAny_pure (wpAny_pure ⟨_,rfl,wpAny_pure h⟩))) htake)
  | exact wpAny_bind (wpAny_bind (m:=Builtin.Tuple.tupleExact _) (wpAny_newObj_type (wpAny_pure (wpAny_pure ⟨_,rfl,wpAny_pure h⟩)) htake))
  | exact wpAny_bind (wpAny_bind (m:=Builtin.Tuple.tupleExact _) (wpAny_newObj_type (wpAny_pure ⟨_,rfl,wpAny_pure h⟩) htake))
end
end HT
namespace L2
open PySem PySem.Spec PyProof.Rows
noncomputable abbrev TO:=St->Hp->(Option Int->Hp->Prop)->Prop
def PO (X:Cx) (e:Option Expr) (t:TO):Prop :=
 ∀ (pins:List (Addr × Obj)) (s:Shared) (σ:St) (H:Hp) (Q:Option Int->Hp->Prop),Inv X pins σ H s->t σ H Q ->
  wpAny (model X.prog X.w) X.A (evalPart e X.env) (fun u s'=>∃ o H',Inv X pins σ H' s'/\IsPart u o/\Q o H') X.xe s
def zrr:TO:=fun _ H Q=>Q none H
def ztb (t:TE):TO:=fun σ H Q=>t σ H fun x H1=>∃ i,x=.int i/\Q (some i) H1
section
variable {X:Cx} {e:Expr} {te:TE} {lo hi:Option Expr} {tl th:TO} {pos p2:Pos}
theorem zcB:PO X none zrr:=by
 intro pins s σ H Q I h
 rw[evalPart_none]
 exact wpAny_pure ⟨none,H,I,.none,h⟩
theorem zbd (h:PE X e te):PO X (some e) (ztb te):=by
 intro pins s σ H Q I hw
 rw[evalPart_some]
 refine thn (h pins s σ H _ I hw) fun u s1 ⟨x,H1,I1,r1,q1⟩=>?_
 obtain ⟨i,rfl,q⟩:=q1
 obtain ⟨t,rfl⟩:=r1
 exact ⟨some i,H1,I1,.int i t,q⟩
def SlR (X:Cx) (r:V->Option Int->Option Int->Hp->VK->Prop):Prop :=
 ∀ (pins:List (Addr × Obj)) (s:Shared) (σ:St) (H:Hp) (x:V) (v vl vu:Value) (lo hi:Option Int) (sl:Addr) (Q:VK),Inv X pins σ H s->RelV x v->s.heap.IsSliceOf sl vl vu .none->IsPart vl lo->IsPart vu hi->r x lo hi H Q ->
  ∃ T id,typeLookup (.type T) "__getitem__" = pure (some (.builtin id))/\s.TypeIs v T/\wpAny (model X.prog X.w) X.A (getItem v (.ref sl)) (EP X pins σ Q) X.xe s
def tSl (r:V->Option Int->Option Int->Hp->VK->Prop) (te:TE) (tl th:TO):TE:=fun σ H Q=>te σ H fun x H1=>tl σ H1 fun l H2=>th σ H2 fun u H3=>r x l u H3 Q
theorem zbj {r:V->Option Int->Option Int->Hp->VK->Prop} (hr:SlR X r) (he:PE X e te) (hl:PO X lo tl) (hu:PO X hi th):PE X (.Subscript e (.Slice lo hi none p2) pos) (tSl r te tl th):=by
 intro pins s σ H Q I h
 refine Subscript_ (thn (he pins s σ H _ I h) fun v s1 ⟨x,H1,I1,r1,q1⟩=>?_)
 refine wpAny_Slice (thn (hl pins s1 σ H1 _ I1 q1) fun vl s2 ⟨l,H2,I2,pl,q2⟩=>thn (hu pins s2 σ H2 _ I2 q2) fun vu s3 ⟨u,H3,I3,pu,q3⟩=>?_)
 rw[evalPart_none]
 refine wpAny_pure ?_
 have I4:Inv X pins σ H3 { s3 with heap:=s3.heap.push { cls:=.type "slice", data:=.fields #[vl,vu,.none] } }:=I3.kept (t':=s3.toks) fun b ob q=>ydk _ q
 obtain ⟨T,id,hT,ht,hg⟩:=hr pins { s3 with heap:=s3.heap.push { cls:=.type "slice", data:=.fields #[vl,vu,.none] } } σ H3 x v vl vu l u s3.heap.objs.size Q I4 r1 (Heap.IsSliceOf.new ..) pl pu q3
 show wpAny (model X.prog X.w) X.A (subscriptTail e (.Slice lo hi none p2) v (.ref s3.heap.objs.size)) (EP X pins σ Q) X.xe { s3 with heap:=s3.heap.push { cls:=.type "slice", data:=.fields #[vl,vu,.none] } }
 exact tail_any (ops:=[.ref s3.heap.objs.size,v]) ht hT hg (by with_unfolding_all rfl)
noncomputable def zbx (xs:List V) (lo hi:Option Int):List V:=(xs.drop (HT.sIx xs.length 0 lo)).take (HT.sIx xs.length xs.length hi-HT.sIx xs.length 0 lo)
theorem zil (xs:List V) (lo hi:Option Int):(zbx xs lo hi).length<=xs.length:=by
 unfold zbx
 rw[ybc,ybu]
 ac_rfl
noncomputable def zua (K:W.Frag):V->Option Int->Option Int->Hp->VK->Prop:=fun x lo hi H Q=>∃ a xs,x=.ref a/\SqT K H a xs /\
 ¬ (HT.sIx xs.length 0 lo=0/\HT.sIx xs.length xs.length hi=xs.length)/\∀ p,H p=none->Q (.ref p) (upd H p (.tup (zbx xs lo hi)))
theorem zsz:SlR X (zua X.K):=by
 intro pins s σ H x v vl vu lo hi sl Q I rx hs pl pu h
 obtain ⟨a,xs,rfl,hx,hw,q⟩:=h
 cases rx
 obtain ⟨its,r,ht,hz⟩:=I.tuple hx
 have hlen:its.toArray.size=xs.length:=by rw[yan];exact r.length.symm
 refine ⟨"tuple", _,PyProof.Rows.slot_tuple_getitem.lookup,ht.typeIs,?_⟩
 refine HT.zif ht hs pl pu (by rw[hlen];exact hw) ?_ (by rw[hlen];exact hz)
 rw[hlen]
 refine ⟨.ref s.heap.objs.size,_,I.laid (t':=s.toks) (o:=.tup (zbx xs lo hi)) (fun b ob q=>ydk _ q) (ycu _) ?_,rfl,q _ (I.hok.fresh (ycu _))⟩
 exact ⟨ycz (zil xs lo hi) hz,_,(r.drop (HT.sIx xs.length 0 lo)).take (HT.sIx xs.length xs.length hi-HT.sIx xs.length 0 lo),IsTup.new _ _⟩
end
noncomputable def ixN (n:Nat) (i:Int):Option Nat:=if 0<=i then (if i<n then some i.toNat else none) else if -(n:Int)<=i then some (i+n).toNat else none
noncomputable def atI {α:Type} (xs:List α) (i:Int):Option α:=(ixN xs.length i).bind fun j=>xs[j]?
theorem znY {n:Nat} {i:Int} {j:Nat} (h:ixN n i=some j):seqIndex? i n=some j/\j<n /\ -(n:Int)<=i/\i<n:=by
 unfold ixN at h
 by_cases h0:0<=i
 ·rw[if_pos h0] at h
  by_cases h1:i<n
  ·rw[if_pos h1] at h
   have e:i.toNat=j:=Option.some.inj h
   exact ⟨by rw[seqIndex_of h0 h1,e],by ac_rfl,by ac_rfl,h1⟩
  ·rw[if_neg h1] at h;cases h
 ·rw[if_neg h0] at h
  by_cases h1:-(n:Int)<=i
  ·rw[if_pos h1] at h
   have e:(i+n).toNat=j:=Option.some.inj h
   exact ⟨by rw[seqIndex_neg (by ac_rfl) h1,e],by ac_rfl,h1,by ac_rfl⟩
  ·rw[if_neg h1] at h;cases h
theorem zjY {α:Type} {xs:List α} {i:Int} {v:α} (h:atI xs i=some v):∃ j,seqIndex? i xs.length=some j/\xs[j]?=some v/\j<xs.length /\ -(xs.length:Int)<=i/\i<xs.length:=by
 unfold atI at h
 cases e:ixN xs.length i with
 | none=>rw[e] at h;cases h
 | some j =>
  rw[e] at h
  obtain ⟨h1,h2,h3,h4⟩:=znY e
  exact ⟨j,h1,h,h2,h3,h4⟩
theorem zbL {α:Type} {xs:List α} {j:Nat} {v:α} (h:xs[j]?=some v):atI xs (j:Int)=some v:=by
 have hj:j<xs.length:=(yad.mp h).1
 have e:ixN xs.length (j:Int)=some j:=by
  unfold ixN
  rw[if_pos (by ac_rfl),if_pos (by ac_rfl)];simp
 unfold atI;rw[e];exact h
def zrp (b:Expr):Prop:=∀ o i,subscripted b false o i=operate [o,i] (getItem o i)
def IxR (X:Cx) (r:R2):Prop :=
 ∀ (value slice:Expr) (pins:List (Addr × Obj)) (s:Shared) (σ:St) (H:Hp) (x y:V) (v u:Value) (Q:VK),Inv X pins σ H s->RelV x v->RelV y u->r x y H Q ->
  subscripted slice false v u=operate [v,u] (getItem v u)->wpAny (model X.prog X.w) X.A (subscriptTail value slice v u) (EP X pins σ Q) X.xe s
def MtR (X:Cx) (id:String) (r:V->List V->Hp->VK->Prop):Prop :=
 ∀ (pins:List (Addr × Obj)) (s:Shared) (σ:St) (H:Hp) (x:V) (xs:List V) (v:Value) (us:List Value) (Q:VK),Inv X pins σ H s->RelV x v->Vals xs us->r x xs H Q ->
  wpAny (model X.prog X.w) X.A (call (.builtin id) (v::us)) (EP X pins σ Q) X.xe s
section
variable {X:Cx} {a b:Expr} {ta tb:TE} {pos:Pos}
theorem zx {r:R2} (hr:IxR X r) (ha:PE X a ta) (hb:PE X b tb) (hs:zrp b):PE X (.Subscript a b pos) (tOp r ta tb):=by
 intro pins s σ H Q I h
 exact Subscript_ (zqD ha hb I h fun v u s2 x y H2 I2 rx ry q=>hr a b pins s2 σ H2 x y v u Q I2 rx ry q (hs _ _))
def ztT (K:W.Frag):R2:=fun x y H Q=>∃ p xs i v,x=.ref p/\y=.int i/\SqL K H p xs/\atI xs i=some v/\Q v H
def zse (K:W.Frag):R2:=fun x y H Q=>∃ p xs i v,x=.ref p/\y=.int i/\SqT K H p xs/\atI xs i=some v/\Q v H
theorem zA:IxR X (ztT X.K):=by
 intro value slice pins s σ H x y v u Q I rx ry h hs
 obtain ⟨p,xs,i,z,rfl,rfl,hq,he,q⟩:=h
 cases rx
 obtain ⟨t,rfl⟩:=ry
 obtain ⟨its,r,pl,hz⟩:=I.list hq
 obtain ⟨j,h1,h2,h3,h4,h5⟩:=zjY he
 obtain ⟨w,ew,rw'⟩:=r.get h2
 have hl:=r.length
 have hn:=zjz
 have fin:EP X pins σ Q w s:=⟨z,H,I,rw',q⟩
 by_cases h0:0<=i
 ·have hj:i.toNat=j:=by
   rw[seqIndex_of h0 h5] at h1
   exact Option.some.inj h1
  exact item_listR pl.isList h0 (by ac_rfl) (by rw[hj];simpa using ew) fin hs
 ·have hj:(i+(its.toArray.size:Int)).toNat=j:=by
   rw[seqIndex_neg (by ac_rfl) h4] at h1
   rw[yan,<-hl]
   exact Option.some.inj h1
  exact subscriptTail_builtinR (x:=w) pl.isList.typeIs slot_list_getitem.lookup
   (wpAny_getItem_list_neg (Q:=fun r s'=>r=w/\EP X pins σ Q r s') pl.isList (by ac_rfl) (by rw[yan] <;> ac_rfl) (by ac_rfl) (by rw[hj];simpa using ew) ⟨rfl,fin⟩) hs
theorem za0:IxR X (zse X.K):=by
 intro value slice pins s σ H x y v u Q I rx ry h hs
 obtain ⟨p,xs,i,z,rfl,rfl,hq,he,q⟩:=h
 cases rx
 obtain ⟨t,rfl⟩:=ry
 obtain ⟨its,r,pl,hz⟩:=I.tuple hq
 obtain ⟨j,h1,h2,h3,h4,h5⟩:=zjY he
 obtain ⟨w,ew,rw'⟩:=r.get h2
 have hl:=r.length
 have hn:=zjz
 have fin:EP X pins σ Q w s:=⟨z,H,I,rw',q⟩
 exact subscriptTail_builtinR (x:=w) pl.typeIs slot_tuple_getitem.lookup
  (getItem_tuple (j:=j) (Q:=fun r s'=>r=w/\EP X pins σ Q r s') pl (by ac_rfl) (by ac_rfl) (by rw[yan,<-hl];exact h1) (by simpa using ew) ⟨rfl,fin⟩) hs
theorem zou (its:List Value) (n j:Nat) (u:Value):Obj.mapSeq (·.setIfInBounds j u) { cls:=.type "list", data:=.seq its.toArray n }={ cls:=.type "list", data:=.seq (its.set j u).toArray n }:=by
 simp[Obj.mapSeq]
theorem Inv.lst {pins:List (Addr × Obj)} {σ:St} {H:Hp} {s:Shared} {p:Addr} {xs:List V} (I:Inv X pins σ H s) (h:H p=some (.lst xs)) :
  ∃ (its:List Value) (n:Nat),Vals xs its/\s.heap.get? p=some { cls:=.type "list", data:=.seq its.toArray n }/\xs.length<=sizeLine:=by
 obtain ⟨z,its,n,r,e⟩:=I.hok p _ h
 exact ⟨its,n,r,e,z⟩
theorem Inv.zsc {pins:List (Addr × Obj)} {σ:St} {H:Hp} {s:Shared} {p:Addr} {xs ys:List V} {its its':List Value} {n n':Nat} {f:Obj->Obj} (I:Inv X pins σ H s) (h:H p=some (.lst xs))
  (ho:s.heap.get? p=some { cls:=.type "list", data:=.seq its.toArray n }) (hf:f { cls:=.type "list", data:=.seq its.toArray n }={ cls:=.type "list", data:=.seq its'.toArray n' }) (r:Vals ys its') (hz:ys.length<=sizeLine) (t:Nat) :
  Inv X pins σ (upd H p (.lst ys)) { s with heap:=s.heap.update p f,toks:=t }:=by
 have e:(s.heap.update p f).get? p=some { cls:=.type "list", data:=.seq its'.toArray n' }:=by
  rw[ydo f ho (by rw[hf] <;> rfl),hf]
 refine I.write (x:=p) (e:=p) (by rw[h];trivial) (.inl rfl) (fun b u hb q=>(ydn _ _ (Ne.symm hb)).trans q) ⟨_,e⟩ ?_
 exact ⟨hz,its',n',r,e⟩
noncomputable def zto:V->V->V->Hp->(Hp->Prop)->Prop:=fun o i v H Q=>∃ p xs k j,o=.ref p/\i=.int k/\H p=some (.lst xs)/\ixN xs.length k=some j/\Q (upd H p (.lst (xs.set j v)))
theorem set_list:PSet X zto:=by
 intro pins s σ H o i v ov iv u Q I ro ri rv h
 obtain ⟨p,xs,k,j,rfl,rfl,hp,hj,q⟩:=h
 cases ro
 obtain ⟨t,rfl⟩:=ri
 obtain ⟨its,n,r,ho,hz⟩:=I.lst hp
 obtain ⟨h1,h2,h3,h4⟩:=znY hj
 have hl:=r.length
 have hn:=zjz
 have I':Inv X pins σ (upd H p (.lst (xs.set j v))) { s with heap:=s.heap.update p (Obj.mapSeq (·.setIfInBounds j u)) } :=
  I.zsc hp ho (zou its n j u) (r.set rv j) (by rw[List.length_set];exact hz) s.toks
 by_cases h0:0<=k
 ·have hk:k.toNat=j:=by
   rw[seqIndex_of h0 h4] at h1
   exact Option.some.inj h1
  exact PySem.W.ki_setAt ho h0 (by ac_rfl) (by rw[yan,<-hl];exact h4) (by rw[hk];exact ⟨_,I',q⟩)
 ·have hk:(k+(its.toArray.size:Int)).toNat=j:=by
   rw[seqIndex_neg (by ac_rfl) h3] at h1
   rw[yan,<-hl]
   exact Option.some.inj h1
  exact PySem.W.ki_setBack ho (by ac_rfl) (by rw[yan,<-hl];exact h3) (by ac_rfl) (by rw[hk];exact ⟨_,I',q⟩)
theorem zly (lo hi:Option Int) (n:Nat):(sliceBounds lo hi none n).1=((HT.sIx n 0 lo:Nat):Int)/\(sliceBounds lo hi none n).2.1=((HT.sIx n n hi:Nat):Int)/\(sliceBounds lo hi none n).2.2=1:=by
 refine ⟨?_,?_,rfl⟩
 ·cases lo with
  | none=>simp[sliceBounds,HT.sIx]
  | some i =>
   simp only[sliceBounds,HT.sIx,Option.getD_none,show (1:Int) > 0 by decide,if_true]
   by_cases h:i<0
   ·simp only[h,if_true] <;> ac_rfl
   ·simp only[h,if_false] <;> ac_rfl
 ·cases hi with
  | none=>simp[sliceBounds,HT.sIx]
  | some i =>
   simp only[sliceBounds,HT.sIx,Option.getD_none,show (1:Int) > 0 by decide,if_true]
   by_cases h:i<0
   ·simp only[h,if_true] <;> ac_rfl
   ·simp only[h,if_false] <;> ac_rfl
theorem zlb (its:List Value) (lo hi:Option Int):slicePick its.toArray lo hi none=((its.drop (HT.sIx its.length 0 lo)).take (HT.sIx its.length its.length hi-HT.sIx its.length 0 lo)).toArray:=by
 obtain ⟨h1,h2,h3⟩:=zly lo hi its.toArray.size
 unfold slicePick
 rw[h1,h2,h3]
 simp only[sliceRange_one,pick_run,yan] <;> rfl
noncomputable def zt8 (K:W.Frag):V->Option Int->Option Int->Hp->VK->Prop:=fun x lo hi H Q=>∃ a xs,x=.ref a/\SqL K H a xs/\∀ p,H p=none->Q (.ref p) (upd H p (.lst (zbx xs lo hi)))
theorem zcd:SlR X (zt8 X.K):=by
 intro pins s σ H x v vl vu lo hi sl Q I rx hs pl pu h
 obtain ⟨a,xs,rfl,hx,q⟩:=h
 cases rx
 obtain ⟨its,r,ht,hz⟩:=I.list hx
 have hlen:=r.length
 refine ⟨"list", _,slot_list_getitem.lookup,ht.isList.typeIs,?_⟩
 refine wpAny_getItem_list_slice ht.isList hs pl pu .none (by simp) ?_ (by rw[yan] <;> ac_rfl)
 rw[zlb,<-hlen]
 refine ⟨.ref s.heap.objs.size,_,I.laid (t':=s.toks) (o:=.lst (zbx xs lo hi)) (fun b ob q=>ydk _ q) (ycu _) ?_,rfl,q _ (I.hok.fresh (ycu _))⟩
 exact ⟨ycz (zil xs lo hi) hz,_,0,(r.drop (HT.sIx xs.length 0 lo)).take (HT.sIx xs.length xs.length hi-HT.sIx xs.length 0 lo),ydm _ rfl⟩
noncomputable def zfx:V->Bool
 | .non=>true
 | .bl _=>true
 | .int _=>true
 | .str _=>true
 | _=>false
noncomputable def eqV:V->V->Bool
 | .non,.non=>true
 | .bl a,.bl b=>a == b
 | .bl a,.int b=>(if a then 1 else 0) == b
 | .int a,.bl b=>a == (if b then 1 else 0)
 | .int a,.int b=>a == b
 | .str a,.str b=>a == b
 | _,_=>false
theorem zsn {A:Around} {s:Shared} {y x:V} {u v:Value} (ry:RelV y u) (rx:RelV x v) (fy:zfx y=true) (fx:zfx x=true):SeqAt.EqAt A s u v (eqV y x):=by
 cases y with
 | non =>
  cases ry
  cases x with
  | non=>cases rx;exact SeqAt.EqAt.same _
  | bl b=>cases rx;exact SeqAt.EqAt.none_bool b
  | int b=>obtain ⟨t,rfl⟩:=rx;exact SeqAt.EqAt.none_int b t
  | str b=>obtain ⟨t,rfl⟩:=rx;exact SeqAt.EqAt.none_str b t
  | _=>exact absurd (show false=true from fx) Bool.false_ne_true
 | bl a =>
  cases ry
  cases x with
  | non=>cases rx;exact SeqAt.EqAt.bool_none a
  | bl b=>cases rx;exact SeqAt.EqAt.bool_bool a b
  | int b=>obtain ⟨t,rfl⟩:=rx;exact SeqAt.EqAt.bool_int a b t
  | str b=>obtain ⟨t,rfl⟩:=rx;exact SeqAt.EqAt.bool_str a b t
  | _=>exact absurd (show false=true from fx) Bool.false_ne_true
 | int a =>
  obtain ⟨t',rfl⟩:=ry
  cases x with
  | non=>cases rx;exact SeqAt.EqAt.int_none a t'
  | bl b=>cases rx;exact SeqAt.EqAt.int_bool a t' b
  | int b=>obtain ⟨t,rfl⟩:=rx;exact SeqAt.EqAt.int_int a t' b t
  | str b=>obtain ⟨t,rfl⟩:=rx;exact SeqAt.EqAt.int_str a t' b t
  | _=>exact absurd (show false=true from fx) Bool.false_ne_true
 | str a =>
  obtain ⟨t',rfl⟩:=ry
  cases x with
  | non=>cases rx;exact SeqAt.EqAt.str_none a t'
  | bl b=>cases rx;exact SeqAt.EqAt.str_bool a t' b
  | int b=>obtain ⟨t,rfl⟩:=rx;exact SeqAt.EqAt.str_int a t' b t
  | str b=>obtain ⟨t,rfl⟩:=rx;exact SeqAt.EqAt.str_str a t' b t
  | _=>exact absurd (show false=true from fx) Bool.false_ne_true
 | _=>exact absurd (show false=true from fy) Bool.false_ne_true
def eqU (x:V) (u:Value):Bool:=match u with
 | .none=>eqV .non x
 | .bool b=>eqV (.bl b) x
 | .int i _=>eqV (.int i) x
 | .str z _=>eqV (.str z) x
 | _=>false
theorem zpz {x y:V} {u:Value} (r:RelV y u) (f:zfx y=true):eqU x u=eqV y x:=by
 cases y with
 | non=>cases r;rfl
 | bl b=>cases r;rfl
 | int i=>obtain ⟨t,rfl⟩:=r;rfl
 | str z=>obtain ⟨t,rfl⟩:=r;rfl
 | _=>exact absurd (show false=true from f) Bool.false_ne_true
theorem zjZ {x:V}:∀ {xs:List V} {us:List Value},Vals xs us->xs.all zfx=true->us.any (eqU x)=xs.any fun y=>eqV y x
 | _,_,.nil,_=>rfl
 | y::xs,u::us,.cons r t,f=>by
  rw[List.all_cons,Bool.and_eq_true] at f
  rw[yct,yct,zpz r f.1,zjZ t f.2]
theorem ziN {A:Around} {s:Shared} {x:V} {v:Value} (rx:RelV x v) (fx:zfx x=true):∀ {xs:List V} {us:List Value},Vals xs us->xs.all zfx=true->∀ u∈us,SeqAt.EqAt A s u v (eqU x u)
 | _,_,.nil,_=>fun u hu=>by cases hu
 | y::xs,u::us,.cons r t,f=>fun u' hu=>by
  rw[List.all_cons,Bool.and_eq_true] at f
  rcases yak.mp hu with rfl | hu
  ·rw[zpz r f.1];exact zsn r rx f.1 fx
  ·exact ziN rx fx t f.2 u' hu
def inV (x:V) (xs:List V):Bool:=xs.any fun y=>eqV y x
def rIn (K:W.Frag) (neg:Bool):R2:=fun x y H Q=>∃ p xs,y=.ref p/\(SqL K H p xs\/SqT K H p xs)/\zfx x=true/\xs.all zfx=true/\Q (.bl (if neg then !inV x xs else inV x xs)) H
theorem zkF:OpR X (compareOp .In) (rIn X.K false):=by
 intro pins s σ H x y v u Q I rx ry h
 obtain ⟨p,xs,rfl,hq,fx,fs,q⟩:=h
 cases ry
 rcases hq with hq | hq
 ·obtain ⟨its,r,pl,hz⟩:=I.list hq
  refine SeqAt.in_listAt (eqU x) pl.isList (fun w hw=>ziN rx fx r fs w (by simpa using hw)) ⟨.bl _,H,I,rfl,?_⟩
  rw[show its.toArray.any (eqU x)=its.any (eqU x) by simp,zjZ r fs]
  exact q
 ·obtain ⟨its,r,pl,hz⟩:=I.tuple hq
  refine SeqAt.in_tupleAt (eqU x) pl (fun w hw=>ziN rx fx r fs w (by simpa using hw)) ⟨.bl _,H,I,rfl,?_⟩
  rw[show its.toArray.any (eqU x)=its.any (eqU x) by simp,zjZ r fs]
  exact q
theorem za2:zaT X (.builtin "len") (fun xs H Q=>∃ p ys,xs=[.ref p]/\(SqL X.K H p ys\/SqT X.K H p ys)/\Q (.int ys.length) H):=by
 intro pins s σ H xs us Q I r h
 obtain ⟨p,ys,rfl,hq,q⟩:=h
 obtain ⟨u,rfl,rx⟩:=vals1 r
 cases rx
 have hn:=zjz
 rcases hq with hq | hq
 ·obtain ⟨its,r',pl,hz⟩:=I.list hq
  have hlen:=r'.length
  exact Calls.call_len_list pl.isList (by simp only[yan] <;> ac_rfl) ⟨.int ys.length,H,I.tok _,⟨s.toks+1,by rw[yan,hlen]⟩,q⟩
 ·obtain ⟨its,r',pl,hz⟩:=I.tuple hq
  have hlen:=r'.length
  exact len_tuple pl (by simp only[yan] <;> ac_rfl) ⟨.int ys.length,H,I.tok _,⟨s.toks+1,by rw[yan,hlen]⟩,q⟩
theorem zau:zaT X (.type "list") (fun xs H Q=>∃ p ys,xs=[.ref p]/\(SqL X.K H p ys\/SqT X.K H p ys)/\∀ l,H l=none->Q (.ref l) (upd H l (.lst ys))):=by
 intro pins s σ H xs us Q I r h
 obtain ⟨p,ys,rfl,hq,q⟩:=h
 obtain ⟨u,rfl,rx⟩:=vals1 r
 cases rx
 have fin:∀ (its:List Value),Vals ys its->ys.length<=sizeLine->∀ (h':Heap) (c':Nat),(∀ b o',s.heap.get? b=some o'->h'.get? b=some o') ->
   h'.get? s.heap.objs.size=some { cls:=.type "list", dict:=none,data:=.seq its.toArray c',slots:=#[] }->EP X pins σ Q (.ref s.heap.objs.size) { s with heap:=h' }:=fun its r' hz h' c' kp e =>
  ⟨.ref s.heap.objs.size,_,I.laid (t':=s.toks) kp (ycu _) (show zad X.prog X.w _ h' _ (.lst ys) from ⟨hz,its,c',r',e⟩),rfl,q _ (I.hok.fresh (ycu _))⟩
 rcases hq with hq | hq
 ·obtain ⟨its,r',pl,hz⟩:=I.list hq
  have hlen:=r'.length
  obtain ⟨o,ho,hc,n,hd⟩:=pl.isList
  exact call_list_seq p (.inl rfl) ho hc hd (fun h' c' kp e=>fin its r' hz h' c' kp e) (by simp only[yan] <;> ac_rfl)
 ·obtain ⟨its,r',pl,hz⟩:=I.tuple hq
  have hlen:=r'.length
  obtain ⟨o,ho,hc,n,hd⟩:=pl
  exact call_list_seq p (.inr rfl) ho hc hd (fun h' c' kp e=>fin its r' hz h' c' kp e) (by simp only[yan] <;> ac_rfl)
def tyV (K:W.Frag) (T:String) (x:V) (H:Hp):Prop:=match x with
 | .str _=>T = "str"
 | .int _=>T = "int"
 | .ref p=>(T = "list" /\ ∃ xs,SqL K H p xs)\/(T = "tuple" /\ ∃ o,K.lookup p=some o/\o.cls=.type "tuple" /\ o.dict=none) \/
   (T = "dict" /\ ∃ kvs,H p=some (.dK kvs))\/(T = "set" /\ ∃ S n,H p=some (.set S n))
 | _=>False
theorem zpn {pins:List (Addr × Obj)} {σ:St} {H:Hp} {s:Shared} {T:String} {x:V} {v:Value} (I:Inv X pins σ H s) (r:RelV x v) (ty:tyV X.K T x H) :
  s.TypeIs v T/\∀ a,v=.ref a->∃ ob,s.heap.get? a=some ob/\ob.dict=none:=by
 cases x with
 | str z =>
  obtain ⟨t,rfl⟩:=r
  cases (show T = "str" from ty)
  exact ⟨typeIs_str s z t,fun _ e=>nomatch e⟩
 | int i =>
  obtain ⟨t,rfl⟩:=r
  cases (show T = "int" from ty)
  exact ⟨typeIs_int s i t,fun _ e=>nomatch e⟩
 | ref p =>
  cases r
  rcases ty with ⟨rfl,xs,hq⟩ | ⟨rfl,o,hk,hc,hd⟩ | ⟨rfl,hk⟩ | ⟨rfl,S,n,hk⟩
  ·obtain ⟨its,_,pl,_⟩:=I.list hq
   refine ⟨pl.isList.typeIs,fun a e=>?_⟩
   cases e
   obtain ⟨o,n,e,c,hd,_⟩:=pl
   exact ⟨o,e,hd⟩
  ·refine ⟨⟨o,I.kIn p o hk,hc⟩,fun a e=>?_⟩
   cases e
   exact ⟨o,I.kIn _ o hk,hd⟩
  ·have z:∃ o,s.heap.get? p=some o/\o.ExactDict:=by
    obtain ⟨kvs,hk⟩:=hk
    obtain ⟨_,_,_,_,o,_,_,e,ex,_⟩:=I.hok p _ hk
    exact ⟨o,e,ex⟩
   obtain ⟨o,e,ex⟩:=z
   refine ⟨⟨o,e,ex.1⟩,fun a e2=>?_⟩
   cases e2
   exact ⟨o,e,ex.2.1⟩
  ·obtain ⟨o,_,_,_,e,ex,_⟩:=I.hok p _ hk
   refine ⟨⟨o,e,ex.1⟩,fun a e2=>?_⟩
   cases e2
   exact ⟨o,e,ex.2.1⟩
 | _=>exact False.elim ty
def zt2 (K:W.Frag) (T:String) (r:V->List V->Hp->VK->Prop) (to:TE):TE:=fun σ H Q=>to σ H fun x H1=>tyV K T x H1/\r x [] H1 Q
def tBM (K:W.Frag) (T:String) (r:V->List V->Hp->VK->Prop) (to:TE) (t:TA):TE:=fun σ H Q=>to σ H fun x H1=>tyV K T x H1/\t σ H1 fun xs H2=>r x xs H2 Q
variable {o e:Expr} {es:List Expr} {to:TE} {t:TA} {name:Str} {apos cpos:Pos} {T id:String} {r:V->List V->Hp->VK->Prop}
theorem zjp (pa:PlainAttrs T) (slot:Slot T name id) (hty:typeOf (.builtin id)=pure (.type "method_descriptor")) (hm:MtR X id r) (ho:PE X o to)
  (hbase:attributeBase o name X.env (eval o X.env)=eval o X.env:=by rfl) (hline:(apos.endLine == cpos.line)=true:=by rfl):PE X (.Call (.Attribute o name apos) [] [] cpos) (zt2 X.K T r to):=by
 intro pins s σ H Q I h
 refine wpAny_Call_method0_late hbase hline (thn (ho pins s σ H _ I h) fun v s1 ⟨x,H1,I1,r1,ty,q1⟩=>?_)
 obtain ⟨h1,h2⟩:=zpn I1 r1 ty
 exact ⟨T,id,pa,slot,hty,h1,h2,Calls.callWith_builtin rfl (PySem.evalArgs_none (hm pins s1 σ H1 x [] v [] Q I1 r1 .nil q1))⟩
theorem zer (pa:PlainAttrs T) (slot:Slot T name id) (hty:typeOf (.builtin id)=pure (.type "method_descriptor")) (hm:MtR X id r) (ho:PE X o to) (ha:PA X (e::es) t)
  (hbase:attributeBase o name X.env (eval o X.env)=eval o X.env:=by rfl)
  (hfew:((backTo cpos (starEach (e::es) X.env)).all (fun x=>!x.1) && (backToKw cpos (keywordEach [] X.env)).all (fun x=>x.1.isSome)
   && decide ((e::es).length+([]:List Keyword).length+(if ([]:List Keyword).isEmpty then 0 else 1)<30))=true:=by rfl)
  (hline:(apos.endLine == cpos.line)=true:=by rfl) (hs:starEach (e::es) X.env=(false,eval e X.env)::starEach es X.env:=by rfl) (hplain:(backTo cpos (starEach es X.env)).any (·.1)=false:=by rfl) :
  PE X (.Call (.Attribute o name apos) (e::es) [] cpos) (tBM X.K T r to t):=by
 intro pins s σ H Q I h
 refine wpAny_Call_method_late hbase hfew hline rfl (thn (ho pins s σ H _ I h) fun v s1 ⟨x,H1,I1,r1,ty,q1⟩=>?_)
 obtain ⟨h1,h2⟩:=zpn I1 r1 ty
 refine ⟨T,id,pa,slot,hty,h1,h2,?_⟩
 have hA:=ha cpos pins s1 σ H1 _ I1 q1
 rw[hs] at hA ⊢
 refine Calls.callWith_builtin (by show (false || (backTo cpos (starEach es X.env)).any (·.1))=false;rw[hplain] <;> rfl) (Calls.evalArgs_plain ?_)
 exact thn hA fun us s2 ⟨vs,H2,I2,r2,q2⟩=>hm pins s2 σ H2 x vs v us Q I2 r1 r2 q2
/- xs.append(e),list.index on a module's tuple .. are MtR facts of 06m -/
end
def MtM (X:Cx) (id:String) (r:V->List V->Hp->VK->Prop):Prop :=
 ∀ (pins:List (Addr × Obj)) (s:Shared) (σ:St) (H:Hp) (x:V) (xs:List V) (v:Value) (us:List Value) (Q:VK),Inv X pins σ H s->RelV x v->Vals xs us->r x xs H Q ->
  wpAny (model X.prog X.w) X.A (call (.builtin id) (v::us)) (EP X pins σ Q) X.xe s
theorem Vals.one:∀ {x:V} {us:List Value},Vals [x] us->∃ u,us=[u]/\RelV x u
 | _,_,.cons r .nil=>⟨_,rfl,r⟩
theorem Vals.zero:∀ {us:List Value},Vals [] us->us=[]
 | _,.nil=>rfl
theorem Vals.reverse {xs:List V} {us:List Value} (h:Vals xs us):Vals xs.reverse us.reverse:=by
 induction h with
 | nil=>exact .nil
 | cons r t ih=>rw[List.reverse_cons,List.reverse_cons];exact Vals.append ih (.cons r .nil)
theorem Vals.rep {xs:List V} {us:List Value} (h:Vals xs us):∀ k:Nat,Vals (yae k xs).flatten (yae k us).flatten
 | 0=>.nil
 | k+1=>by
  rw[ybi,ybi,yca,yca]
  exact Vals.append h (Vals.rep h k)
theorem foldl_rep (its:List Value):∀ (k:Nat) (acc:List Value),
  List.foldl (fun x1 x2=>x1++x2) acc.toArray (yae k its.toArray)=(acc++(yae k its).flatten).toArray
 | 0,acc=>by simp
 | k+1,acc=>by
  have e:acc.toArray++its.toArray=(acc++its).toArray:=by simp
  have e2:(acc++its)++(yae k its).flatten=acc++(yae (k+1) its).flatten:=by
   rw[ybi,yca,List.append_assoc]
  rw[<-e2,<-foldl_rep its k (acc++its),<-e,ybi,yck]
section
variable {X:Cx} {pins:List (Addr × Obj)} {σ:St} {H:Hp} {s:Shared} {l b:Addr} {xs ys zs:List V}
theorem Inv.lset {its its':List Value} {n:Nat} {f:Array Value->Array Value} {t':Nat} (I:Inv X pins σ H s) (hH:H l=some (.lst xs))
  (e:s.heap.get? l=some { cls:=.type "list", data:=.seq its.toArray n }) (hf:f its.toArray=its'.toArray) (hv:Vals ys its') (hz:ys.length<=sizeLine) :
  Inv X pins σ (upd H l (.lst ys)) { s with heap:=s.heap.update l (Obj.mapSeq f),toks:=t' }:=by
 have q:=PySem.IsL.update e f
 rw[hf] at q
 refine I.write (x:=l) (e:=l) (by rw[hH];exact trivial) (.inl rfl) (fun b' u hb hu=>(ydn s.heap (Obj.mapSeq f) (Ne.symm hb)).trans hu) ⟨_,q⟩ ?_
 exact ⟨hz,its',_,hv,q⟩
theorem Inv.lnew {its:List Value} {t':Nat} (I:Inv X pins σ H s) (hv:Vals ys its) (hz:ys.length<=sizeLine) :
  Inv X pins σ (upd H s.heap.objs.size (.lst ys)) { s with heap:=s.heap.push { cls:=.type "list", data:=.seq its.toArray },toks:=t' } :=
 I.laid (fun _ _ q=>ydk _ q) (ycu _) ⟨hz,its,0,hv,ydm _ rfl⟩
theorem Inv.fresh (I:Inv X pins σ H s):H s.heap.objs.size=none:=I.hok.fresh (ycu _)
theorem Inv.zjW (I:Inv X pins σ H s) (hH:H l=some (.lst xs)):xs.length<=sizeLine/\∃ (its:List Value) (n:Nat),Vals xs its/\xs.length=its.length/\s.heap.get? l=some { cls:=.type "list", data:=.seq its.toArray n }:=by
 obtain ⟨z,its,n,r,e⟩:=I.hok l _ hH
 exact ⟨z,its,n,r,r.length,e⟩
theorem zqo {n:Nat} (h:n<=sizeLine):Builtin.List.listTooLong n=false:=by
 unfold Builtin.List.listTooLong
 exact decide_eq_false (by ac_rfl)
end
section
variable {X:Cx}
noncomputable def zrK:V->List V->Hp->VK->Prop:=fun x vs H Q=>∃ l xs y,x=.ref l/\vs=[y]/\H l=some (.lst xs)/\xs.length<sizeLine/\Q .non (upd H l (.lst (xs++[y])))
theorem zaD:MtM X "list.append" zrK:=by
 intro pins s σ H x vs v us Q I rx rv h
 obtain ⟨l,xs,y,rfl,rfl,hH,hz,q⟩:=h
 cases rx
 obtain ⟨u,rfl,ru⟩:=rv.one
 obtain ⟨z,its,n,r,hl,e⟩:=I.zjW hH
 refine call_meets F.slot_list_append ⟨_,e,rfl⟩ F.entry_list_append (F.args_list_append_2 _ _) (PySem.list_append l its.toArray n u (by rw[yan];ac_rfl)) ⟨e,?_⟩
 refine ⟨.non,_,I.lset (its':=its++[u]) hH e (by simp) (r.append (.cons ru .nil)) ?_,rfl,q⟩
 rw[yaf,ybp]
 ac_rfl
noncomputable def zqa:V->List V->Hp->VK->Prop:=fun x vs H Q=>∃ l xs,x=.ref l/\vs=[]/\H l=some (.lst xs)/\Q .non (upd H l (.lst xs.reverse))
theorem zjf:MtM X "list.reverse" zqa:=by
 intro pins s σ H x vs v us Q I rx rv h
 obtain ⟨l,xs,rfl,rfl,hH,q⟩:=h
 cases rx
 have hus:=rv.zero
 subst hus
 obtain ⟨z,its,n,r,hl,e⟩:=I.zjW hH
 refine call_meets F.slot_list_reverse ⟨_,e,rfl⟩ F.entry_list_reverse (F.args_list_reverse_1 _) (AutoSeq1.list_reverse_list_0 l its.toArray n (by rw[yan];ac_rfl)) ⟨e,?_⟩
 refine ⟨.non,_,I.lset (its':=its.reverse) hH e (by simp) r.reverse ?_,rfl,q⟩
 rw[ycs]
 ac_rfl
noncomputable def zsW:V->List V->Hp->VK->Prop:=fun x vs H Q=>∃ l xs,x=.ref l/\vs=[]/\H l=some (.lst xs)/\Q .non (upd H l (.lst []))
theorem zms:MtM X "list.clear" zsW:=by
 intro pins s σ H x vs v us Q I rx rv h
 obtain ⟨l,xs,rfl,rfl,hH,q⟩:=h
 cases rx
 have hus:=rv.zero
 subst hus
 obtain ⟨z,its,n,r,hl,e⟩:=I.zjW hH
 refine call_meets F.slot_list_clear ⟨_,e,rfl⟩ F.entry_list_clear (F.args_list_clear_1 _) (AutoSeq1.list_clear_list_0 l its.toArray n (by rw[yan];ac_rfl)) ⟨e,?_⟩
 exact ⟨.non,_,I.lset (its':=[]) (ys:=[]) hH e rfl .nil (ycy _),rfl,q⟩
def ztZ:R2:=fun x y H Q=>∃ l b xs zs,x=.ref l/\y=.ref b/\H l=some (.lst xs)/\H b=some (.lst zs)/\xs.length+zs.length<=sizeLine/\∀ p,H p=none->Q (.ref p) (upd H p (.lst (xs++zs)))
theorem zbT:OpR X (binaryOp .Add) ztZ:=by
 intro pins s σ H x y v u Q I rx ry h
 obtain ⟨l,b,xs,zs,rfl,rfl,hH,hB,hz,q⟩:=h
 cases rx
 cases ry
 obtain ⟨z,its,n,r,hl,e⟩:=I.zjW hH
 obtain ⟨z2,its2,n2,r2,hl2,e2⟩:=I.zjW hB
 refine PySem.P.add_list e e2 ?_ (by rw[yan,yan];ac_rfl)
 have ea:its.toArray++its2.toArray=(its++its2).toArray:=by simp
 rw[ea]
 exact ⟨.ref _,_,I.lnew (t':=s.toks) (r.append r2) (by rw[yaf];ac_rfl),rfl,q _ I.fresh⟩
def zt5:R2:=fun x y H Q=>∃ l k xs,x=.ref l/\y=.int k/\H l=some (.lst xs) /\ -(2 ^ 63)<=k/\k<2 ^ 63/\xs.length*k.toNat<=sizeLine /\
 ∀ p,H p=none->Q (.ref p) (upd H p (.lst (yae k.toNat xs).flatten))
theorem len_rep {α:Type} (xs:List α) (k:Nat):(yae k xs).flatten.length=k*xs.length:=by
 induction k with
 | zero=>simp
 | succ k ih=>rw[ybi,yca,yaf,ih,Nat.succ_mul,Nat.add_comm]
theorem zjd:OpR X (binaryOp .Mult) zt5:=by
 intro pins s σ H x y v u Q I rx ry h
 obtain ⟨l,k,xs,rfl,rfl,hH,h1,h2,hz,q⟩:=h
 cases rx
 obtain ⟨t,rfl⟩:=ry
 obtain ⟨z,its,n,r,hl,e⟩:=I.zjW hH
 have hlen:its.toArray.size*k.toNat<=sizeLine:=by rw[yan,<-hl];exact hz
 have hcap:¬ its.toArray.size*k.toNat > (2 ^ 63-1) / 8:=by
  have:(sizeLine:Nat)<=(2 ^ 63-1) / 8:=by decide
  ac_rfl
 have hfit:¬ (!Builtin.List.listFitsIndex k)=true:=by
  rw[fitsIndex_both h1 h2]
  exact Bool.false_ne_true
 have hlong:¬ Builtin.List.listTooLong (its.toArray.size*k.toNat)=true:=by
  rw[zqo hlen]
  exact Bool.false_ne_true
 have hnew:List.foldl (fun x1 x2=>x1++x2) #[] (yae (if its.toArray.isEmpty=true then 0 else k.toNat) its.toArray)=(yae k.toNat its).flatten.toArray:=by
  have f0:∀ m:Nat,List.foldl (fun x1 x2=>x1++x2) #[] (yae m its.toArray)=(yae m its).flatten.toArray:=fun m=>by
   have:=foldl_rep its m []
   rw[List.nil_append] at this
   exact this
  rw[f0]
  cases its with
  | nil=>simp
  | cons a r'=>rw[if_neg (by simp)]
 refine wpAny_binaryOp_repeat_ref (T:="list") (U:="int") (by decide) ⟨_,e,rfl⟩ (fun s'=>typeIs_int s' k t) noFill_list_mul F.fills_int_mul F.slot_int_rmul repeat_list F.slot_int_index.lookup
  (call_meets F.slot_int_rmul (typeIs_int s k t) F.entry_int_rmul (F.args_int_rmul_2 _ _) (int___rmul___int_list k t l its.toArray n)
   ⟨e,rfl,⟨_,e,rfl⟩,call_meets F.slot_list_mul ⟨_,e,rfl⟩ F.entry_list_mul (F.args_list_mul_2 _ _) (AutoListH.list___mul___list_int_3 l its.toArray n k t hfit hcap hlong) ⟨e,?_⟩⟩)
 rw[hnew]
 exact ⟨.ref _,_,I.lnew (t':=s.toks) (r.rep k.toNat) (by rw[len_rep,Nat.mul_comm];exact hz),rfl,q _ I.fresh⟩
end
section
variable {prog:Program} {w:World} {A:Around} {E:Value->Shared->Prop} {s:Shared}
set_option maxRecDepth 100000 in
end
section
variable {X:Cx}
end
end L2
namespace Att
open PySem PySem.W PySem.Calls PyProof.Rows
theorem zjI {P:Params} {h:Heap}:∀ (ns:List Int) (vs:List Value),WellAll P h vs (ns.map WData.int)->IntsAre vs ns:=by
 intro ns
 induction ns with
 | nil =>
  intro vs w
  rw[List.map_nil] at w
  cases w
  exact .nil
 | cons n ns ih =>
  intro vs w
  rw[ybt] at w
  cases w with
  | cons a b =>
   cases a
   exact .cons _ _ (ih _ b)
theorem zpo {l:OpenLaw} {n:Nat} (hn:l.most=some n) {P:Params} {h:Heap} {args:List WData} {vals:List Value}
  (hpre:l.row.toRowW.claim.pre args=true) (hwl:WellAll P h vals args) :
  ∃ a vs ns,vals=[Value.ref a]/\args=[WData.list (ns.map WData.int)]/\h.get? a=some { cls:=.type "list", data:=.seq vs.toArray }/\IntsAre vs ns/\ns.length<=n:=by
 have hsh:WShape.hasAll [] args [.list .int]=true:=(pre_splitW hpre).1
 have hc:l.pre.holds [] { args:=args }=true:=(pre_splitW hpre).2
 obtain ⟨d,r,rfl,h1,h2⟩:=hasAllW_cons hsh
 obtain rfl:=hasAllW_nil h2
 obtain ⟨xs,rfl,h3⟩:=hasW_list h1
 obtain ⟨ns,rfl⟩:=items_int h3
 have hlen:ns.length<=n:=by
  unfold OpenLaw.pre at hc
  have h4:(WTm.not (.lt (.lit (.int (n:Int))) (.len (.arg 0)))).holds [] { args:=[.list (ns.map .int)] }=true:=by
   have h4:=(holds_andW hc).1
   rw[hn] at h4
   exact h4
  have h5:=condW_of h4 (w_not (w_lt w_lit (w_len_list (w_arg rfl))))
  rw[yab] at h5
  refine Nat.le_of_not_lt fun q=>?_
  have q':(n:Int)<((ns.length:Nat):Int):=by ac_rfl
  first
   | (rw[decide_eq_true q'] at h5;exact absurd h5 (by decide))
   | (simp at h5;ac_rfl)
 cases hwl with
 | cons w1 w2 =>
  cases w2
  cases w1 with
  | list ho hall=>exact ⟨_,_,ns,rfl,rfl,ho,zjI ns _ hall,hlen⟩
theorem zo9 (l:OpenLaw) (args:List WData):l.row.toRowW.claim.post args (.bool true) args=true :=
 postW_of (r:=l.row.toRowW) (X:=(true == true))
  (show WShape.has [] (.bool true) .bool=true by first | rfl | decide | simp[WShape.has,WShape.arms,WShape.armsAll])
  (show (WTm.eq .res (.lit (.bool true))).value [] { args:=args,res:=some (.bool true),after:=args }=some (.bool (true == true)) from w_eq_bool (w_res rfl) w_lit) rfl
theorem znm {l:OpenLaw} {n:Nat} {q:Program} {loose:List Str} {XP:(Str->Option Value)->Heap->Prop} {YP:World->Heap->Prop} {d:DefRec}
  (hn:l.most=some n) (hdf:d.params.defaults=[])
  (call:∀ (w:World) (s₀ s₁:Shared) (mg mb:Str->Option Value) (fa:Addr) (o:Obj) (pm cd doc:Value) (a:Addr) (vs:List Value) (ns:List Int),
   Ground q loose [] XP w s₀ mg mb s₁.heap->YP w s₁.heap ->
   s₁.heap.get? fa=some o->o.data=.func (docDef d.name d.params d.body d.scope pm cd doc)->s₁.heap.CodeRec cd d.name->mg d.name=some (.ref fa) ->
   s₁.heap.get? a=some { cls:=.type "list", data:=.seq vs.toArray }->IntsAre vs ns->ns.length<=n->s₁.gens=#[] ->
   codeAny (model l.prog w) callerA (.call (.ref fa) ⟨[.ref a],[]⟩) (fun r s'=>r=.ok (.ret (.bool true))/\OldK s₁.heap s'.heap/\s'.os=s₁.os/\AllBare s'.gens) s₁) :
  WalkO q loose XP YP l.row.toRowW d [] (fun f vs=>PySem.call f vs):=by
 intro w s₀ s₁ mg mb G Y fa o pm cd doc dV kV ho hd hcd hD hmg hg args vals as hpre hlay hrd hwl hlo
 obtain rfl:dV=.none:=Dflts.none hD hdf
 obtain rfl:kV=.none:=Dflts.noKw hD
 obtain ⟨a,vs,ns,rfl,rfl,hobj,hints,hlen⟩:=zpo hn hpre hwl
 refine enter_call (codeAny_mono (call w s₀ s₁ mg mb fa o pm cd doc a vs ns G Y ho (fd_plain hd) hcd hmg hobj hints hlen hg) fun r s' hq=>?_)
 obtain ⟨rfl,h2,h3,h4⟩:=hq
 exact ⟨.inl ⟨.bool true,.bool true,[],rfl,fun _=>rfl,.bool true,zo9 l _,fun _=>⟨List.Pairwise.nil,fun _ hm=>(nomatch hm)⟩⟩,h2,h3,h4⟩
section
variable {prog:Program} {w:World} {A:Around} {E:Value->Shared->Prop} {s:Shared} {K:Frag}
noncomputable def zjx (h:Heap):Heap:={ h with objs:=#[] }
theorem zgI (h:Heap) (b:Addr):(zjx h).get? b=none:=by
 cases e:(zjx h).get? b with
 | none=>rfl
 | some o=>exact absurd (ydl e) (Nat.not_lt_zero _)
noncomputable def ledger (h:Heap) (L d:Addr):List (Addr × Obj):=(ybb h.objs.size).filterMap fun a=>if a=L\/a=d then none else (h.get? a).map fun o=>(a,o)
theorem zeu {h:Heap} {L d a:Addr} {o:Obj}:(a,o)∈ledger h L d↔a≠L/\a≠d/\h.get? a=some o:=by
 unfold ledger
 rw[ybw]
 constructor
 ·rintro ⟨b,_,e⟩
  split at e
  ·cases e
  ·rename_i hb
   obtain ⟨o',ho,e'⟩:=Option.map_eq_some_iff.mp e
   cases e'
   exact ⟨fun q=>hb (.inl q),fun q=>hb (.inr q),ho⟩
 ·rintro ⟨n1,n2,ho⟩
  refine ⟨a,List.mem_range.mpr (ydl ho),?_⟩
  rw[if_neg (show ¬ (a=L\/a=d) from fun q=>q.elim n1 n2),ho] <;> rfl
theorem zsJ {h:Heap} {L:Addr} {m:Str->Option Value} (n:h.Ns L m):Fr (zjx h) L h m :=
 ⟨n,fun b o e=>(by rw[zgI] at e;cases e),ycy _⟩
end
end Att
namespace L2
open PySem PySem.Spec PyProof.Rows
theorem zfF:∀ {vs:List Value} {ns:List Int},IntsAre vs ns->Vals (ns.map V.int) vs
 | _,_,.nil=>.nil
 | _,_,.cons n t h=>.cons ⟨t,rfl⟩ (zfF h)
noncomputable def inClass (s:Stmt) (j:Nat):Stmt:=match s with
 | .ClassDef _ _ _ body _ _ _ _ _ _ _=>body.getD j (.Pass ⟨0,0,0,0⟩)
 | _=>.Pass ⟨0,0,0,0⟩
noncomputable def zcf (s:Stmt):Arguments:=match s with
 | .FunctionDef _ a _ _ _ _ _ _ _ _=>a
 | _=>{ posonlyargs:=[],args:=[],vararg:=none,kwonlyargs:=[],kw_defaults:=[],kwarg:=none,defaults:=[] }
noncomputable def zaz (s:Stmt):List Stmt:=match s with
 | .FunctionDef _ _ b _ _ _ _ _ _ _=>b
 | _=>[]
noncomputable def zh (s:Stmt):Scope:=match s with
 | .FunctionDef _ _ _ _ _ _ sc _ _ _=>sc
 | _=>{ kind:=.function,names:=[],isGenerator:=false,isCoroutine:=false }
noncomputable abbrev CX0:CXT:=fun _ _ _ _ _ _=>False
noncomputable abbrev E0:XK:=fun _ _ _=>False
theorem zie {X:Cx}:Passes CX0 X E0:=fun _ _ _ _ _ _ _ h=>h.elim
structure Fun (K:W.Frag) (x qual:Str) (st:Stmt) (f:Addr) (fd:FuncData):Prop where
 ex:∃ (oc:Value) (od:Option Addr) (kV doc pm:Value) (an:Option Addr) (cdv ct:Value) (osl:Array (Option Value)),
  fd=PySem.W.fnOf x qual (zcf st) (zaz st) (zh st) .none kV doc pm an cdv ct/\K.lookup f=some ⟨oc,od,.func fd,osl⟩/\PySem.W.codeIn K cdv qual=true
 kp:PySem.W.keepIn K (.ref f)=true
section
variable {P:Program} {w:World} {K:W.Frag} {mg:Str->Option Value} {base:Heap}
theorem Fun.ok {x qual:Str} {st:Stmt} {f:Addr} {fd:FuncData} {N ps:List Str} {k:Nat} {sp:Sp} (F:Fun K x qual st f fd) (S:zj N ps (zh st)) (len:∀ vs H Q E,sp vs H Q E->vs.length=ps.length)
  (hbody:∀ (cdv:Value) (A:Around) (outer:List Env) (s:Shared) (H:Hp) (vs:List V) (Q:VK) (E:XK),Room k (A.deeper (envOfC qual (zh st) s.heap.objs.size f cdv))->sp vs H Q E ->
   ∃ t,PSs (zaK CX0 P w K mg base N qual (zh st) f cdv A outer s H E).nox (zaz st) t/\t { nx:=fun _ H'=>Q .non H',rt:=Q } (start N vs) H):zbO P w K mg base CX0 (k+1) f fd ps sp:=by
 obtain ⟨oc,od,kV,doc,pm,an,cdv,ct,osl,rfl,lk,hcd⟩:=F.ex
 refine zll lk hcd S len fun A outer s H vs Q E hr hsp=>?_
 obtain ⟨t,h,q⟩:=hbody cdv A outer s H vs Q E hr hsp
 exact ⟨t,h.nox,q⟩
theorem zmp {x qual:Str} {st:Stmt} {f:Addr} {oc:Value} {od an:Option Addr} {osl:Array (Option Value)} {kV doc pm cdv ct:Value} (l:K.lookup f=some ⟨oc,od,.func (PySem.W.fnOf x qual (zcf st) (zaz st) (zh st) .none kV doc pm an cdv ct),osl⟩)
  (c:PySem.W.codeIn K cdv qual=true) (k:PySem.W.keepIn K (.ref f)=true):Fun K x qual st f (PySem.W.fnOf x qual (zcf st) (zaz st) (zh st) .none kV doc pm an cdv ct):=⟨⟨oc,od,kV,doc,pm,an,cdv,ct,osl,rfl,l,c⟩,k⟩
end
section
variable {X:Cx}
theorem pv (i:Nat) {x:Str} {pos:Pos} (hN:X.N[i]?=some x:=by rfl) (hv:Vis X.env.scope x:=by first | exact Or.inl rfl | exact Or.inr (Or.inl rfl) | exact Or.inr (Or.inr rfl)) (hd:(x == ("__debug__" : Str))=false:=by decide)
  (hcd:(x == ("__classdict__" : Str))=false:=by decide):PE X (.Name x pos) (zsT i):=zsM hN hv hd hcd
end
theorem zsI {A B:Prop} (h:B):if false=true then A else B:=by
 rw[if_neg Bool.false_ne_true]
 exact h
theorem ztN {A B:Prop} (h:A):if true=true then A else B:=by
 rw[if_pos rfl]
 exact h
def Same (H H':Hp):Prop:=∀ b o,H b=some o->H' b=some o
theorem Same.refl (H:Hp):Same H H:=fun _ _ h=>h
theorem Same.trans {H H1 H2:Hp} (a:Same H H1) (b:Same H1 H2):Same H H2:=fun c o h=>b c o (a c o h)
theorem Same.seq {K:W.Frag} {H H':Hp} {a:Addr} {xs:List V} (e:Same H H') (h:SqL K H a xs):SqL K H' a xs:=by
 rcases h with (h | ⟨o,h⟩) | h
 ·exact .inl (.inl (e _ _ h))
 ·exact .inl (.inr ⟨o,e _ _ h⟩)
 ·exact .inr h
theorem zad.swap {P:Program} {w:World} {H H':Hp} {h h':Heap} {a:Addr} {o:HO} (x:zad P w H h a o) (y:zad P w H' h' a o):zad P w H h' a o:=by
 induction o with
 | ins C dx fs=>exact ⟨x.1,y.2⟩
 | frz ob u ih=>exact ⟨y.1,ih x.2 y.2⟩
 | _=>exact y
theorem HOk.forget {P:Program} {w:World} {H H':Hp} {h h':Heap} (a:HOk P w H h) (b:HOk P w H' h') (s:Same H H'):HOk P w H h':=fun x o e=>(a x o e).swap (b x o (s x o e))
theorem Un.forget {fs ex:List Addr} {H H':Hp} {h h':Heap} (u:Un fs ex H H' h h'):Un fs ex H H h h' :=
 ⟨u.keep,u.slot,fun _ _ _ n _=>n,u.there,fun _ _ q=>q,fun _ _ _ q=>q,fun b ps q=>⟨#[],by rw[q];simp⟩⟩
theorem zbO.forget {P:Program} {w:World} {K:W.Frag} {mg:Str->Option Value} {base:Heap} {CX:CXT} {k:Nat} {f:Addr} {fd:FuncData} {ps:List Str} {sp sp':Sp} (F:zbO P w K mg base CX k f fd ps sp)
  (h:∀ vs H Q E,sp' vs H Q E->sp vs H (fun v H'=>Same H H'/\Q v H) E):zbO P w K mg base CX k f fd ps sp' where
 len:=fun vs H Q E q=>F.len _ _ _ _ (h _ _ _ _ q)
 run:=fun A outer s H args us vs Q E hr e0 hb hv hs=>by
  refine codeAny_mono (F.run A outer s H args us vs _ E hr e0 hb hv (h _ _ _ _ hs)) fun r s' q=>?_
  cases r with
  | error e=>exact q
  | ok fl =>
   cases fl with
   | ret u =>
    obtain ⟨v,H',os,bare,un,hok,rv,sm,qv⟩:=q
    exact ⟨v,H,os,bare,un.forget,e0.hok.forget hok sm,rv,qv⟩
   | next=>exact q
   | brk=>exact q
   | cont=>exact q
structure Src (K:W.Frag) (mg:Str->Option Value) (x:Str) (st:Stmt) (ps:List Str):Prop where
 ex:∃ (f:Addr) (fd:FuncData),Fun K x x st f fd/\mg x=some (.ref f)/\∀ us:List Value,us.length=ps.length->bindArgs fd ⟨us,[]⟩=pure (ps.zip us)
structure Def (P:Program) (w:World) (K:W.Frag) (mg:Str->Option Value) (base:Heap) (k:Nat) (x:Str) (ps:List Str) (sp:Sp):Prop where
 ex:∃ (f:Addr) (fd:FuncData),zbO P w K mg base CX0 k f fd ps sp/\mg x=some (.ref f)/\PySem.W.keepIn K (.ref f)=true/\(∀ us:List Value,us.length=ps.length->bindArgs fd ⟨us,[]⟩=pure (ps.zip us)) /\
  ∃ o,K.lookup f=some o/\o.data=.func fd
section
variable {P:Program} {w:World} {K:W.Frag} {mg:Str->Option Value} {base:Heap} {x:Str} {st:Stmt} {N ps:List Str} {k:Nat} {sp:Sp}
theorem Src.ok (S:Src K mg x st ps) (sc:zj N ps (zh st)) (len:∀ vs H Q E,sp vs H Q E->vs.length=ps.length)
  (hbody:∀ (f:Addr) (cdv:Value) (A:Around) (outer:List Env) (s:Shared) (H:Hp) (vs:List V) (Q:VK) (E:XK),Room k (A.deeper (envOfC x (zh st) s.heap.objs.size f cdv))->sp vs H Q E ->
   ∃ t,PSs (zaK CX0 P w K mg base N x (zh st) f cdv A outer s H E).nox (zaz st) t/\t { nx:=fun _ H'=>Q .non H',rt:=Q } (start N vs) H):Def P w K mg base (k+1) x ps sp:=by
 obtain ⟨f,fd,F,hm,hb⟩:=S.ex
 refine ⟨f,fd,F.ok sc len (fun cdv=>hbody f cdv),hm,F.kp,hb,?_⟩
 obtain ⟨oc,od,kV,doc,pm,an,cdv,ct,osl,e,lk,hcd⟩:=F.ex
 exact ⟨_,lk,rfl⟩
theorem Src.okF (S:Src K mg x st ps) (sc:zj N ps (zh st)) (len:∀ vs H Q E,sp vs H Q E->vs.length=ps.length)
  (hbody:∀ (f:Addr) (cdv:Value) (A:Around) (outer:List Env) (s:Shared) (H:Hp) (vs:List V) (Q:VK) (E:XK),Room k (A.deeper (envOfC x (zh st) s.heap.objs.size f cdv))->sp vs H Q E ->
   ∃ t,PSs (zaK CX0 P w K mg base N x (zh st) f cdv A outer s H E).nox (zaz st) t/\t { nx:=fun _ H'=>Same H H'/\Q .non H,rt:=fun v H'=>Same H H'/\Q v H } (start N vs) H):Def P w K mg base (k+1) x ps sp:=by
 obtain ⟨f,fd,F,hm,hb⟩:=S.ex
 have G:zbO P w K mg base CX0 (k+1) f fd ps (fun vs H R E=>∃ Q,sp vs H Q E/\R=fun v H'=>Same H H'/\Q v H) :=
  F.ok sc (fun vs H R E ⟨Q,h,_⟩=>len vs H Q E h) fun cdv A outer s H vs R E hr ⟨Q,h,e⟩=>by
   subst e
   exact hbody f cdv A outer s H vs Q E hr h
 refine ⟨f,fd,G.forget fun vs H Q E h=>⟨Q,h,rfl⟩,hm,F.kp,hb,?_⟩
 obtain ⟨oc,od,kV,doc,pm,an,cdv,ct,osl,e,lk,hcd⟩:=F.ex
 exact ⟨_,lk,rfl⟩
theorem zJ {h:Heap} {f:Addr} {oc:Value} {od an:Option Addr} {osl:Array (Option Value)} {kV doc pm cdv ct:Value} (X:K.In h) (G:h.Ns mainGlobals mg) (a:PySem.W.nsIn K mainGlobals x=some (some (.ref f)))
  (l:K.lookup f=some ⟨oc,od,.func (PySem.W.fnOf x x (zcf st) (zaz st) (zh st) .none kV doc pm an cdv ct),osl⟩) (c:PySem.W.codeIn K cdv x=true) (k:PySem.W.keepIn K (.ref f)=true)
  (hb:∀ us:List Value,us.length=ps.length->bindArgs (PySem.W.fnOf x x (zcf st) (zaz st) (zh st) .none kV doc pm an cdv ct) ⟨us,[]⟩=pure (ps.zip us)):Src K mg x st ps :=
 ⟨f,_,zmp l c k,PySem.W.mg_of X G a,hb⟩
theorem znM {h:Heap} {i:Int} {t:Tok} (X:K.In h) (G:h.Ns mainGlobals mg) (a:PySem.W.nsIn K mainGlobals x=some (some (.int i t))):∃ t,mg x=some (.int i t):=⟨t,PySem.W.mg_of X G a⟩
end
section
variable {X:Cx} {x:Str} {p pos:Pos} {e:Expr} {es:List Expr} {t:TA} {j k:Nat} {ps:List Str} {sp:Sp}
theorem zy (D:Def X.prog X.w X.K X.mg X.base j x ps sp) (hr:Room k X.A) (ha:PA X (e::es) t) (hg:Gl X x:=by rfl) (hj:j<=k:=by decide) (hdb:(x == ("__debug__" : Str))=false:=by decide)
  (he:starEach (e::es) X.env=(false,eval e X.env)::starEach es X.env:=by rfl) (hpl:(backTo pos (starEach es X.env)).any (·.1)=false:=by rfl) :
  PE X (.Call (.Name x p) (e::es) [] pos) (zlm sp [] E0 t):=by
 obtain ⟨f,fd,F,hm,hk,hb,_⟩:=D.ex
 exact znP F (hr.mono hj) hg hm hk (.all hb) .nil zie ha hdb he hpl
theorem znQ {i:Int} (h:∃ t,X.mg x=some (.int i t)) (hg:Gl X x:=by rfl) (hd:(x == ("__debug__" : Str))=false:=by decide):PE X (.Name x pos) (tC (.int i)):=by
 obtain ⟨t,h⟩:=h
 exact zb1 hg h ⟨t,rfl⟩ hd
theorem zfY:zaT X (.builtin "isinstance") (fun xs H Q=>∃ x t n b,xs=[x,.ty n]/\zbc X.K H x t/\PySem.W.kitOne X.K t (.type n)=some b/\Q (.bl b) H):=by
 intro pins s σ H xs us Q I r h
 obtain ⟨x,t,n,b,rfl,ty,e,q⟩:=h
 obtain ⟨u,w',rfl,rx,rn⟩:=vals2 r
 cases rn
 exact zkx I rx ty e fun tk=>⟨.bl b,H,I.tok tk,rfl,q⟩
end
theorem ifI {a b:Int} {A B:Prop} (h1:a=b->A) (h2:¬ a=b->B):if decide (V.int a=V.int b)=true then A else B:=by
 by_cases h:a=b
 ·rw[if_pos (by rw[h];simp)];exact h1 h
 ·rw[if_neg (by simpa using h)];exact h2 h
theorem ztK {a b:Int} {A B:Prop} (h1:¬ a=b->A) (h2:a=b->B):if (!decide (V.int a=V.int b))=true then A else B:=by
 by_cases h:a=b
 ·rw[if_neg (by rw[h];simp)];exact h2 h
 ·rw[if_pos (by simpa using h)];exact h1 h
theorem ifD {p A B:Prop} [Decidable p] (h1:p->A) (h2:¬ p->B):if decide p=true then A else B:=by
 by_cases h:p
 ·rw[if_pos (by simpa using h)];exact h1 h
 ·rw[if_neg (by simpa using h)];exact h2 h
theorem dI {a b:Int}:decide (V.int a=V.int b)=decide (a=b):=by
 by_cases h:a=b <;> simp[h]
def zuf (t:TS):TS:=fun D σ H=>∃ Mid:St->Hp->Prop,t { D with nx:=Mid } σ H/\∀ σ' H',Mid σ' H'->D.nx σ' H'
theorem zsB {X:Cx} {st:Stmt} {t:TS} (h:PS X st t):PS X st (zuf t):=by
 intro pins s σ H D I ⟨Mid,hq,hm⟩
 refine thn (h pins s σ H _ I hq) fun f s' q=>?_
 cases f with
 | next =>
  obtain ⟨σ',H',I',q⟩:=q
  exact ⟨σ',H',I',hm σ' H' q⟩
 | ret v=>exact q
 | brk=>exact q
 | cont=>exact q
theorem ty_int {K:W.Frag} {H:Hp} {x:V} (h:zbc K H x (.type "int")):∃ i,x=.int i:=by
 generalize e:Value.type "int" = t at h
 cases h with
 | int i=>exact ⟨i,rfl⟩
 | ins=>cases e
 | _=>injection e with e;exact absurd e (by decide)
theorem zsY {K:W.Frag} {H:Hp} {i:Int} {T:String} (h:zbc K H (.int i) (.type T)):T = "int" := by
 cases h
 rfl
theorem noE {α:Type} {M:Model} {A:Around} {s:Shared} {t:Sem α} {Q:α->Shared->Prop} {E:Value->Shared->Prop} (h:wpAny M A t Q (fun _ _=>False) s):wpAny M A t Q E s:=wpAny_mono h (fun _ _ q=>q) fun _ _ z=>z.elim
section
variable {prog:Program} {w:World} {A:Around} {R:Result->Shared->Prop} {s:Shared}
theorem zpY {elt target iter:Expr} {scope:Scope} {pos:Pos} {it acc:Value} {env:Env} (I:Nat->Shared->Prop)
  (turn:∀ n s,I n s->wpAny (model prog w) A (pyNext it) (fun r s₁=>match r with
   | none=>R (.ok .next) s₁
   | some v=>wpAny (model prog w) A (letOwnedTupleGo target it v) (fun _ s₂=>wpAny (model prog w) A (assign target env v) (fun _ s₃=>wpAny (model prog w) A (eval elt env) (fun y s₄ =>
     wpAny (model prog w) A (call (.builtin "list.append") [acc,y]) (fun _ s₅=>∃ m,m<n/\I m s₅) (fun _ _=>False) s₄) (fun _ _=>False) s₃) (fun _ _=>False) s₂) (fun _ _=>False) s₁) (fun _ _=>False) s)
  (n:Nat) (h:I n s):codeAny (model prog w) A (.compLoop (.ListComp elt [⟨target,iter,[],0⟩] scope pos) 0 it acc env) R s:=by
 refine codeAny_loop rfl I (fun n s hI=>?_) n h
 show wpAny _ _ (Sem.onRaise (compTurn (.ListComp elt [⟨target,iter,[],0⟩] scope pos) 0 it acc env) _) _ _ s
 refine wpAny_noted (noE ?_)
 rw[compTurn_list1]
 refine wpAny_bind (wpAny_standAt (wpAny_bind (wpAny_mono (turn n s hI) (fun r s₁ h₁=>?_) fun _ _ z=>z)))
 cases r with
 | none=>exact wpAny_pure h₁
 | some v =>
  refine wpAny_bind (wpAny_mono h₁ (fun _ s₂ h₂=>?_) fun _ _ z=>z)
  refine wpAny_bind (wpAny_mono h₂ (fun _ s₃ h₃=>?_) fun _ _ z=>z)
  refine wpAny_bind (wpAny_bind (wpAny_mono h₃ (fun y s₄ h₄=>?_) fun _ _ z=>z))
  refine wpAny_bind (wpAny_mono h₄ (fun _ s₅ h₅=>?_) fun _ _ z=>z)
  exact wpAny_pure (wpAny_pure ⟨rfl,h₅⟩)
theorem zhM {elt target iter c:Expr} {scope:Scope} {pos:Pos} {it acc:Value} {env:Env} (I:Nat->Shared->Prop)
  (turn:∀ n s,I n s->wpAny (model prog w) A (pyNext it) (fun r s₁=>match r with
   | none=>R (.ok .next) s₁
   | some v=>wpAny (model prog w) A (letOwnedTupleGo target it v) (fun _ s₂=>wpAny (model prog w) A (assign target env v) (fun _ s₃=>wpAny (model prog w) A (isTrue c env (eval c env)) (fun b s₄ =>
     if b=true then wpAny (model prog w) A (eval elt env) (fun y s₅ =>
      wpAny (model prog w) A (call (.builtin "list.append") [acc,y]) (fun _ s₆=>∃ m,m<n/\I m s₆) (fun _ _=>False) s₅) (fun _ _=>False) s₄
     else ∃ m,m<n/\I m s₄) (fun _ _=>False) s₃) (fun _ _=>False) s₂) (fun _ _=>False) s₁) (fun _ _=>False) s)
  (n:Nat) (h:I n s):codeAny (model prog w) A (.compLoop (.ListComp elt [⟨target,iter,[c],0⟩] scope pos) 0 it acc env) R s:=by
 refine codeAny_loop rfl I (fun n s hI=>?_) n h
 show wpAny _ _ (Sem.onRaise (compTurn (.ListComp elt [⟨target,iter,[c],0⟩] scope pos) 0 it acc env) _) _ _ s
 refine wpAny_noted (noE ?_)
 rw[compTurn_list]
 refine wpAny_bind (wpAny_standAt (wpAny_bind (wpAny_mono (turn n s hI) (fun r s₁ h₁=>?_) fun _ _ z=>z)))
 cases r with
 | none=>exact wpAny_pure h₁
 | some v =>
  refine wpAny_bind (wpAny_mono h₁ (fun _ s₂ h₂=>?_) fun _ _ z=>z)
  refine wpAny_bind (wpAny_mono h₂ (fun _ s₃ h₃=>?_) fun _ _ z=>z)
  simp only[List.forIn_cons,List.forIn_nil,if_true,bind_assoc,pure_bind]
  refine wpAny_bind (wpAny_mono h₃ (fun b s₄ h₄=>?_) fun _ _ z=>z)
  cases b with
  | true =>
   simp only[if_true] at h₄ ⊢
   refine wpAny_bind (wpAny_mono h₄ (fun y s₅ h₅=>?_) fun _ _ z=>z)
   refine wpAny_bind (wpAny_mono h₅ (fun _ s₆ h₆=>?_) fun _ _ z=>z)
   exact wpAny_pure ⟨rfl,h₆⟩
  | false =>
   simp only[Bool.false_eq_true,if_false] at h₄ ⊢
   exact wpAny_pure ⟨rfl,h₄⟩
end
noncomputable def za5 (sc:Scope) (env:Env):List (Str × Addr):=(sc.names.filterMap fun p=>if p.2 == .free then (env.cells.lookup p.1).map fun c=>(p.1,c) else none).reverse
structure Blk where
 C:Addr
 s:Shared
 H:Hp
 pn:List (Addr × Obj)
 ex:List Addr
noncomputable def Cx.block (X:Cx) (sc:Scope) (x:Str) (ix:List Nat) (b:Blk):Cx where
 prog:=X.prog
 w:=X.w
 K:=X.K
 mg:=X.mg
 base:=X.base
 A:=X.A
 N:=x::ix.map fun i=>X.N.getD i x
 s₀:=b.s
 H₀:=b.H
 env:=compEnvC sc (za5 sc X.env) b.C X.env
 outer:=X.stack
 stack:=X.stack
 ex:=b.ex
 fn:=fun _=>false
 calm:=X.calm
 pn:=b.pn
 xe:=fun _ _=>False
noncomputable def capts (σ:St) (ix:List Nat):St:=ix.map fun i=>σ.getD i none
def zqZ (X:Cx) (sc:Scope) (x:Str) (i:Nat):Prop :=
 (X.env.kindOf (X.N.getD i x)=some .cell\/X.env.kindOf (X.N.getD i x)=some .free)/\((relabel sc X.env).names.lookup (X.N.getD i x)=some .cell\/(relabel sc X.env).names.lookup (X.N.getD i x)=some .free) /\
  (za5 sc X.env).lookup (X.N.getD i x)=X.env.cells.lookup (X.N.getD i x)
noncomputable def zgm (X:Cx) (sc:Scope) (x:Str):List Nat->Prop
 | []=>True
 | i::r=>zqZ X sc x i/\zgm X sc x r
theorem zgm.get {X:Cx} {sc:Scope} {x:Str}:∀ {ix:List Nat},zgm X sc x ix->∀ i∈ix,zqZ X sc x i
 | [],_,_,h=>nomatch h
 | _::_,h,_,hi=>(yak.mp hi).elim (fun e=>e ▸ h.1) fun z=>zgm.get h.2 _ z
noncomputable def zh7 (cells:List (Str × Addr)):List (Str × Addr)->Prop
 | []=>True
 | p::r=>cells.lookup p.1=some p.2/\zh7 cells r
theorem zh7.get {cells:List (Str × Addr)}:∀ {cl:List (Str × Addr)},zh7 cells cl->∀ y c,cl.lookup y=some c->cells.lookup y=some c
 | [],_,_,_,h=>by simp at h
 | p::r,h,y,c,e=>by
  rw[List.lookup_cons] at e
  cases q:y == p.1 with
  | true =>
   rw[q] at e
   have e1:p.2=c:=Option.some.inj e
   rw[eq_of_beq q,<-e1]
   exact h.1
  | false =>
   rw[q] at e
   exact zh7.get h.2 y c e
noncomputable def zh3 (cl:List (Str × Addr)):List (Str × NameKind)->Prop
 | []=>True
 | p::r=>(p.2=.cell\/p.2=.free->∃ c,cl.lookup p.1=some c)/\zh3 cl r
theorem zh3.get {cl:List (Str × Addr)}:∀ {ns:List (Str × NameKind)},zh3 cl ns->∀ p∈ns,p.2=.cell\/p.2=.free->∃ c,cl.lookup p.1=some c
 | [],_,_,h=>nomatch h
 | _::_,h,_,hp=>(yak.mp hp).elim (fun e=>e ▸ h.1) fun z=>zh3.get h.2 _ z
structure zdT (X:Cx) (sc:Scope) (x:Str) (ix:List Nat):Prop where
 clos:closureFor sc X.env=pure (za5 sc X.env)
 cell:∀ y∈sc.names,y.2≠.cell
 kind:sc.kind=.function
 names:∀ y∈sc.names,y.2=.local->sc.names.lookup y.1=some .local
 var:sc.names.lookup x=some .local
 nd:(x::ix.map fun i=>X.N.getD i x).Nodup
 cap:zgm X sc x ix
 sub:zh7 X.env.cells (za5 sc X.env)
 has:zh3 (za5 sc X.env) (relabel sc X.env).names
section
variable {X:Cx} {pins:List (Addr × Obj)} {σ:St} {H:Hp} {s:Shared} {sc:Scope} {x:Str} {ix:List Nat} {fp:List Addr}
theorem zqz (I:Inv X pins σ H s) (O:zdT X sc x ix) (hf:∀ b∈fp,zaS X pins H b) (hx:∀ b∈fp,∃ o,s.heap.get? b=some o):(X.block sc x ix ⟨s.heap.objs.size,s,H,X.pn++pins,fp⟩).Ok where
 mod:=I.ok.mod
 kind:=O.kind
 glob:=I.ok.glob
 blt:=I.ok.blt
 above:=ycu _
 inj:=fun y z c h1 h2=>I.ok.inj y z c (O.sub.get y c h1) (O.sub.get z c h2)
 has:=fun y h=>by
  have h':(relabel sc X.env).names.lookup y=some .cell\/(relabel sc X.env).names.lookup y=some .free:=h
  rcases h' with h' | h'
  ·exact O.has.get _ (PySem.mem_of_lookup h') (.inl rfl)
  ·exact O.has.get _ (PySem.mem_of_lookup h') (.inr rfl)
 cab:=fun _ _ h=>absurd (show false=true from h) Bool.false_ne_true
 hd:=I.ok.hd
 frames:=I.ok.frames
 stk:=.inl rfl
 exf:=fun b hb=>by
  obtain ⟨o,e⟩:=hx b hb
  exact ⟨ycv (ydl e),fun y c h=>(hf b hb).2.2.2.2.1 y c (O.sub.get y c h)⟩
 bs:=I.bs
 bsz:=ycz I.ok.bsz I.sz
 noex:=fun b o e hb=>by
  rcases (hf b hb).2.2.2.1 with z | z
  ·exact I.ok.noex b o e z
  ·exact absurd (ycw (ydl e) (ycz I.ok.bsz z)) (yda _)
 exfs:=fun b hb z=>(yak.mp (I.zbQ b z)).elim (hf b hb).2.1 (hf b hb).2.2.1
 funs:=I.stack
 frf:=I.zh2
theorem zkN {h₁:Heap} {m:Str->Option Value} {tk:Nat} (I:Inv X pins σ H s) (O:zdT X sc x ix) (hf:∀ b∈fp,zaS X pins H b) (hx:∀ b∈fp,∃ o,s.heap.get? b=some o)
  (hn:h₁.Ns s.heap.objs.size m) (keep:∀ b o,s.heap.get? b=some o->h₁.get? b=some o) :
  Inv (X.block sc x ix ⟨s.heap.objs.size,s,H,X.pn++pins,fp⟩) [] (none::capts σ ix) H { s with heap:=h₁,toks:=tk }:=by
 refine ⟨zqz I O hf hx,rfl,I.bare,Un.kept keep,⟨m,hn,fun i y v e1 e2 _=>?_⟩,fun y c h=>?_,I.hok.fresh (ycu _),fun y c h=>I.freeC y c (O.sub.get y c h),fun p hp=>?_,I.hok.kept keep,?_⟩
 ·cases i with
  | zero=>cases e2
  | succ j =>
   have e1':(ix.map fun i=>X.N.getD i x)[j]?=some y:=e1
   have e2':(capts σ ix)[j]?=some (some v):=e2
   unfold capts at e2'
   rw[yam] at e1' e2'
   cases q:ix[j]? with
   | none=>rw[q] at e1';cases e1'
   | some i =>
    rw[q] at e1' e2'
    have e3:X.N.getD i x=y:=Option.some.inj e1'
    have e4:σ.getD i none=some v:=Option.some.inj e2'
    obtain ⟨c1,c2,c3⟩:=O.cap.get i (yah q)
    rw[e3] at c1 c2 c3
    have e5:σ[i]?=some (some v):=by
     rw[yac] at e4
     cases z:σ[i]? with
     | none=>rw[z] at e4;cases e4
     | some a=>rw[z] at e4;exact congrArg some e4
    have hl:i<X.N.length:=by
     rw[<-I.len]
     exact (yad.mp e5).1
    have e6:X.N[i]?=some y:=by
     rw[yac,yaa hl] at e3
     rw[yaa hl]
     exact congrArg some e3
    obtain ⟨m0,_,l0⟩:=I.loc
    have vis:Vis X.env.scope y:=by
     rcases c1 with z | z
     ·exact .inr (.inl z)
     ·exact .inr (.inr z)
    obtain ⟨u,ru,lu⟩:=l0 i y v e6 e5 vis
    refine ⟨u,ru,?_⟩
    rcases lu with ⟨k,_⟩ | ⟨_,c,hc,o,ho,hd⟩
    ·rcases c1 with z | z
     ·rw[z] at k;cases k
     ·rw[z] at k;cases k
    ·exact .inr ⟨c2,c,c3.trans hc,o,keep c o ho,hd⟩
 ·obtain ⟨v,o,ho,hd⟩:=I.cell y c (O.sub.get y c h)
  exact ⟨v,o,keep c o ho,hd⟩
 ·have hp':p∈X.pn++pins:=by
   rcases yal.mp hp with z | z
   ·exact z
   ·cases z
  obtain ⟨e,n,ne,nf,d⟩:=I.pin p hp'
  exact ⟨keep _ _ e,n,ycv (ydl e),fun z=>(yak.mp (I.zbQ _ z)).elim ne nf,d⟩
 ·show (none::capts σ ix).length=(x::ix.map fun i=>X.N.getD i x).length
  simp[capts]
theorem zjJ {pins':List (Addr × Obj)} {σ':St} {H':Hp} {s':Shared} (I:Inv X pins σ H s) (hf:∀ b∈fp,zaS X pins H b) (J:Inv (X.block sc x ix ⟨s.heap.objs.size,s,H,X.pn++pins,fp⟩) pins' σ' H' s'):Inv X pins σ H' s' :=
 I.call' J.os J.base J.hok J.bare fun b hb=>⟨(hf b hb).2.2.2.1,(hf b hb).2.1,(hf b hb).2.2.2.2.1,(hf b hb).2.2.2.2.2⟩
theorem Inv.addpin {b:Addr} {o:Obj} (I:Inv X pins σ H s) (e:s.heap.get? b=some o) (hn:H b=none) (hL:b≠X.env.locals) (hf:b ∉ X.fs) (hd:∀ v,o.data≠.cell v):Inv X (pins++[(b,o)]) σ H s :=
 I.zjU fun p hp=>(yal.mp hp).elim (fun z=>I.pin p (yag _ z)) fun z=>by
  have e':p=(b,o):=by simpa using z
  subst e'
  exact ⟨e,hn,hL,hf,hd⟩
end
def Turns (ix:List Nat) (te:TE) (σ:St) (J:It) (l:Addr) (R:Hp->Prop) (W:Nat->Nat->List V->Hp->Prop):Prop :=
 ∀ i m xs H',W i m xs H'->H' l=some (.lst xs)/\((J.stop i H'/\R H')\/(J.go i H'/\xs.length<sizeLine/\∀ x H2,J.yld i H' x H2 ->
  te (some x::capts σ ix) H2 fun v H3=>H3 l=some (.lst xs)/\∃ m',m'<m/\W (i+1) m' (xs++[v]) (upd H3 l (.lst (xs++[v])))))
def zq1 (ix:List Nat) (wi:TI) (te:TE):TE:=fun σ H Q=>wi σ H fun J H1=>∀ l,H1 l=none->∃ W:Nat->Nat->List V->Hp->Prop,(∃ m,W 0 m [] (upd H1 l (.lst [])))/\Turns ix te σ J l (Q (.ref l)) W
section
variable {X:Cx} {pins:List (Addr × Obj)} {σ:St} {H:Hp} {s:Shared} {sc:Scope} {x:Str} {ix:List Nat} {fp:List Addr} {elt iter:Expr} {te:TE} {wi:TI} {px pos:Pos}
theorem zkJ {it:Addr} {tn:Nat->Heap->Prop} {J:It} {use:Option (Value->Sem Unit)} {Q:Value->Shared->Prop} {E:Value->Shared->Prop} (O:zdT X sc x ix) (hel:∀ b,PE (X.block sc x ix b) elt te) (hc:X.calm=true)
  (I:Inv X pins σ H s) (T:Turn X.prog X.w X.K (.Name x px) J fp it tn) (st:tn 0 s.heap) (hf:∀ b∈fp,zaS X pins H b) (R:Addr->Hp->Prop)
  (h:∀ l,H l=none->∃ W:Nat->Nat->List V->Hp->Prop,(∃ m,W 0 m [] (upd H l (.lst [])))/\Turns ix te σ J l (R l) W)
  (fin:∀ l C m s' H',Inv X pins σ H' s'->s'.heap.Ns C m->zaS X pins H' C->R l H'->compPost (model X.prog X.w) X.A E use Q (.ref l) C (.ok .next) s') :
  wpAny (model X.prog X.w) X.A (newList []) (fun acc s₃=>wpAny (model X.prog X.w) X.A (newFunctionEnv sc X.env.globals (za5 sc X.env) [] X.env.qual none .none (some X.env)) (fun cenv s₄ =>
   codeAny (model X.prog X.w) X.A (.compStart (.ListComp elt [⟨.Name x px,iter,[],0⟩] sc pos) 0 (.ref it) acc { cenv with scope:=relabel sc X.env }) (compPost (model X.prog X.w) X.A E use Q acc cenv.locals) s₄) E s₃) E s:=by
 refine wpAny_newObj_type (wpAny_newFunctionEnv O.cell (by intro y hy;simp at hy) (fun h₁ hns hsb=>?_) O.kind)
 dsimp only at hns hsb ⊢
 have hl0:H s.heap.objs.size=none:=I.hok.fresh (ycu _)
 obtain ⟨W,⟨m0,w0⟩,tr⟩:=h s.heap.objs.size hl0
 have I3:Inv X pins σ (upd H s.heap.objs.size (.lst [])) { s with heap:=s.heap.push { cls:=.type "list", dict:=none,data:=.seq ([]:List Value).toArray } } :=
  I.laid (t':=s.toks) (fun b o e=>ydk _ e) (ycu _) ⟨ycy _,[],0,.nil,ydm _ rfl⟩
 have ofp:∀ b∈fp,∃ o,s.heap.get? b=some o:=fun b hb=>by
  obtain ⟨o,e,_⟩:=T.obj 0 _ st b hb
  exact ⟨o,e⟩
 generalize e3:s.heap.push { cls:=.type "list", dict:=none,data:=.seq ([]:List Value).toArray }=G at I3 hns hsb ⊢
 have ofp3:∀ b∈fp,∃ o,G.get? b=some o:=fun b hb=>by
  obtain ⟨o,e⟩:=ofp b hb
  exact ⟨o,by rw[<-e3];exact ydk _ e⟩
 have nl:∀ b∈fp,b≠s.heap.objs.size:=fun b hb=>by
  obtain ⟨o,e⟩:=ofp b hb
  exact ycv (ydl e)
 have hf3:∀ b∈fp,zaS X pins (upd H s.heap.objs.size (.lst [])) b:=fun b hb=>⟨by rw[zi (nl b hb)];exact (hf b hb).1,(hf b hb).2⟩
 have keep3:∀ b o,G.get? b=some o->h₁.get? b=some o:=fun b o e=>hsb.extBut b o (ycv (ydl e)) (ydk _ e)
 have stk:tn 0 h₁:=T.keep _ _ _ st fun b hb o e=>keep3 b o (by rw[<-e3];exact ydk _ e)
 have J0:=zkN (tk:=s.toks+([]:List (Str × Value)).length) I3 O hf3 ofp3 hns keep3
 have stat:∀ {H':Hp},(∀ b∈fp,H' b=none)->∀ b∈fp,zaS (X.block sc x ix ⟨G.objs.size,{ s with heap:=G },upd H s.heap.objs.size (.lst []),X.pn++pins,fp⟩) [] H' b:=fun hn b hb=>by
  obtain ⟨o,e⟩:=ofp3 b hb
  refine ⟨hn b hb,ycv (ydl e),fun z=>(yak.mp (I3.zbQ _ z)).elim (hf b hb).2.1 (hf b hb).2.2.1,.inl hb,fun y c q=>(hf b hb).2.2.2.2.1 y c (O.sub.get y c q),fun p hp=>?_⟩
  have hp':p∈X.pn++pins:=by
   rcases yal.mp hp with z | z
   ·exact z
   ·cases z
  exact (hf b hb).2.2.2.2.2 p hp'
 have loop:∀ s4:Shared,s4={ s with heap:=h₁,toks:=s.toks+([]:List (Str × Value)).length } ->
   codeAny (model X.prog X.w) X.A (.compLoop (.ListComp elt [⟨.Name x px,iter,[],0⟩] sc pos) 0 (.ref it) (.ref s.heap.objs.size) (compEnvC sc (za5 sc X.env) G.objs.size X.env))
    (compPost (model X.prog X.w) X.A E use Q (.ref s.heap.objs.size) G.objs.size) s4:=by
  rintro s4 rfl
  refine zpY (fun n s'=>∃ i xs H' z,Inv (X.block sc x ix ⟨G.objs.size,{ s with heap:=G },upd H s.heap.objs.size (.lst []),X.pn++pins,fp⟩) [] (z::capts σ ix) H' s'/\tn i s'.heap/\(∀ b∈fp,H' b=none)/\W i n xs H') ?_ m0
   ⟨0,[],_,none,J0,stk,fun b hb=>(hf3 b hb).1,w0⟩
  rintro n s5 ⟨i,xs,H5,z,I5,st5,fr5,w5⟩
  obtain ⟨hl5,h5⟩:=tr i n xs H5 w5
  rcases h5 with ⟨stop,r5⟩ | ⟨go,hz,step⟩
  ·refine thn (T.done (X.block sc x ix ⟨G.objs.size,{ s with heap:=G },upd H s.heap.objs.size (.lst []),X.pn++pins,fp⟩) rfl rfl rfl hc i [] s5 _ H5 _ I5 (stat fr5) st5 stop) fun r s6 ⟨hr,I6⟩=>?_
   subst hr
   obtain ⟨m6,hn6,_⟩:=I6.loc
   refine fin _ _ m6 s6 H5 (zjJ I3 hf3 I6) hn6 ?_ r5
   exact I3.zj9 (ycu _) I6.free
  ·refine thn (T.item (X.block sc x ix ⟨G.objs.size,{ s with heap:=G },upd H s.heap.objs.size (.lst []),X.pn++pins,fp⟩) rfl rfl rfl hc i [] s5 _ H5 _ I5 (stat fr5) st5 go) fun r s6 ⟨u,hr,h6⟩=>?_
   subst hr
   refine thn h6 fun _ s7 ⟨y,H7,I7,r7,y7,st7,fr7⟩=>?_
   have I7':=I7.pinned (stat fr7) (T.obj _ _ st7)
   have lx:(relabel sc X.env).names.lookup x=some .local:=lookup_relabel_local O.var
   refine thn ((zO (i:=0) O.nd rfl (Or.inl lx) (Or.inr lx):PG (X.block sc x ix ⟨G.objs.size,{ s with heap:=G },upd H s.heap.objs.size (.lst []),X.pn++pins,fp⟩) (.Name x px) (zb4 0)) _ s7 _ H7 y u (fun σ' H'=>σ'=some y::capts σ ix/\H'=H7) I7' r7 ⟨rfl,rfl⟩) fun _ s8 ⟨σ8,H8,I8,e8,e8'⟩=>?_
   subst e8 e8'
   refine thn (hel _ _ s8 _ H8 _ I8 (step y H8 y7)) fun v9 s9 ⟨v,H9,I9,r9,hl9,m',hm,w9⟩=>?_
   refine thn (zaD _ s9 _ H9 (.ref s.heap.objs.size) [v] (.ref s.heap.objs.size) [v9] (fun _ H'=>H'=upd H9 s.heap.objs.size (.lst (xs++[v]))) I9 rfl (.cons r9 .nil) ⟨_,xs,v,rfl,rfl,hl9,hz,rfl⟩) fun _ s10 ⟨_,H10,I10,_,e10⟩=>?_
   subst e10
   refine ⟨m',hm,i+1,xs++[v],_,some y,I10.unpinned,T.keep _ _ _ st7 fun b hb o e=>(I10.pin (b,o) (yag _ (yag _ (zbh hb e)))).1,fun b hb=>?_,w9⟩
   obtain ⟨o,e,d⟩:=T.obj _ _ st7 b hb
   exact (I10.pin (b,o) (yag _ (yag _ (zbh hb e)))).2.1
 exact codeAny_compStart_list (loop _ rfl) (T.self _ 0 _ _ _ stk (loop _ rfl))
theorem zgv (O:zdT X sc x ix) (hi:PI X (.Name x px) iter wi) (hel:∀ b,PE (X.block sc x ix b) elt te) (hc:X.calm=true:=by rfl) (hs:∀ v,foldedSetIterable iter X.env v=pure v:=by intro _;rfl) :
  PE X (.ListComp elt [⟨.Name x px,iter,[],0⟩] sc pos) (zq1 ix wi te):=by
 intro pins s σ H Q I h
 rw[eval_ListComp]
 refine wpAny_comprehension_free (use:=none) rfl hs O.clos O.kind O.names (thn (hi pins s σ H _ I h) fun xv s1 h1=>thn h1 fun itv s2 h2=>?_)
 obtain ⟨it,fp,tn,J,H2,e,I2,T,st2,f2,hq⟩:=h2
 subst e
 refine zkJ O hel hc I2 T st2 f2 (fun l H'=>Q (.ref l) H') hq ?_
 intro l C m s' H' I' hn hf r
 refine ⟨m,hn,fun h' hb=>⟨.ref l,H',?_,rfl,r⟩⟩
 exact I'.turned (t':=s'.toks) (fun b o hne e=>hb.extBut b o hne e) hf.1 hf.2.1 hf.2.2.2.1 hf.2.2.2.2.1 hf.2.2.2.2.2
theorem zex {y:Str} {i:Nat} {py spos:Pos} (hN:X.N.Nodup) (hiy:X.N[i]?=some y) (hy:X.env.scope.names.lookup y=some .local) (O:zdT X sc x ix) (hi:PI X (.Name x px) iter wi) (hel:∀ b,PE (X.block sc x ix b) elt te)
  (hc:X.calm=true:=by rfl) (hs:∀ v,foldedSetIterable iter X.env v=pure v:=by intro _;rfl) (hsw:swapsWith (.ListComp elt [⟨.Name x px,iter,[],0⟩] sc pos) (some (.Name y py)) spos.line X.env=pure true:=by rfl) :
  PS X (.Assign [.Name y py] (.ListComp elt [⟨.Name x px,iter,[],0⟩] sc pos) spos) (zlU (zq1 ix wi te) (zb4 i)):=by
 intro pins s σ H D I h
 rw[exec_Assign_Name_used _ _ _ _ hsw]
 refine wpAny_bind (wpAny_standAt (wpAny_bind ?_))
 show wpAny _ X.A (do let _ <-comprehension (.ListComp elt [⟨.Name x px,iter,[],0⟩] sc pos) sc X.env _ (newList []) false (eval iter X.env) (some (assign (.Name y py) X.env))) _ _ s
 refine wpAny_bind (wpAny_mono (wpAny_comprehension_free (use:=some (assign (.Name y py) X.env)) (Q:=fun _ s'=>SP X pins D .next s') rfl hs O.clos O.kind O.names
  (thn (hi pins s σ H _ I h) fun xv s1 h1=>thn h1 fun itv s2 h2=>?_)) (fun _ s' hq=>wpAny_pure (wpAny_pure hq)) fun _ _ e=>e)
 obtain ⟨it,fp,tn,J,H2,e,I2,T,st2,f2,hq⟩:=h2
 subst e
 refine zkJ O hel hc I2 T st2 f2 (fun l H'=>D.nx (σ.set i (some (.ref l))) H') hq ?_
 intro l C m s' H' I' hn hf r
 obtain ⟨o,es,ep,ho,hd,hr⟩:=id hn
 have Ip:=I'.addpin ho hf.1 hf.2.1 hf.2.2.1 (by intro v z;rw[hd] at z;cases z)
 refine thn ((zO (i:=i) hN hiy (Or.inl hy) (Or.inr hy):PG X (.Name y py) (zb4 i)) _ s' σ H' (.ref l) (.ref l) (fun σ' H''=>σ'=σ.set i (some (.ref l))/\H''=H') Ip rfl ⟨rfl,rfl⟩) fun _ s'' ⟨σ'',H'',I'',e1,e2⟩=>?_
 subst e1 e2
 have pc:=(I''.pin (C,o) (yag _ (yag _ yai))).1
 refine ⟨m,⟨o,es,ep,pc,hd,hr⟩,fun h' hb=>⟨_,_,?_,r⟩⟩
 exact I''.unpinned.turned (t':=s''.toks) (fun b o hne e=>hb.extBut b o hne e) hf.1 hf.2.1 hf.2.2.2.1 hf.2.2.2.2.1 hf.2.2.2.2.2
end
def zh6 (ix:List Nat) (tt:TT) (te:TE) (σ:St) (J:It) (l:Addr) (R:Hp->Prop) (W:Nat->Nat->List V->Hp->Prop):Prop :=
 ∀ i m xs H',W i m xs H'->H' l=some (.lst xs)/\((J.stop i H'/\R H')\/(J.go i H'/\xs.length<sizeLine/\∀ x H2,J.yld i H' x H2 ->
  tt (some x::capts σ ix) H2 fun b H3=>if b=true then te (some x::capts σ ix) H3 fun v H4=>H4 l=some (.lst xs)/\∃ m',m'<m/\W (i+1) m' (xs++[v]) (upd H4 l (.lst (xs++[v]))) else ∃ m',m'<m/\W (i+1) m' xs H3))
def zn1 (ix:List Nat) (wi:TI) (tt:TT) (te:TE):TE:=fun σ H Q=>wi σ H fun J H1=>∀ l,H1 l=none->∃ W:Nat->Nat->List V->Hp->Prop,(∃ m,W 0 m [] (upd H1 l (.lst [])))/\zh6 ix tt te σ J l (Q (.ref l)) W
section
variable {X:Cx} {pins:List (Addr × Obj)} {σ:St} {H:Hp} {s:Shared} {sc:Scope} {x:Str} {ix:List Nat} {fp:List Addr} {elt iter c:Expr} {te:TE} {tt:TT} {wi:TI} {px pos:Pos}
theorem ziq {it:Addr} {tn:Nat->Heap->Prop} {J:It} {use:Option (Value->Sem Unit)} {Q:Value->Shared->Prop} {E:Value->Shared->Prop} (O:zdT X sc x ix) (htt:∀ b,PT (X.block sc x ix b) c tt) (hel:∀ b,PE (X.block sc x ix b) elt te) (hc:X.calm=true)
  (I:Inv X pins σ H s) (T:Turn X.prog X.w X.K (.Name x px) J fp it tn) (st:tn 0 s.heap) (hf:∀ b∈fp,zaS X pins H b) (R:Addr->Hp->Prop)
  (h:∀ l,H l=none->∃ W:Nat->Nat->List V->Hp->Prop,(∃ m,W 0 m [] (upd H l (.lst [])))/\zh6 ix tt te σ J l (R l) W)
  (fin:∀ l C m s' H',Inv X pins σ H' s'->s'.heap.Ns C m->zaS X pins H' C->R l H'->compPost (model X.prog X.w) X.A E use Q (.ref l) C (.ok .next) s') :
  wpAny (model X.prog X.w) X.A (newList []) (fun acc s₃=>wpAny (model X.prog X.w) X.A (newFunctionEnv sc X.env.globals (za5 sc X.env) [] X.env.qual none .none (some X.env)) (fun cenv s₄ =>
   codeAny (model X.prog X.w) X.A (.compStart (.ListComp elt [⟨.Name x px,iter,[c],0⟩] sc pos) 0 (.ref it) acc { cenv with scope:=relabel sc X.env }) (compPost (model X.prog X.w) X.A E use Q acc cenv.locals) s₄) E s₃) E s:=by
 refine wpAny_newObj_type (wpAny_newFunctionEnv O.cell (by intro y hy;simp at hy) (fun h₁ hns hsb=>?_) O.kind)
 dsimp only at hns hsb ⊢
 have hl0:H s.heap.objs.size=none:=I.hok.fresh (ycu _)
 obtain ⟨W,⟨m0,w0⟩,tr⟩:=h s.heap.objs.size hl0
 have I3:Inv X pins σ (upd H s.heap.objs.size (.lst [])) { s with heap:=s.heap.push { cls:=.type "list", dict:=none,data:=.seq ([]:List Value).toArray } } :=
  I.laid (t':=s.toks) (fun b o e=>ydk _ e) (ycu _) ⟨ycy _,[],0,.nil,ydm _ rfl⟩
 have ofp:∀ b∈fp,∃ o,s.heap.get? b=some o:=fun b hb=>by
  obtain ⟨o,e,_⟩:=T.obj 0 _ st b hb
  exact ⟨o,e⟩
 generalize e3:s.heap.push { cls:=.type "list", dict:=none,data:=.seq ([]:List Value).toArray }=G at I3 hns hsb ⊢
 have ofp3:∀ b∈fp,∃ o,G.get? b=some o:=fun b hb=>by
  obtain ⟨o,e⟩:=ofp b hb
  exact ⟨o,by rw[<-e3];exact ydk _ e⟩
 have nl:∀ b∈fp,b≠s.heap.objs.size:=fun b hb=>by
  obtain ⟨o,e⟩:=ofp b hb
  exact ycv (ydl e)
 have hf3:∀ b∈fp,zaS X pins (upd H s.heap.objs.size (.lst [])) b:=fun b hb=>⟨by rw[zi (nl b hb)];exact (hf b hb).1,(hf b hb).2⟩
 have keep3:∀ b o,G.get? b=some o->h₁.get? b=some o:=fun b o e=>hsb.extBut b o (ycv (ydl e)) (ydk _ e)
 have stk:tn 0 h₁:=T.keep _ _ _ st fun b hb o e=>keep3 b o (by rw[<-e3];exact ydk _ e)
 have J0:=zkN (tk:=s.toks+([]:List (Str × Value)).length) I3 O hf3 ofp3 hns keep3
 have stat:∀ {H':Hp},(∀ b∈fp,H' b=none)->∀ b∈fp,zaS (X.block sc x ix ⟨G.objs.size,{ s with heap:=G },upd H s.heap.objs.size (.lst []),X.pn++pins,fp⟩) [] H' b:=fun hn b hb=>by
  obtain ⟨o,e⟩:=ofp3 b hb
  refine ⟨hn b hb,ycv (ydl e),fun z=>(yak.mp (I3.zbQ _ z)).elim (hf b hb).2.1 (hf b hb).2.2.1,.inl hb,fun y c q=>(hf b hb).2.2.2.2.1 y c (O.sub.get y c q),fun p hp=>?_⟩
  have hp':p∈X.pn++pins:=by
   rcases yal.mp hp with z | z
   ·exact z
   ·cases z
  exact (hf b hb).2.2.2.2.2 p hp'
 have loop:∀ s4:Shared,s4={ s with heap:=h₁,toks:=s.toks+([]:List (Str × Value)).length } ->
   codeAny (model X.prog X.w) X.A (.compLoop (.ListComp elt [⟨.Name x px,iter,[c],0⟩] sc pos) 0 (.ref it) (.ref s.heap.objs.size) (compEnvC sc (za5 sc X.env) G.objs.size X.env))
    (compPost (model X.prog X.w) X.A E use Q (.ref s.heap.objs.size) G.objs.size) s4:=by
  rintro s4 rfl
  refine zhM (fun n s'=>∃ i xs H' z,Inv (X.block sc x ix ⟨G.objs.size,{ s with heap:=G },upd H s.heap.objs.size (.lst []),X.pn++pins,fp⟩) [] (z::capts σ ix) H' s'/\tn i s'.heap/\(∀ b∈fp,H' b=none)/\W i n xs H') ?_ m0
   ⟨0,[],_,none,J0,stk,fun b hb=>(hf3 b hb).1,w0⟩
  rintro n s5 ⟨i,xs,H5,z,I5,st5,fr5,w5⟩
  obtain ⟨hl5,h5⟩:=tr i n xs H5 w5
  rcases h5 with ⟨stop,r5⟩ | ⟨go,hz,step⟩
  ·refine thn (T.done (X.block sc x ix ⟨G.objs.size,{ s with heap:=G },upd H s.heap.objs.size (.lst []),X.pn++pins,fp⟩) rfl rfl rfl hc i [] s5 _ H5 _ I5 (stat fr5) st5 stop) fun r s6 ⟨hr,I6⟩=>?_
   subst hr
   obtain ⟨m6,hn6,_⟩:=I6.loc
   refine fin _ _ m6 s6 H5 (zjJ I3 hf3 I6) hn6 ?_ r5
   exact I3.zj9 (ycu _) I6.free
  ·refine thn (T.item (X.block sc x ix ⟨G.objs.size,{ s with heap:=G },upd H s.heap.objs.size (.lst []),X.pn++pins,fp⟩) rfl rfl rfl hc i [] s5 _ H5 _ I5 (stat fr5) st5 go) fun r s6 ⟨u,hr,h6⟩=>?_
   subst hr
   refine thn h6 fun _ s7 ⟨y,H7,I7,r7,y7,st7,fr7⟩=>?_
   have I7':=I7.pinned (stat fr7) (T.obj _ _ st7)
   have lx:(relabel sc X.env).names.lookup x=some .local:=lookup_relabel_local O.var
   refine thn ((zO (i:=0) O.nd rfl (Or.inl lx) (Or.inr lx):PG (X.block sc x ix ⟨G.objs.size,{ s with heap:=G },upd H s.heap.objs.size (.lst []),X.pn++pins,fp⟩) (.Name x px) (zb4 0)) _ s7 _ H7 y u (fun σ' H'=>σ'=some y::capts σ ix/\H'=H7) I7' r7 ⟨rfl,rfl⟩) fun _ s8 ⟨σ8,H8,I8,e8,e8'⟩=>?_
   subst e8 e8'
   refine thn (htt _ _ s8 _ H8 _ I8 (step y H8 y7)) fun b s9 ⟨H9,I9,q9⟩=>?_
   have kp:∀ {σ0:St} {H0:Hp} {s0:Shared},Inv (X.block sc x ix ⟨G.objs.size,{ s with heap:=G },upd H s.heap.objs.size (.lst []),X.pn++pins,fp⟩) ([]++zgs fp s7.heap) σ0 H0 s0->tn (i+1) s0.heap/\∀ b∈fp,H0 b=none:=fun {σ0 H0 s0} I0=>by
    refine ⟨T.keep _ _ _ st7 fun b hb o e=>(I0.pin (b,o) (yag _ (yag _ (zbh hb e)))).1,fun b hb=>?_⟩
    obtain ⟨o,e,d⟩:=T.obj _ _ st7 b hb
    exact (I0.pin (b,o) (yag _ (yag _ (zbh hb e)))).2.1
   cases b with
   | false =>
    rw[if_neg Bool.false_ne_true] at q9 ⊢
    obtain ⟨m',hm,w9⟩:=q9
    exact ⟨m',hm,i+1,xs,_,some y,I9.unpinned,(kp I9).1,(kp I9).2,w9⟩
   | true =>
    rw[if_pos rfl] at q9 ⊢
    refine thn (hel _ _ s9 _ H9 _ I9 q9) fun v9 s10 ⟨v,H10,I10,r10,hl10,m',hm,w10⟩=>?_
    refine thn (zaD _ s10 _ H10 (.ref s.heap.objs.size) [v] (.ref s.heap.objs.size) [v9] (fun _ H'=>H'=upd H10 s.heap.objs.size (.lst (xs++[v]))) I10 rfl (.cons r10 .nil) ⟨_,xs,v,rfl,rfl,hl10,hz,rfl⟩) fun _ s11 ⟨_,H11,I11,_,e11⟩=>?_
    subst e11
    exact ⟨m',hm,i+1,xs++[v],_,some y,I11.unpinned,(kp I11).1,(kp I11).2,w10⟩
 exact codeAny_compStart_list (loop _ rfl) (T.self _ 0 _ _ _ stk (loop _ rfl))
theorem zcC (O:zdT X sc x ix) (hi:PI X (.Name x px) iter wi) (htt:∀ b,PT (X.block sc x ix b) c tt) (hel:∀ b,PE (X.block sc x ix b) elt te) (hc:X.calm=true:=by rfl) (hs:∀ v,foldedSetIterable iter X.env v=pure v:=by intro _;rfl) :
  PE X (.ListComp elt [⟨.Name x px,iter,[c],0⟩] sc pos) (zn1 ix wi tt te):=by
 intro pins s σ H Q I h
 rw[eval_ListComp]
 refine wpAny_comprehension_free (use:=none) rfl hs O.clos O.kind O.names (thn (hi pins s σ H _ I h) fun xv s1 h1=>thn h1 fun itv s2 h2=>?_)
 obtain ⟨it,fp,tn,J,H2,e,I2,T,st2,f2,hq⟩:=h2
 subst e
 refine ziq O htt hel hc I2 T st2 f2 (fun l H'=>Q (.ref l) H') hq ?_
 intro l C m s' H' I' hn hf r
 refine ⟨m,hn,fun h' hb=>⟨.ref l,H',?_,rfl,r⟩⟩
 exact I'.turned (t':=s'.toks) (fun b o hne e=>hb.extBut b o hne e) hf.1 hf.2.1 hf.2.2.2.1 hf.2.2.2.2.1 hf.2.2.2.2.2
end
theorem zb {H:Hp} {p:Addr} (h:H p=none) (o:HO):Same H (upd H p o):=fun b u q=>by rw[zi (zU q h)];exact q
section
variable {X:Cx}
theorem ze1:∀ {ns:List Int} {us:List Value},Vals (ns.map V.int) us->IntsAre us ns
 | [],_,.nil=>.nil
 | n::ns,_,.cons ⟨t,e⟩ r=>by
  subst e
  exact .cons n t (ze1 r)
end
mutual
inductive RdV (K:W.Frag) (H:Hp):V->PyData->Prop
 | non:RdV K H .non .none
 | bl (b:Bool):RdV K H (.bl b) (.bool b)
 | int (i:Int):RdV K H (.int i) (.int i)
 | str (x:Str):RdV K H (.str x) (.str x)
 | lst {a:Addr} {xs:List V} {ds:List PyData}:SqL K H a xs->zbD K H xs ds->RdV K H (.ref a) (.list ds)
 | tup {a:Addr} {xs:List V} {ds:List PyData}:SqT K H a xs->zbD K H xs ds->RdV K H (.ref a) (.tuple ds)
inductive zbD (K:W.Frag) (H:Hp):List V->List PyData->Prop
 | nil:zbD K H [] []
 | cons {x:V} {d:PyData} {xs:List V} {ds:List PyData}:RdV K H x d->zbD K H xs ds->zbD K H (x::xs) (d::ds)
end
theorem zbD.ints {K:W.Frag} {H:Hp}:∀ ns:List Int,zbD K H (ns.map V.int) (ns.map PyData.int)
 | []=>.nil
 | n::r=>.cons (.int n) (zbD.ints r)
section
variable {X:Cx} {pins:List (Addr × Obj)} {σ:St} {H:Hp} {s:Shared} {pos:Pos}
mutual
theorem RdV.reads (I:Inv X pins σ H s):∀ {x:V} {d:PyData} {u:Value},RdV X.K H x d->RelV x u->∃ as,Reads s.heap u d as
 | _,_,_,.non,r=>by cases r;exact ⟨_,.none⟩
 | _,_,_,.bl b,r=>by cases r;exact ⟨_,.bool b⟩
 | _,_,_,.int i,r=>by obtain ⟨t,rfl⟩:=r;exact ⟨_,.int i t⟩
 | _,_,_,.str x,r=>by obtain ⟨t,rfl⟩:=r;exact ⟨_,.str x t⟩
 | _,_,_,.lst h hs,r=>by
  cases r
  obtain ⟨its,rv,pl,hz⟩:=I.list h
  obtain ⟨as,q⟩:=zbD.reads I hs rv
  obtain ⟨o,n,e,c,hd,dt⟩:=pl
  exact ⟨_,reads_list_at e c dt (by simpa using q)⟩
 | _,_,_,.tup h hs,r=>by
  cases r
  obtain ⟨its,rv,pl,hz⟩:=I.tuple h
  obtain ⟨as,q⟩:=zbD.reads I hs rv
  obtain ⟨o,e,c,n,dt⟩:=pl
  exact ⟨_,reads_tuple_at e c dt (by simpa using q)⟩
theorem zbD.reads (I:Inv X pins σ H s):∀ {xs:List V} {ds:List PyData} {us:List Value},zbD X.K H xs ds->Vals xs us->∃ as,ReadsAll s.heap us ds as
 | _,_,_,.nil,.nil=>⟨_,.nil⟩
 | _,_,_,.cons h hs,.cons r rs=>by
  obtain ⟨as,q⟩:=RdV.reads I h r
  obtain ⟨bs,q'⟩:=zbD.reads I hs rs
  exact ⟨_,.cons q q'⟩
end
def ztG (K:W.Frag):R2:=fun x y H Q=>∃ d e,RdV K H x d/\RdV K H y e/\SeqAt.shaped d=true/\SeqAt.shaped e=true/\Q (.bl (PyData.eqv d e)) H
def zt6 (K:W.Frag):R2:=fun x y H Q=>∃ d e,RdV K H x d/\RdV K H y e/\SeqAt.shaped d=true/\SeqAt.shaped e=true/\Q (.bl (!PyData.eqv d e)) H
theorem zsm (hu:X.A.units+64<cLine):OpR X (compareOp .Eq) (ztG X.K):=by
 intro pins s σ H x y v u Q I rx ry h
 obtain ⟨d,e,hd,he,sd,se,q⟩:=h
 obtain ⟨as,ra⟩:=hd.reads I rx
 obtain ⟨bs,rb⟩:=he.reads I ry
 exact eq_dataH ra rb sd se hu ⟨.bl _,H,I,rfl,q⟩
theorem zdO (hu:X.A.units+64<cLine):OpR X (compareOp .NotEq) (zt6 X.K):=by
 intro pins s σ H x y v u Q I rx ry h
 obtain ⟨d,e,hd,he,sd,se,q⟩:=h
 obtain ⟨as,ra⟩:=hd.reads I rx
 obtain ⟨bs,rb⟩:=he.reads I ry
 exact ne_dataH ra rb sd se hu ⟨.bl _,H,I,rfl,q⟩
end
noncomputable def kinds:List String:=["NoneType", "bool", "int", "str", "list", "tuple", "dict"]
theorem zrP {K:W.Frag} {T:String} (h:T∈kinds):PySem.W.kitOne K (.type T) (.type "int")=some (decide (T = "int" \/ T = "bool")):=by
 simp only[kinds,yak,ybe,or_false] at h
 rcases h with rfl | rfl | rfl | rfl | rfl | rfl | rfl <;> rfl
theorem zqx {K:W.Frag} {T:String} (h:T∈kinds):PySem.W.kitOne K (.type T) (.type "bool")=some (decide (T = "bool")):=by
 simp only[kinds,yak,ybe,or_false] at h
 rcases h with rfl | rfl | rfl | rfl | rfl | rfl | rfl <;> rfl
def zjc (K:W.Frag) (H:Hp) (x:V) (T:String):Prop:=zbc K H x (.type T)/\T∈kinds
theorem ztp {A B:Prop} (h:B):if (!true)=true then A else B:=zsI (A:=A) h
theorem zuc {p A B:Prop} [Decidable p] (h1:¬ p->A) (h2:p->B):if (!decide p)=true then A else B:=by
 by_cases h:p
 ·rw[if_neg (by simpa using h)];exact h2 h
 ·rw[if_pos (by simpa using h)];exact h1 h
theorem zcb {X:Cx} {a b v:Int} {j j':Nat} {p p' pos:Pos} (h:a ^ b.toNat=v) (hb:CPow a b):PE X (.BinOp (.Constant (.int a) j p) .Pow (.Constant (.int b) j' p') pos) (tC (.int v)):=by
 intro pins s σ H Q I hq
 exact zo zsA zd zd pins s σ H Q I ⟨_,_,rfl,rfl,hb,by show Q (V.int (a ^ b.toNat)) H;rw[h];exact hq⟩
theorem zad.get {P:Program} {w:World} {H:Hp} {h:Heap} {a:Addr} {o:HO} (x:zad P w H h a o):∃ u,h.get? a=some u:=by
 cases o with
 | lst xs=>obtain ⟨_,_,_,_,e⟩:=x;exact ⟨_,e⟩
 | tup xs=>obtain ⟨_,_,_,_,e,_⟩:=x;exact ⟨_,e⟩
 | dK kvs=>obtain ⟨_,_,_,_,_,_,_,e,_⟩:=x;exact ⟨_,e⟩
 | set S n=>obtain ⟨_,_,_,_,e,_⟩:=x;exact ⟨_,e⟩
 | ins C dx fs=>obtain ⟨_,_,_,e,_⟩:=x;exact ⟨_,e⟩
 | own y=>exact x
 | xd fs=>obtain ⟨_,⟨_,_,_,e,_⟩,_⟩:=x;exact ⟨_,e⟩
 | rng lo hi=>obtain ⟨_,_,_,e⟩:=x;exact ⟨_,e⟩
 | frz ob u=>obtain ⟨e,_⟩:=x;exact ⟨_,e⟩
 | tbl ps=>exact ⟨_,(show h.get? a=some _ from x)⟩
 | met f y=>exact ⟨_,(show h.get? a=some _ from x)⟩
 | ext φ=>obtain ⟨_,e,_⟩:=x;exact e
theorem HOk.gone {P:Program} {w:World} {H:Hp} {h:Heap} {a:Addr} (x:HOk P w H h) (e:h.get? a=none):H a=none:=by
 cases q:H a with
 | none=>rfl
 | some o =>
  obtain ⟨u,z⟩:=(x a o q).get
  rw[e] at z;cases z
structure ExcAt (g:Heap) (H:Hp) (h:Heap) (e:Addr) (C:Value):Prop where
 new:g.get? e=none
 free:H e=none
 ex:∃ oe vs T oT ts a0,h.get? e=some oe/\(oe.cls=C/\vs[0]?=some a0)/\oe.data=.fields vs/\vs[1]?=some (.ref T)/\(g.get? T=none/\H T=none)/\T≠e/\h.get? T=some oT/\oT.data=.fields ts/\ts[3]?=some .none
noncomputable def CXX (P:Program) (w:World):CXT:=fun outer H s E ev s'=>∃ e C H',ev=.ref e/\E C none H'/\s'.os=s.os/\AllBare s'.gens/\Un (frs outer) [] H H' s.heap s'.heap/\HOk P w H' s'.heap/\ExcAt s.heap H' s'.heap e C
structure Flew (X:Cx) (hid:List Addr) (h h':Heap):Prop where
 keep:∀ b o,h.get? b=some o->b ∉ frs X.stack->b ∉ hid->h'.get? b=some o
 slot:h.UpToSlots h'
section
variable {X:Cx} {pins:List (Addr × Obj)} {σ:St} {H:Hp} {s:Shared} {h':Heap} {hid:List Addr}
theorem Inv.zlA (I:Inv X pins σ H s) (F:Flew X hid s.heap h') (hh:∀ b∈hid,X.s₀.heap.get? b=none):Un X.fs X.ex X.H₀ H X.s₀.heap h' where
 keep:=fun b o q n hb hx=>F.keep b o (I.base.keep b o q n hb hx)
  (fun z=>(yak.mp (I.zbQ b z)).elim (fun e=>absurd (ycw (ydl q) I.ok.above) (by rw[e];exact yda _)) hb) (fun z=>by rw[hh b z] at q;cases q)
 slot:=fun b o q n hb hx=>by
  obtain ⟨sl,e1⟩:=I.base.slot b o q n hb hx
  obtain ⟨_,o',ho',hd⟩:=I.funs.mem hb
  rw[e1] at ho';cases ho'
  obtain ⟨sl',e2⟩:=F.slot b _ e1 hd
  exact ⟨sl',e2⟩
 free:=I.base.free
 there:=fun b o q hx=>by
  obtain ⟨o',e1⟩:=I.base.there b o q hx
  by_cases z:b∈frs X.stack
  ·obtain ⟨_,o'',ho,hd⟩:=I.stack.mem z
   rw[e1] at ho;cases ho
   obtain ⟨sl,e2⟩:=F.slot b _ e1 hd
   exact ⟨_,e2⟩
  ·exact ⟨o',F.keep b o' e1 z (fun y=>by rw[hh b y] at q;cases q)⟩
 tups:=I.base.tups
 frzs:=I.base.frzs
 tbls:=I.base.tbls
theorem Inv.zjO (I:Inv X pins σ H s) (F:Flew X hid s.heap h') (hf:∀ b∈hid,H b=none):HOk X.prog X.w H h':=fun a o q=>by
 refine (I.hok a o q).stay (fun b u hb r=>?_) (fun _ z=>z) fun _ _ z=>z
 have t:H b≠none:=by
  rcases hb with rfl | hb
  ·rw[q];exact fun z=>nomatch z
  ·rw[hb];exact fun z=>nomatch z
 exact F.keep b u r (fun z=>t (I.zh2 b z)) fun z=>t (hf b z)
theorem zkw {h:Heap} {c:Addr} {v:Option Value} (F:h.UpToSlots h') (z:h.IsCell c v):h'.IsCell c v:=by
 obtain ⟨o,ho,hd⟩:=z
 obtain ⟨sl,e⟩:=F c o ho (fun vs q=>by rw[hd] at q;cases q)
 exact ⟨_,e,hd⟩
theorem Inv.flew (I:Inv X pins σ H s) (F:Flew X hid s.heap h') (hh:∀ b∈hid,X.s₀.heap.get? b=none/\H b=none/\∀ p∈X.pn++pins,p.1≠b):Inv X pins σ H { s with heap:=h' }:=by
 refine ⟨I.ok,I.os,I.bare,I.zlA F fun b hb=>(hh b hb).1,?_,fun x c e=>?_,I.free,I.freeC,fun p hp=>?_,I.zjO F fun b hb=>(hh b hb).2.1,I.len⟩
 ·obtain ⟨m,hn,hl⟩:=I.loc
  refine ⟨m,F.slot.ns hn,fun i x v e1 e2 e3=>?_⟩
  obtain ⟨u,r,l⟩:=hl i x v e1 e2 e3
  refine ⟨u,r,?_⟩
  rcases l with l | ⟨k,c,e,z⟩
  ·exact .inl l
  ·exact .inr ⟨k,c,e,zkw F.slot z⟩
 ·obtain ⟨v,z⟩:=I.cell x c e
  exact ⟨v,zkw F.slot z⟩
 ·obtain ⟨e,n,ne,nf,d⟩:=I.pin p hp
  exact ⟨F.keep p.1 p.2 e (fun z=>(yak.mp (I.zbQ _ z)).elim ne nf) (fun z=>(hh p.1 z).2.2 p hp rfl),n,ne,nf,d⟩
theorem zpd {B h'':Heap} {l:List Env} {e:Addr} {C a0:Value} (I:Inv X pins σ H s) (F:Flew X hid s.heap h'') (hB:∀ b o,s.heap.get? b=some o->b ∉ frs X.stack->b ∉ hid->B.get? b=some o)
  (fl:Heap.FlyingW B l e C a0 h'') (hh:∀ b∈hid,X.s₀.heap.get? b=none/\H b=none) (he:X.s₀.heap.get? e=none/\H e=none) (hex:∀ b,b ∉ X.ex):ExcAt X.s₀.heap H h'' e C:=by
 obtain ⟨_,_,_,oe,vs,T,oT,ts,h1,h2,h3,h4,h5,h6,h7,h8,h9⟩:=fl
 have key:∀ o,s.heap.get? T=some o->T∈hid:=fun o q=>by
  by_cases z:T∈hid
  ·exact z
  ·exfalso
   by_cases y:T∈frs X.stack
   ·obtain ⟨_,o',ho,hd⟩:=I.stack.mem y
    obtain ⟨sl,e2⟩:=F.slot T o' ho hd
    rw[h7] at e2;cases e2
    exact hd ts h8
   ·have:=hB T o q y z
    rw[h5] at this;cases this
 refine ⟨he.1,he.2,oe,vs,T,oT,ts,a0,h1,h2,h3,h4,⟨?_,?_⟩,h6,h7,h8,h9⟩
 ·cases q:X.s₀.heap.get? T with
  | none=>rfl
  | some o =>
   obtain ⟨o',e1⟩:=I.base.there T o q (hex T)
   rw[(hh T (key o' e1)).1] at q;cases q
 ·cases q:H T with
  | none=>rfl
  | some u =>
   obtain ⟨o',e1⟩:=(I.hok T u q).get
   rw[(hh T (key o' e1)).2] at q;cases q
end
section
variable {P:Program} {w:World} {K:W.Frag} {mg:Str->Option Value} {base:Heap} {N:List Str} {qual:Str} {scope:Scope} {f:Addr} {cd:Value} {A:Around} {outer:List Env} {s₀:Shared} {H₀:Hp} {E:XK}
theorem zki {pins:List (Addr × Obj)} {σ:St} {H:Hp} {s:Shared} {h':Heap} {e:Addr} {C:Value} {vs:List Value} (I:Inv (zaK (CXX P w) P w K mg base N qual scope f cd A outer s₀ H₀ E) pins σ H s)
  (hx:Heap.MadeExcOf s.heap h' e C vs) (hE:E C none H):(zaK (CXX P w) P w K mg base N qual scope f cd A outer s₀ H₀ E).xe (.ref e) { s with heap:=h' }:=by
 refine wpAny_leaves_madeW (base:=PySem.W.hideAll s.heap (frs (zaK (CXX P w) P w K mg base N qual scope f cd A outer s₀ H₀ E).stack)) (h:=s.heap) (outer:=outer) (L:=s₀.heap.objs.size) I.ok.frames rfl (fun b o q=>PySem.W.of_hideAll _ q)
  (PySem.W.funFrames_hide I.stack fun env he a ha=>ybw.mpr ⟨env,he,ha⟩) hx fun h'' t x1 x2 x3 x4=>?_
 have F:Flew (zaK (CXX P w) P w K mg base N qual scope f cd A outer s₀ H₀ E) [] s.heap h'':=⟨fun b o q n _=>x1.1 b o (PySem.W.hideAll_get _ q n),(Heap.UpToSlots.of_keeps hx.keeps).trans x4⟩
 refine ⟨e,C,H,rfl,hE,I.os,I.bare,I.zlA F (fun b z=>absurd z (by simp)),I.zjO F (fun b z=>absurd z (by simp)),zpd I F (fun b o q n _=>PySem.W.hideAll_get _ q n) x1 (fun b z=>absurd z (by simp)) ⟨?_,I.hok.gone hx.new⟩ fun b z=>absurd (show b∈([]:List Addr) from z) (by simp)⟩
 cases q:s₀.heap.get? e with
 | none=>exact q
 | some o =>
  obtain ⟨o',e1⟩:=I.base.there e o q fun z=>absurd (show e∈([]:List Addr) from z) (by simp)
  rw[hx.new] at e1;cases e1
theorem zq7:Passes (CXX P w) (zaK (CXX P w) P w K mg base N qual scope f cd A outer s₀ H₀ E) E:=by
 intro pins σ H s ev s' I hc
 obtain ⟨e,C,H',rfl,hE,os,bare,un,hok,new,free,oe,vs,T,oT,ts,a0,h1,h2,h3,h4,h5,h6,h7,h8,h9⟩:=hc
 have I':Inv (zaK (CXX P w) P w K mg base N qual scope f cd A outer s₀ H₀ E) pins σ H' s':=I.call' os un hok bare (fun b z=>absurd z (by simp))
 have fresh:∀ b,s.heap.get? b=none->s₀.heap.get? b=none:=fun b z=>by
  cases q:s₀.heap.get? b with
  | none=>rfl
  | some o =>
   obtain ⟨o',e1⟩:=I.base.there b o q fun z=>absurd (show b∈([]:List Addr) from z) (by simp)
   rw[z] at e1;cases e1
 have me:e∈e::T::frs (zaK (CXX P w) P w K mg base N qual scope f cd A outer s₀ H₀ E).stack:=yai
 have mT:T∈e::T::frs (zaK (CXX P w) P w K mg base N qual scope f cd A outer s₀ H₀ E).stack:=yaj _ yai
 refine wpAny_leaves_onW (base:=PySem.W.hideAll s'.heap (e::T::frs (zaK (CXX P w) P w K mg base N qual scope f cd A outer s₀ H₀ E).stack)) (outer:=outer) (L:=s₀.heap.objs.size) (cls:=C) (a0:=a0) I.ok.frames rfl
  ⟨fun b o q=>PySem.W.of_hideAll _ q,PySem.W.hideAll_none _ me,PySem.W.funFrames_hide I'.stack (fun env he a ha=>yaj _ (yaj _ (ybw.mpr ⟨env,he,ha⟩))),
   oe,vs,T,oT,ts,h1,h2,h3,h4,PySem.W.hideAll_none _ mT,h6,h7,h8,h9⟩ fun h'' x1 x2=>?_
 have nm:∀ b,b ∉ frs (zaK (CXX P w) P w K mg base N qual scope f cd A outer s₀ H₀ E).stack->b ∉ [e,T]->b ∉ e::T::frs (zaK (CXX P w) P w K mg base N qual scope f cd A outer s₀ H₀ E).stack:=fun b n m z=>by
  rcases yak.mp z with z | z
  ·exact m (by rw[z];simp)
  ·rcases yak.mp z with z | z
   ·exact m (by rw[z];simp)
   ·exact n z
 have F:Flew (zaK (CXX P w) P w K mg base N qual scope f cd A outer s₀ H₀ E) [e,T] s'.heap h'':=⟨fun b o q n m=>x1.1 b o (PySem.W.hideAll_get _ q (nm b n m)),x2⟩
 have hh:∀ b∈[e,T],s₀.heap.get? b=none/\H' b=none:=fun b z=>by
  rcases yak.mp z with z | z
  ·subst z;exact ⟨fresh _ new,free⟩
  ·have z':b=T:=by simpa using z
   subst z';exact ⟨fresh _ h5.1,h5.2⟩
 exact ⟨e,C,H',rfl,hE,os.trans I.os,bare,I'.zlA F (fun b z=>(hh b z).1),I'.zjO F (fun b z=>(hh b z).2),zpd I' F (fun b o q n m=>PySem.W.hideAll_get _ q (nm b n m)) x1 hh ⟨fresh _ new,free⟩ fun b z=>absurd (show b∈([]:List Addr) from z) (by simp)⟩
theorem zjC {X:Cx}:Passes (CXX P w) X E0:=fun _ _ _ _ _ _ _ ⟨_,_,_,_,hE,_⟩=>hE.elim
end
structure zoS (P:Program) (w:World) (K:W.Frag) (mg:Str->Option Value) (base:Heap) (k:Nat) (x:Str) (ps:List Str) (sp:Sp):Prop where
 ex:∃ (f:Addr) (fd:FuncData),zbO P w K mg base (CXX P w) k f fd ps sp/\mg x=some (.ref f)/\PySem.W.keepIn K (.ref f)=true/\(∀ us:List Value,us.length=ps.length->bindArgs fd ⟨us,[]⟩=pure (ps.zip us))
section
variable {P:Program} {w:World} {K:W.Frag} {mg:Str->Option Value} {base:Heap} {x:Str} {st:Stmt} {N ps:List Str} {k:Nat} {sp:Sp}
theorem Src.okX (S:Src K mg x st ps) (sc:zj N ps (zh st)) (len:∀ vs H Q E,sp vs H Q E->vs.length=ps.length)
  (hbody:∀ (f:Addr) (cdv:Value) (A:Around) (outer:List Env) (s:Shared) (H:Hp) (vs:List V) (Q:VK) (E:XK),Room k (A.deeper (envOfC x (zh st) s.heap.objs.size f cdv))->sp vs H Q E ->
   ∃ t,PSs (zaK (CXX P w) P w K mg base N x (zh st) f cdv A outer s H E) (zaz st) t/\t { nx:=fun _ H'=>Q .non H',rt:=Q } (start N vs) H):zoS P w K mg base (k+1) x ps sp:=by
 obtain ⟨f,fd,F,hm,hb⟩:=S.ex
 have kp:=F.kp
 obtain ⟨oc,od,kV,doc,pm,an,cdv,ct,osl,rfl,lk,hcd⟩:=F.ex
 exact ⟨f,_,zll lk hcd sc len (hbody f cdv),hm,kp,hb⟩
end
section
variable {X:Cx} {x:Str} {p pos:Pos} {e:Expr} {es:List Expr} {t:TA} {j k:Nat} {ps:List Str} {sp:Sp}
theorem zsw {E:XK} (D:zoS X.prog X.w X.K X.mg X.base j x ps sp) (hr:Room k X.A) (hx:Passes (CXX X.prog X.w) X E) (ha:PA X (e::es) t) (hg:Gl X x:=by rfl) (hj:j<=k:=by decide) (hdb:(x == ("__debug__" : Str))=false:=by decide)
  (he:starEach (e::es) X.env=(false,eval e X.env)::starEach es X.env:=by rfl) (hpl:(backTo pos (starEach es X.env)).any (·.1)=false:=by rfl) :
  PE X (.Call (.Name x p) (e::es) [] pos) (zlm sp [] E t):=by
 obtain ⟨f,fd,F,hm,hk,hb⟩:=D.ex
 exact znP F (hr.mono hj) hg hm hk (.all hb) .nil hx ha hdb he hpl
end
noncomputable def bmV:List Value:=[.type "ValueError", .type "Exception", .type "BaseException", .type "object"]
noncomputable def cA (K:W.Frag) (x:Str):Addr:=match PySem.W.nsIn K mainGlobals x with
 | some (some (.ref C))=>C
 | _=>0
theorem zba {K:W.Frag} {x:Str} {C:Addr} (e:PySem.W.nsIn K mainGlobals x=some (some (.ref C))):cA K x=C:=by unfold cA;rw[e]
structure XK1 (K:W.Frag) (C:Addr):Prop where
 ga:PySem.W.findIn K (.ref C) "__getattribute__" = some (some (.builtin "BaseException.__getattribute__"))
 gh:PySem.W.findIn K (.ref C) "__getattr__" = some none
 cl:PySem.W.findIn K (.ref C) "__class__" = some (some (.builtin "object.__class__"))
 gt:PySem.W.specialIn K (.builtin "object.__class__") "__get__" = some (some (.builtin "getset_descriptor.__get__"))
 tk:PySem.W.takesIn K (.builtin "object.__class__")=some true
 ob:PySem.W.mroIn K C (.type "object")=some true
 be:PySem.W.subIn K (.ref C) (.type "BaseException")=some true
structure XK2 (K:W.Frag) (C:Addr):Prop where
 ok:PySem.W.excIn K C bmV "ValueError.__new__" = true
theorem zr2 {K:W.Frag} {h:Heap} {C:Addr} {bmB:List Value} {newId:String} (X:K.In h) (q:PySem.W.excIn K C bmB newId=true) :
  ∃ bm N nm qn bs hdct sn sub ab col dd k0 k1 k2 k3 k5 mN,h.get? C=some (excClassObj nm qn C N bs bm hdct sn sub ab col dd k0 k1 k2 k3 k5 newId)/\h.Ns N mN/\mN "__init__" = none/\OwnTail h bmB bm:=by
 unfold PySem.W.excIn at q
 split at q
 ·rename_i dd cd sl ho
  split at q
  ·rename_i C' bm k0 k1 k2 k3 n k5 hm hs
   simp only[Bool.and_eq_true,Bool.not_eq_true',beq_iff_eq] at q
   obtain ⟨⟨⟨⟨⟨e1,e2⟩,hdel⟩,ht⟩,hok⟩,hni⟩:=q
   subst e1 e2
   obtain ⟨nm,bs,mro,ns,qn,hd,sn,sub,ab,col,del⟩:=cd
   dsimp only at hm hdel hok hni
   subst hm hdel
   obtain ⟨l⟩:=sl
   have hl:l=[k0,k1,k2,k3,some (.builtin n),k5]:=hs
   subst hl
   exact ⟨bm,ns,nm,qn,bs,hd,sn,sub,ab,col,dd,k0,k1,k2,k3,k5,_,X _ _ ho,.of_isNs (PySem.W.isNs_of_in X hok),PySem.W.nsMap_none_of_in X hok hni,PySem.W.tail_of_in X ht⟩
  ·cases q
 ·cases q
section
variable {X:Cx} {x:Str} {np cpos pos:Pos} {e0:Expr} {rest:List Expr} {t:TA} {E:XK}
def zsk (C:Addr) (E:XK) (t:TA):TS:=fun _ σ H=>t σ H fun vs H1=>vs.length<=sizeLine/\E (.ref C) none H1
theorem ziE (hm:X.mg x=some (.ref (cA X.K x))) (xk:XK2 X.K (cA X.K x)) (hE:∀ pins σ H s h' e vs,Inv X pins σ H s->Heap.MadeExcOf s.heap h' e (.ref (cA X.K x)) vs->E (.ref (cA X.K x)) none H->X.xe (.ref e) { s with heap:=h' })
  (ha:PA X (e0::rest) t) (hc:X.calm=true:=by rfl) (hg:Gl X x:=by rfl) (hd:(x == ("__debug__" : Str))=false:=by decide) (he:starEach (e0::rest) X.env=(false,eval e0 X.env)::starEach rest X.env:=by rfl)
  (hpl:(backTo cpos (starEach rest X.env)).any (·.1)=false:=by rfl):PS X (.Raise (some (.Call (.Name x np) (e0::rest) [] cpos)) none pos) (zsk (cA X.K x) E t):=by
 intro pins s σ H D I h
 obtain ⟨bm,N,nm,qn,bs,hdct,sn,sub,ab,col,dd,k0,k1,k2,k3,k5,mN,hC,hN,hni,T⟩:=zr2 I.ok.mod.kin xk.ok
 refine wpAny_Raise_call_subT (C:=cA X.K x) (nm:=nm) (q:=qn) (N:=N) (bs:=bs) (bm:=bm) (hdct:=hdct) (sn:=sn) (sub:=sub) (ab:=ab) (col:=col) (dd:=dd) (k0:=k0) (k1:=k1) (k2:=k2) (k3:=k3) (k5:=k5)
  PySem.F.excBase_ValueError (mN:=mN) (T.hasType PySem.F.excBase_ValueError.hasBase) (I.ok.hd hc) (by rw[he];show (false || (backTo cpos (starEach rest X.env)).any (·.1))=false;rw[hpl];rfl) hni (zcF I hg hm ⟨rfl,?_⟩ hd)
 have h2:=ha cpos pins s σ H _ I h
 rw[he] at h2 ⊢
 refine Calls.evalArgs_plain (thn h2 fun us s1 hq=>?_)
 obtain ⟨vs,H1,I1,r,hz,hE1⟩:=hq
 exact ⟨rfl,by rw[<-r.length];exact hz,I1.bk _ _ hC,hN.keeps I1.bk,T.keeps I1.bk,fun h' e hx=>hE pins σ H1 s1 h' e us I1 hx hE1⟩
end
noncomputable def zdp (e:Addr) (C:Value):HO:=.ext fun h=>∃ o vs,h.get? e=some o/\o.cls=C/\o.data=.fields vs
section
open PySem.Builtin PySem.Builtin.ObjectAttr PySem.Builtin.Getset_descriptor
variable {prog:Program} {w:World} {A:Around} {E:Value->Shared->Prop} {s:Shared} {K:W.Frag} {e C:Addr} {oe:Obj}
theorem xtype {M:Model} {h:Heap} (hx:h.get? e=some oe) (hc:oe.cls=.ref C):PySem.W.Looks M h (typeOf (.ref e)) (.ref C):=hc ▸ (PySem.W.Looks.ld hx).andThen .now
theorem zoQ {R:Result->Shared->Prop} {tp:Value} (X:K.In s.heap) (hx:s.heap.get? e=some oe) (hc:oe.cls=.ref C) (hm:PySem.W.mroIn K C (.type "object")=some true) (h:R (.ok (.ret (.ref C))) s) :
  codeAny (model prog w) A (.call (.builtin "getset_descriptor.__get__") ⟨[.builtin "object.__class__", .ref e,tp],[]⟩) R s:=by
 obtain ⟨hh,g,dr,t,os⟩:=s
 have M0:=xtype (M:=model prog w) hx hc
 have M1:=PySem.W.looks_mroIn (M:=model prog w) X hm
 refine codeAny_call_builtin PySem.W.KF.slot_gs.plain PySem.W.KF.entry_gs (PySem.W.KF.slot_gs.check _ _ _ _ _ _ _ _ PySem.W.KF.type_class (PySem.W.KF.args_gs _ _ _) ?_)
 unfold Builtin.«getset_descriptor.__get__» descrGet
 rw[PySem.W.dga_obj]
 refine wpAny_bind (wpAny_pure ?_)
 unfold descrGetter descrCheckInstance descrNameAndClass isInstance
 simp only[PySem.W.KF.owner_class]
 repeat lk
 refine ⟨Code.quiet_builtin _ (by decide +kernel),codeAny_builtin PySem.W.KF.entry_class ?_⟩
 unfold Builtin.«object.__class__» shownTypeOf
 repeat lk
 exact h
theorem xfind {M:Model} {h:Heap} (X:K.In h) (Z:XK1 K C):PySem.W.Looks M h (find (.ref e) (.ref C) "__class__") (.bind (.builtin "getset_descriptor.__get__") (.builtin "object.__class__")):=by
 intro A Q E s k q
 have X':=X.keeps k
 obtain ⟨hh,g,d,t,os⟩:=s
 have L1:=PySem.W.looks_findIn (M:=M) X' Z.cl
 have L2:=PySem.W.looks_specialIn (M:=M) X' Z.gt
 have L3:=PySem.W.looks_takesIn (M:=M) X' Z.tk
 unfold find
 refine wpAny_bind (L1.at (wpAny_bind (L2.at (wpAny_bind (wpAny_bind (L3.at ?_))))))
 repeat lk
 exact q
theorem znq {Q:Option Value->Shared->Prop} (X:K.In s.heap) (Z:XK1 K C) (hx:s.heap.get? e=some oe) (hc:oe.cls=.ref C) (h:Q (some (.ref C)) { s with toks:=s.toks+1 }) :
  wpAny (model prog w) A (getAttr? (.ref e) "__class__") Q E s:=by
 obtain ⟨hh,g,d,t,os⟩:=s
 have L0:=xtype (M:=model prog w) hx hc
 have L1:=PySem.W.looks_findIn (M:=model prog w) X Z.ga
 have L2:=PySem.W.looks_findIn (M:=model prog w) X Z.gh
 have L3:=xfind (M:=model prog w) (e:=e) X Z
 have L4:=PySem.W.looks_subIn (M:=model prog w) X Z.be
 have hk:builtinKind "BaseException.__getattribute__" = some .slot:=by decide +kernel
 have hsplit:splitId "BaseException.__getattribute__" = some ("BaseException", "__getattribute__"):=by decide +kernel
 unfold getAttr? getAttrBy? getAttrBy
 refine wpAny_bind (wpAny_mkText (wpAny_bind (wpAny_attempt (wpAny_holding (wpAny_bind (L0.at (wpAny_bind (L1.at ?_))))))))
 have hne:(Value.builtin "BaseException.__getattribute__" == Value.builtin "object.__getattribute__")=false:=by decide +kernel
 dsimp only
 rw[if_neg (by rw[hne,Bool.and_false];exact Bool.false_ne_true)]
 unfold getAttrByItsOwn hookBefore
 rw[if_pos (show onTheHeap (Value.ref C)=true from rfl)]
 refine wpAny_bind (L2.at ?_)
 refine wpAny_bind (wpAny_attempt (wpAny_holding ?_))
 unfold callGetattribute boundAndCalled
 rw[if_neg (show ¬ (false && onTheHeap (Value.builtin "BaseException.__getattribute__"))=true from Bool.false_ne_true)]
 refine wpAny_bind (wpAny_of_eq (PySem.F.attr_ValueError.ga.bind (.ref e)) ?_)
 refine wpAny_call (codeAny_call_builtin PySem.F.attr_ValueError.ga.plain PySem.F.entry_bexc_ga ?_)
 have ha:=F.args_bexc_ga (.ref e) (.str "__class__" t)
 simp only[checkBuiltinCall,hk,hsplit]
 unfold isInstance
 repeat (any_goals (first | with_reducible refine PySem.W.Looks.at (by assumption) ?_ | wp_step))
 refine zoQ (s:=⟨hh,g,d,t+1,os⟩) X hx hc Z.ob (wpAny_pure ?_)
 show wpAny _ _ (handedOut (.ref C)) _ _ _
 repeat (any_goals (first | assumption | wp_step))
end
section
variable {K:W.Frag} {e C:Addr}
theorem zjb {v:Value} {b:Bool} (h:PySem.W.mroIn K C v=some b):∃ c d cd sl,K.lookup C=some ⟨c,d,.cls cd,sl⟩:=by
 unfold PySem.W.mroIn PySem.W.clsIn at h
 obtain ⟨cd,hc,_⟩:=Option.bind_eq_some_iff.mp h
 split at hc
 ·rename_i c d cd' sl ho
  exact ⟨c,d,cd',sl,ho⟩
 ·cases hc
theorem zqJ (Z:XK1 K C):PySem.W.KitX K (.ref e) (.ref C) (fun h=>∃ o vs,h.get? e=some o/\o.cls=.ref C/\o.data=.fields vs) where
 ty:=fun M h X p=>by
  obtain ⟨o,vs,h1,h2,_⟩:=p
  exact xtype h1 h2
 it:=fun M h X _=>by
  obtain ⟨c,d,cd,sl,ho⟩:=zjb Z.ob
  intro A Q E s k q
  unfold isType loadHead
  exact wpAny_bind (wpAny_loadPart (k _ _ (X _ _ ho)) (wpAny_pure q))
 ne:=fun h tp dd its n sl X htp=>by
  obtain ⟨c,d,cd,sl',ho⟩:=zjb Z.ob
  refine Bool.eq_false_iff.mpr fun q=>?_
  have e:C=tp:=Value.ref.inj (beq_iff_eq.mp q)
  subst e
  have z:=(X _ _ ho).symm.trans htp
  cases z
 ca:=fun X p k=>by
  obtain ⟨o,vs,h1,h2,_⟩:=p
  exact znq X Z h1 h2 k
end
section
variable {X:Cx}
end
noncomputable abbrev Cx.held (X:Cx) (e:Addr):Cx:={ X with A:=X.A.mark (some (.ref e)),calm:=false,xe:=fun _ _=>False }
section
variable {X:Cx} {pins:List (Addr × Obj)} {σ:St} {H:Hp} {s:Shared} {e:Addr}
theorem Inv.held (I:Inv X pins σ H s) (e:Addr):Inv (X.held e) pins σ H s :=
 ⟨⟨I.ok.mod,I.ok.kind,I.ok.glob,I.ok.blt,I.ok.above,I.ok.inj,I.ok.has,I.ok.cab,fun z=>(Bool.false_ne_true z).elim,I.ok.frames,I.ok.stk,I.ok.exf,I.ok.bs,I.ok.bsz,I.ok.noex,I.ok.exfs,I.ok.funs,I.ok.frf⟩,
  I.os,I.bare,I.base,I.loc,I.cell,I.free,I.freeC,I.pin,I.hok,I.len⟩
theorem Inv.unheld (ok:X.Ok) (I:Inv (X.held e) pins σ H s):Inv X pins σ H s:=⟨ok,I.os,I.bare,I.base,I.loc,I.cell,I.free,I.freeC,I.pin,I.hok,I.len⟩
theorem Inv.track {o:HO} (I:Inv X pins σ H s) (hn:H e=none) (h0:X.s₀.heap.get? e=none) (hL:e≠X.env.locals) (hC:∀ x c,X.env.cells.lookup x=some c->c≠e) (hp:∀ p∈X.pn++pins,p.1≠e)
  (new:zad X.prog X.w (upd H e o) s.heap e o):Inv X pins σ (upd H e o) s:=by
 refine ⟨I.ok,I.os,I.bare,⟨I.base.keep,I.base.slot,fun b u q n hx=>?_,I.base.there,fun b xs q=>?_,fun b u v q=>?_,fun b ps q=>?_⟩,I.loc,I.cell,?_,fun x c q=>?_,fun p q=>?_,fun b u q=>?_,I.len⟩
 ·rw[zi (fun z=>by rw[z,h0] at q;cases q)]
  exact I.base.free b u q n hx
 ·have z:=I.base.tups b xs q
  rw[zi (zU z hn)];exact z
 ·have z:=I.base.frzs b u v q
  rw[zi (zU z hn)];exact z
 ·obtain ⟨more,z⟩:=I.base.tbls b ps q
  exact ⟨more,by rw[zi (zU z hn)];exact z⟩
 ·rw[zi (Ne.symm hL)];exact I.free
 ·rw[zi (hC x c q)];exact I.freeC x c q
 ·obtain ⟨a,b,c,d,f⟩:=I.pin p q
  exact ⟨a,by rw[zi (hp p q)];exact b,c,d,f⟩
 ·by_cases hb:b=e
  ·subst hb
   rw[ze] at q;cases q
   exact new
  ·rw[zi hb] at q
   exact (I.hok b u q).stay (fun _ _ _ z=>z) (fun c z=>by rw[zi (zU z hn)];exact z) fun c xs z=>by rw[zi (zU z hn)];exact z
theorem Inv.zpS {h':Heap} {m':Str->Option Value} {t':Nat} (I:Inv X pins σ H s) (hn:h'.Ns X.env.locals m') (hs:Heap.SameBut X.env.locals s.heap h'):Inv X pins (yae X.N.length none) H { s with heap:=h',toks:=t' }:=by
 have neL:∀ b o,X.s₀.heap.get? b=some o->b≠X.env.locals:=fun b o q=>ycv (ycw (ydl q) I.ok.above)
 refine ⟨I.ok,I.os,I.bare,⟨fun b o q n hb hx=>(hs.2 b (neL b o q)).trans (I.base.keep b o q n hb hx),fun b o q n hb hx=>?_,I.base.free,fun b o q hx=>?_,I.base.tups,I.base.frzs,I.base.tbls⟩,⟨m',hn,fun i x v e1 e2 e3=>?_⟩,fun x c q=>?_,I.free,I.freeC,fun p hp=>?_,fun a o q=>?_,by rw[yax]⟩
 ·obtain ⟨sl,e1⟩:=I.base.slot b o q n hb hx
  exact ⟨sl,(hs.2 b (neL b o q)).trans e1⟩
 ·obtain ⟨o',e1⟩:=I.base.there b o q hx
  exact ⟨o',(hs.2 b (neL b o q)).trans e1⟩
 ·rw[ybz] at e2
  split at e2 <;> cases e2
 ·obtain ⟨v,o,ho,hd⟩:=I.cell x c q
  exact ⟨v,o,(hs.2 c (I.cne x c q)).trans ho,hd⟩
 ·obtain ⟨a,b,c,d,f⟩:=I.pin p hp
  exact ⟨(hs.2 p.1 c).trans a,b,c,d,f⟩
 ·refine (I.hok a o q).stay (fun b u hb r=>(hs.2 b ?_).trans r) (fun _ z=>z) fun _ _ z=>z
  intro z
  have t:H b≠none:=by
   rcases hb with rfl | hb
   ·rw[q];exact fun z=>nomatch z
   ·rw[hb];exact fun z=>nomatch z
  exact t (by rw[z];exact I.free)
end
section
variable {K:W.Frag} {h:Heap} {mg:Str->Option Value} {x y:Str} {C D:Addr} {v:Bool} {n:String}
theorem zaG (X:K.In h) (a:PySem.W.nsIn K mainGlobals x=some (some (.ref C))):PySem.W.nsIn K mainGlobals x=some (some (.ref C)):=a
theorem zbS (X:K.In h) (G:h.Ns mainGlobals mg) (a:PySem.W.nsIn K mainGlobals x=some (some (.ref C))):mg x=some (.ref (cA K x)):=by
 rw[zba a];exact PySem.W.mg_of X G a
theorem zrb (a:PySem.W.nsIn K mainGlobals x=some (some (.ref C))) (q:PySem.W.excIn K C [.type "ValueError", .type "Exception", .type "BaseException", .type "object"] "ValueError.__new__" = true):XK2 K (cA K x):=by
 rw[zba a];exact ⟨q⟩
theorem zrd (a:PySem.W.nsIn K mainGlobals x=some (some (.ref C))) (q1:PySem.W.findIn K (.ref C) "__getattribute__" = some (some (.builtin "BaseException.__getattribute__"))) (q2:PySem.W.findIn K (.ref C) "__getattr__" = some none)
  (q3:PySem.W.findIn K (.ref C) "__class__" = some (some (.builtin "object.__class__"))) (q4:PySem.W.specialIn K (.builtin "object.__class__") "__get__" = some (some (.builtin "getset_descriptor.__get__")))
  (q5:PySem.W.takesIn K (.builtin "object.__class__")=some true) (q6:PySem.W.mroIn K C (.type "object")=some true) (q7:PySem.W.subIn K (.ref C) (.type "BaseException")=some true):XK1 K (cA K x):=by
 rw[zba a];exact ⟨q1,q2,q3,q4,q5,q6,q7⟩
theorem zdQ (a:PySem.W.nsIn K mainGlobals x=some (some (.ref C))) (b:PySem.W.nsIn K mainGlobals y=some (some (.ref D))) (q:PySem.W.kitOne K (.ref C) (.ref D)=some v):PySem.W.kitOne K (.ref (cA K x)) (.ref (cA K y))=some v:=by
 rw[zba a,zba b];exact q
theorem zhU (a:PySem.W.nsIn K mainGlobals x=some (some (.ref C))) (q:PySem.W.kitOne K (.ref C) (.type n)=some v):PySem.W.kitOne K (.ref (cA K x)) (.type n)=some v:=by
 rw[zba a];exact q
theorem zpx (a:PySem.W.nsIn K mainGlobals x=some (some (.ref C))) (b:PySem.W.nsIn K mainGlobals y=some (some (.ref D))) (q1:PySem.W.subIn K (.ref D) (.type "BaseException")=some true)
  (q2:PySem.W.isClsIn K D=true) (q3:PySem.W.typeIn K (.ref D)=some (.type "type")) (q4:PySem.W.subIn K (.ref C) (.ref D)=some true):PySem.W.exmOne K (.ref (cA K x)) (.ref (cA K y))=some true:=by
 rw[zba a,zba b]
 unfold PySem.W.exmOne PySem.W.kitCls
 unfold PySem.W.isClsIn at q2
 rw[q1,if_pos (by decide)]
 dsimp only
 rw[q2,q3,if_pos (by decide)]
 exact q4
end
section
variable {P:Program} {w:World} {K:W.Frag} {mg:Str->Option Value} {base:Heap} {x:Str} {st:Stmt} {N ps:List Str} {k:Nat} {sp:Sp}
end
section
variable {X:Cx} {x:Str} {p pos:Pos} {e:Expr} {es:List Expr} {t:TA} {j k:Nat} {ps:List Str} {sp:Sp}
end
theorem zgn {xs:List V} {k:Int} (h0:0<=k) (h:k<(xs.length:Int)):∃ v,atI xs k=some v/\v∈xs:=by
 have hk:k.toNat<xs.length:=by ac_rfl
 have q:atI xs ((k.toNat:Nat):Int)=some xs[k.toNat]:=zbL (yaa hk)
 rw[show ((k.toNat:Nat):Int)=k by ac_rfl] at q
 exact ⟨_,q,yci hk⟩
theorem zac {v:V} {xs:List V} {p:V->Prop} (h:p v) (t:∀ x∈xs,p x):∀ x∈v::xs,p x:=fun x hx=>by
 rcases yak.mp hx with rfl | hx
 ·exact h
 ·exact t x hx
theorem ziO {p:V->Prop}:∀ x∈([]:List V),p x:=fun x hx=>by cases hx
theorem zt {H H':Hp} {a:Addr} (s:Same H H') (h:H' a=none):H a=none:=by
 cases q:H a with
 | none=>rfl
 | some o=>rw[s a o q] at h;cases h
theorem zD {H H':Hp} {l:Addr} {o:HO} (s:Same H H') (h:H l=none):Same H (upd H' l o):=fun b u q=>by
 rw[zi (zU q h)];exact s b u q
theorem ziy:∀ ns:List Int,PyData.canLayAll0 (ns.map PyData.int)=true
 | []=>by simp[PyData.canLayAll0]
 | n::ns=>by simp[PyData.canLayAll0,PyData.canLay0,ziy ns]
theorem zjm:∀ ns:List Int,PyData.depthAll (ns.map PyData.int)=0
 | []=>by simp[PyData.depthAll]
 | n::ns=>by simp[PyData.depthAll,PyData.depth,zjm ns]
theorem shaped_ints (ns:List Int):SeqAt.shaped (.list (ns.map PyData.int))=true:=by
 simp[SeqAt.shaped,PyData.canLay0,PyData.depth,ziy,zjm]
theorem ziu:∀ ns:List Int,PyData.eqvAll (ns.map PyData.int) (ns.map PyData.int)=true
 | []=>by simp[PyData.eqvAll]
 | n::ns=>by simp[PyData.eqvAll,PyData.eqv,ziu ns]
theorem zmD (ns:List Int):PyData.eqv (.list (ns.map PyData.int)) (.list (ns.map PyData.int))=true:=by
 simp[PyData.eqv,ziu]
end L2
namespace L2
open PySem PySem.W PyProof.Rows
def zF (t u:TS):TS:=zP t u
theorem zf {X:Cx} {st:Stmt} {rest:List Stmt} {t u:TS} (h1:PS X st t) (h2:PSs X rest u):PSs X (st::rest) (zF t u):=zqu h1 h2
def Mkd (p:Prop):Prop:=p
variable {t1 t2 t3 t4 t5 t6 t7 t8 t9 t10:TS} {D:Ends} {σ:St} {H:Hp}
theorem sqG (h:Mkd (zF t1 t2 D σ H)):zF t1 t2 D σ H:=h
theorem zt9 (h:let v1:=t2;zP t1 v1 D σ H):Mkd ((zF t1 t2) D σ H):=h
theorem ztO (h:let v2:=t3;let v1:=zP t2 v2;zP t1 v1 D σ H):Mkd ((zF t1 (zF t2 t3)) D σ H):=h
theorem zub (h:let v3:=t4;let v2:=zP t3 v3;let v1:=zP t2 v2;zP t1 v1 D σ H):Mkd ((zF t1 (zF t2 (zF t3 t4))) D σ H):=h
theorem ztW (h:let v4:=t5;let v3:=zP t4 v4;let v2:=zP t3 v3;let v1:=zP t2 v2;zP t1 v1 D σ H):Mkd ((zF t1 (zF t2 (zF t3 (zF t4 t5)))) D σ H):=h
theorem ztQ (h:let v5:=t6;let v4:=zP t5 v5;let v3:=zP t4 v4;let v2:=zP t3 v3;let v1:=zP t2 v2;zP t1 v1 D σ H):Mkd ((zF t1 (zF t2 (zF t3 (zF t4 (zF t5 t6))))) D σ H):=h
theorem zug (h:let v6:=t7;let v5:=zP t6 v6;let v4:=zP t5 v5;let v3:=zP t4 v4;let v2:=zP t3 v3;let v1:=zP t2 v2;zP t1 v1 D σ H):Mkd ((zF t1 (zF t2 (zF t3 (zF t4 (zF t5 (zF t6 t7)))))) D σ H):=h
theorem zt1 (h:let v7:=t8;let v6:=zP t7 v7;let v5:=zP t6 v6;let v4:=zP t5 v5;let v3:=zP t4 v4;let v2:=zP t3 v3;let v1:=zP t2 v2;zP t1 v1 D σ H):Mkd ((zF t1 (zF t2 (zF t3 (zF t4 (zF t5 (zF t6 (zF t7 t8))))))) D σ H):=h
theorem ztI (h:let v8:=t9;let v7:=zP t8 v8;let v6:=zP t7 v7;let v5:=zP t6 v6;let v4:=zP t5 v5;let v3:=zP t4 v4;let v2:=zP t3 v3;let v1:=zP t2 v2;zP t1 v1 D σ H):Mkd ((zF t1 (zF t2 (zF t3 (zF t4 (zF t5 (zF t6 (zF t7 (zF t8 t9)))))))) D σ H):=h
theorem zs5 (h:let v9:=t10;let v8:=zP t9 v9;let v7:=zP t8 v8;let v6:=zP t7 v7;let v5:=zP t6 v6;let v4:=zP t5 v5;let v3:=zP t4 v4;let v2:=zP t3 v3;let v1:=zP t2 v2;zP t1 v1 D σ H):Mkd ((zF t1 (zF t2 (zF t3 (zF t4 (zF t5 (zF t6 (zF t7 (zF t8 (zF t9 t10))))))))) D σ H):=h
inductive Ee4 {α0 α1 α2 α3:Type} (p:α0->α1->α2->α3->Prop):Prop | mk (x0:α0) (x1:α1) (x2:α2) (x3:α3) (h:p x0 x1 x2 x3):Ee4 p
inductive Ee5 {α0 α1 α2 α3 α4:Type} (p:α0->α1->α2->α3->α4->Prop):Prop | mk (x0:α0) (x1:α1) (x2:α2) (x3:α3) (x4:α4) (h:p x0 x1 x2 x3 x4):Ee5 p
inductive Ee6 {α0 α1 α2 α3 α4 α5:Type} (p:α0->α1->α2->α3->α4->α5->Prop):Prop | mk (x0:α0) (x1:α1) (x2:α2) (x3:α3) (x4:α4) (x5:α5) (h:p x0 x1 x2 x3 x4 x5):Ee6 p
inductive Ee8 {α0 α1 α2 α3 α4 α5 α6 α7:Type} (p:α0->α1->α2->α3->α4->α5->α6->α7->Prop):Prop | mk (x0:α0) (x1:α1) (x2:α2) (x3:α3) (x4:α4) (x5:α5) (x6:α6) (x7:α7) (h:p x0 x1 x2 x3 x4 x5 x6 x7):Ee8 p
inductive Aa3 (a0 a1 a2:Prop):Prop | mk (h0:a0) (h1:a1) (h2:a2):Aa3 a0 a1 a2
inductive Aa4 (a0 a1 a2 a3:Prop):Prop | mk (h0:a0) (h1:a1) (h2:a2) (h3:a3):Aa4 a0 a1 a2 a3
inductive Aa5 (a0 a1 a2 a3 a4:Prop):Prop | mk (h0:a0) (h1:a1) (h2:a2) (h3:a3) (h4:a4):Aa5 a0 a1 a2 a3 a4
inductive Aa6 (a0 a1 a2 a3 a4 a5:Prop):Prop | mk (h0:a0) (h1:a1) (h2:a2) (h3:a3) (h4:a4) (h5:a5):Aa6 a0 a1 a2 a3 a4 a5
inductive Aa7 (a0 a1 a2 a3 a4 a5 a6:Prop):Prop | mk (h0:a0) (h1:a1) (h2:a2) (h3:a3) (h4:a4) (h5:a5) (h6:a6):Aa7 a0 a1 a2 a3 a4 a5 a6
inductive Aa8 (a0 a1 a2 a3 a4 a5 a6 a7:Prop):Prop | mk (h0:a0) (h1:a1) (h2:a2) (h3:a3) (h4:a4) (h5:a5) (h6:a6) (h7:a7):Aa8 a0 a1 a2 a3 a4 a5 a6 a7
inductive zsR (a0 a1 a2 a3 a4 a5 a6 a7 a8 a9 a10 a11:Prop):Prop | mk (h0:a0) (h1:a1) (h2:a2) (h3:a3) (h4:a4) (h5:a5) (h6:a6) (h7:a7) (h8:a8) (h9:a9) (h10:a10) (h11:a11):zsR a0 a1 a2 a3 a4 a5 a6 a7 a8 a9 a10 a11
end L2
namespace L2
open PySem PySem.Spec PyProof.Rows
section
variable {X:Cx}
end
theorem zpP (a d:Value):argsOk "min" ⟨[a],[("default", d)]⟩:=by unfold argsOk;kernel_rfl
section
variable {prog:Program} {w:World} {A:Around} {R:Result->Shared->Prop}
theorem zrM {it p S:Addr} {kw:List (Str × Value)} {its:List Value} {ns:List Int} (hh:A.handled=none) (n1:S≠it) (n2:it≠p) (n3:S≠p) (len:its.length=ns.length) (val:∀ (i:Nat) n,ns[i]?=some n->∃ t,its[i]?=some (.int n t)) :
  ∀ (k i:Nat) (s:Shared) (m:Int) (tk:Tok) (c:Nat),its.length-i=k->i<=its.length->s.heap.IsListIter it p i->s.heap.IsList p its.toArray ->
   s.heap.get? S=some { cls:=.type "list", dict:=none,data:=.seq #[.int m tk,.int m tk] c,slots:=#[] }->m∈ns->(∀ (j:Nat) n,j<i->ns[j]?=some n->m<=n) ->
   (∀ M t h' tk',M∈ns->(∀ a∈ns,M<=a)->(∀ b o,b≠it->b≠S->s.heap.get? b=some o->h'.get? b=some o)->R (.ok (.ret (.int M t))) { s with heap:=h',toks:=tk' }) ->
   codeAny (model prog w) A (.builtin "min.loop" ⟨[.ref it,.none,.ref S],kw⟩) R s:=by
 intro k
 induction k with
 | zero =>
  intro i s m tk c hk hi hit hl hS hm hle hR
  refine codeAny_builtin F.entry_min_loop ?_
  rw[Around.under_plainId F.plain_min_loop _]
  refine wpAny_bind (m:=seqItems? (.ref S)) (wpAny_seqItems hS rfl ?_)
  refine wpAny_bind (m:=tryCatch (pyNext (.ref it)) _) (wpAny_tryCatch ?_)
  refine wpAny_pyNext_list_end (A:=A.in1) hh hit hl (by simp;ac_rfl) fun h' he=>?_
  have hS':=he S _ n1 hS
  refine wpAny_bind (m:=updateSeq S fun _=>#[]) (wpAny_updateSeq hS' rfl (wpAny_bind (wpAny_letGo (wpAny_pure ?_))))
  refine hR m tk _ _ hm (fun a ha=>?_) fun b o b1 b2 e=>(ydn _ _ (Ne.symm b2)).trans (he b o b1 e)
  obtain ⟨j,hj⟩:=ybq.mp ha
  exact hle j a (by have:=(yad.mp hj).1;ac_rfl) hj
 | succ k ih =>
  intro i s m tk c hk hi hit hl hS hm hle hR
  have hlt:i<its.length:=by ac_rfl
  obtain ⟨n,hn⟩:∃ n,ns[i]?=some n:=⟨_,yaa (by ac_rfl)⟩
  obtain ⟨t,ht⟩:=val i n hn
  refine codeAny_builtin F.entry_min_loop ?_
  rw[Around.under_plainId F.plain_min_loop _]
  refine wpAny_bind (m:=seqItems? (.ref S)) (wpAny_seqItems hS rfl ?_)
  refine wpAny_bind (m:=tryCatch (pyNext (.ref it)) _) (wpAny_tryCatch ?_)
  refine wpAny_pyNext_list_item (A:=A.in1) hit hl (x:=.int n t) (by simpa using ht) fun h' hit' sb=>?_
  have hS':=(sb.2 S n1).trans hS
  have hl':h'.IsList p its.toArray:=by
   obtain ⟨o,e,r⟩:=hl
   exact ⟨o,(sb.2 p (Ne.symm n2)).trans e,r⟩
  have nm:(toString "min" ++ toString ".loop" : String) = "min.loop" := by decide
  refine wpAny_bind (m:=tryCatch (holding [.int n t,.int n t] _) _) (wpAny_tryCatch (wpAny_holding (wpAny_bind (m:=compareOp .Lt (.int n t) (.int m tk)) (wpAny_lt_int ?_))))
  refine wpAny_bind (wpAny_holding (wpAny_truthy_bool (wpAny_bind (wpAny_letGo (wpAny_pure ?_)))))
  by_cases hb:n<m
  ·rw[decide_eq_true hb]
   simp only[if_true]
   refine wpAny_bind (wpAny_updateSeq hS' rfl (wpAny_bind (wpAny_letGo ?_)))
   rw[nm]
   refine wpAny_pure ⟨plainId_quiet F.plain_min_loop _,ih (i+1) _ n t _ (by ac_rfl) hlt ?_ ?_ (ydo _ hS' rfl) (yah hn) (fun j a hj ha=>?_) fun M t' h'' tk'' hM hl2 kp=>?_⟩
   ·obtain ⟨o,e,r⟩:=hit'
    exact ⟨o,(ydn _ _ n1).trans e,r⟩
   ·obtain ⟨o,e,r⟩:=hl'
    exact ⟨o,(ydn _ _ n3).trans e,r⟩
   ·rcases Nat.lt_succ_iff_lt_or_eq.mp hj with hj | rfl
    ·have:=hle j a hj ha
     ac_rfl
    ·rw[hn] at ha
     cases ha
     exact ydu _
   ·exact hR M t' h'' tk'' hM hl2 fun b o b1 b2 e=>kp b o b1 b2 ((ydn _ _ (Ne.symm b2)).trans ((sb.2 b b1).trans e))
  ·rw[decide_eq_false hb]
   simp only[Bool.false_eq_true,if_false]
   refine wpAny_bind (wpAny_letGo ?_)
   rw[nm]
   refine wpAny_pure ⟨plainId_quiet F.plain_min_loop _,ih (i+1) _ m tk c (by ac_rfl) hlt hit' hl' hS' hm (fun j a hj ha=>?_) fun M t' h'' tk'' hM hl2 kp=>?_⟩
   ·rcases Nat.lt_succ_iff_lt_or_eq.mp hj with hj | rfl
    ·exact hle j a hj ha
    ·rw[hn] at ha
     cases ha
     ac_rfl
   ·exact hR M t' h'' tk'' hM hl2 fun b o b1 b2 e=>kp b o b1 b2 ((sb.2 b b1).trans e)
noncomputable def ztl (prog:Program) (w:World) (A:Around) (Q:Value->Shared->Prop) (E:Value->Shared->Prop):PySem.Fin->Shared->Prop:=fun fin s'=>match fin with
 | .done f=>(match (Except.ok f:Result) with | .ok (.ret v)=>Q v s' | .ok _=>False | .error e=>E e s') | .again c'=>c'.quiet=true/\codeAny (model prog w) A c' (fun r s'=>match r with | .ok (.ret v)=>Q v s' | .ok _=>False | .error e=>E e s') s'
theorem znA {E:Value->Shared->Prop} {s:Shared} {args:List Value} {kw:List (Str × Value)} {Q:Value->Shared->Prop} (ha:argsOk "min" ⟨args,kw⟩) (hc:wpAny (model prog w) A.in1 (Builtin.«min» ⟨args,kw⟩) (ztl prog w A Q E) E s):wpAny (model prog w) A (call (.builtin "min") args kw) Q E s:=by
 refine wpAny_call (codeAny_call_builtin F.plain_min F.entry_min ?_)
 simp only[checkBuiltinCall,F.kind_min]
 cases hs:Manifest.signature? "min" with
 | none=>exact wpAny_pure hc
 | some sg =>
  rw[argsOk,hs] at ha
  exact wpAny_of_eq (t:=Bind.checkArgs "min" sg ⟨args,kw⟩) ha hc
theorem zoj {E:Value->Shared->Prop} {s:Shared} {p:Addr} {d:Value} {its:List Value} {ns:List Int} {Q:Value->Shared->Prop} (hh:A.handled=none) (hl:s.heap.IsList p its.toArray) (len:its.length=ns.length) (val:∀ (i:Nat) n,ns[i]?=some n->∃ t,its[i]?=some (.int n t))
  (h0:ns=[]->∀ h' tk,(∀ b o,s.heap.get? b=some o->h'.get? b=some o)->Q d { s with heap:=h',toks:=tk })
  (h1:∀ M t h' tk,M∈ns->(∀ a∈ns,M<=a)->(∀ b o,s.heap.get? b=some o->h'.get? b=some o)->Q (.int M t) { s with heap:=h',toks:=tk }) :
  wpAny (model prog w) A (call (.builtin "min") [.ref p] [("default", d)]) Q E s:=by
 have nm:(toString "min" ++ toString ".loop" : String) = "min.loop" := by decide
 refine znA (zpP _ _) ?_
 refine wpAny_bind (m:=Builtin.Builtins.bindParams "min" ["key", "default"] 0 ⟨[],[("default", d)]⟩) (wpAny_of_eq (a:=[none,some d]) rfl ?_)
 refine wpAny_bind (wpAny_pure (wpAny_bind (wpAny_pyIter_list hl (wpAny_bind (wpAny_newObj_type ?_)))))
 rw[nm]
 have pl:p<s.heap.objs.size:=by
  obtain ⟨o,e,_⟩:=hl
  exact ydl e
 have k1:∀ b o,s.heap.get? b=some o->((s.heap.push { cls:=.type "list_iterator", data:=.fields #[.ref p,.int 0 0] }).push { cls:=.type "list", data:=.seq #[] }).get? b=some o:=fun b o e=>ydk _ (ydk _ e)
 have hit:((s.heap.push { cls:=.type "list_iterator", data:=.fields #[.ref p,.int 0 0] }).push { cls:=.type "list", data:=.seq #[] }).IsListIter s.heap.objs.size p 0:=⟨_,ydk _ (ydm _ rfl),rfl,rfl⟩
 have hS:((s.heap.push { cls:=.type "list_iterator", data:=.fields #[.ref p,.int 0 0] }).push { cls:=.type "list", data:=.seq #[] }).get? (s.heap.push { cls:=.type "list_iterator", data:=.fields #[.ref p,.int 0 0] }).objs.size=some { cls:=.type "list", data:=.seq #[] }:=ydm _ rfl
 have hlt:s.heap.objs.size<(s.heap.push { cls:=.type "list_iterator", data:=.fields #[.ref p,.int 0 0] }).objs.size:=ydl (ydm _ rfl)
 have hl2:=(hl.push { cls:=.type "list_iterator", data:=.fields #[.ref p,.int 0 0] }).push { cls:=.type "list", data:=.seq #[] }
 generalize (s.heap.push { cls:=.type "list_iterator", data:=.fields #[.ref p,.int 0 0] }).objs.size=S at hS hlt ⊢
 generalize (s.heap.push { cls:=.type "list_iterator", data:=.fields #[.ref p,.int 0 0] }).push { cls:=.type "list", data:=.seq #[] }=g at hit hS hl2 k1 ⊢
 have old:∀ b o,s.heap.get? b=some o->b≠s.heap.objs.size/\b≠S:=fun b o e=>by
  have:=ydl e
  exact ⟨ycv this,ycv (yde this hlt)⟩
 generalize s.heap.objs.size=it at hit pl hlt old ⊢
 have d1:S≠it:=ydd hlt
 have d2:it≠p:=ydd pl
 have d3:S≠p:=ydd (yde pl hlt)
 refine wpAny_pure ⟨plainId_quiet F.plain_min_loop _,codeAny_builtin F.entry_min_loop ?_⟩
 rw[Around.under_plainId F.plain_min_loop _]
 refine wpAny_bind (m:=seqItems? (.ref S)) (wpAny_seqItems hS rfl ?_)
 refine wpAny_bind (m:=tryCatch (pyNext (.ref it)) _) (wpAny_tryCatch ?_)
 cases ns with
 | nil =>
  obtain rfl:its=[]:=ycb.mp len
  refine wpAny_pyNext_list_end (A:=A.in1) hh hit hl2 (by simp) fun h' he=>?_
  refine wpAny_bind (m:=rule _) (wpAny_rule (wpAny_pure ?_))
  exact h0 rfl _ _ fun b o e=>he b o (old b o e).1 (k1 b o e)
 | cons n ns =>
  obtain ⟨t,ht⟩:=val 0 n rfl
  refine wpAny_pyNext_list_item (A:=A.in1) hit hl2 (x:=.int n t) (by simpa using ht) fun h' hit' sb=>?_
  have hS':=(sb.2 S d1).trans hS
  refine wpAny_bind (wpAny_pure (wpAny_bind (wpAny_updateSeq hS' rfl ?_)))
  rw[nm]
  refine wpAny_pure ⟨plainId_quiet F.plain_min_loop _,zrM (ns:=n::ns) (its:=its) hh d1 d2 d3 len val (its.length-1) 1 _ n t _ rfl (by have:=(yad.mp ht).1;ac_rfl) ?_ ?_ (ydo _ hS' rfl) (by simp) (fun j a hj ha=>?_) fun M t' h'' tk'' hM hle kp=>?_⟩
  ·obtain ⟨o,e,r⟩:=hit'
   exact ⟨o,(ydn _ _ d1).trans e,r⟩
  ·obtain ⟨o,e,r⟩:=hl2
   exact ⟨o,(ydn _ _ d3).trans ((sb.2 p (Ne.symm d2)).trans e),r⟩
  ·obtain rfl:j=0:=by ac_rfl
   cases ha
   exact ydu _
  ·exact h1 M t' h'' tk'' hM hle fun b o e=>kp b o (old b o e).1 (old b o e).2 ((ydn _ _ (Ne.symm (old b o e).2)).trans ((sb.2 b (old b o e).1).trans (k1 b o e)))
end
def ztt (K:W.Frag) (t:TA) (d:Int):TE:=fun σ H Q=>t σ H fun xs H1=>∃ (p:Addr) (ns:List Int),xs=[.ref p]/\SqL K H1 p (ns.map V.int)/\∀ M,((ns=[]/\M=d)\/(M∈ns/\∀ a∈ns,M<=a))->Q (.int M) H1
theorem zqf {us:List Value} {ns:List Int} (h:IntsAre us ns):us.length=ns.length/\∀ (i:Nat) n,ns[i]?=some n->∃ t,us[i]?=some (.int n t):=by
 induction h with
 | nil=>exact ⟨rfl,fun i n e=>by simp at e⟩
 | cons _ _ _ ih =>
  refine ⟨by simp[ih.1],fun i n e=>?_⟩
  cases i with
  | zero=>cases e;exact ⟨_,rfl⟩
  | succ i=>exact ih.2 i n e
section
variable {X:Cx}
theorem zro {e ed:Expr} {t:TA} {d:Int} {p kp pos:Pos} (hc:X.calm=true) (hg:Gl X "min") (hm:X.mg "min" = none) (ha:PA X [e] t) (hd:PE X ed (tC (.int d)))
  (he:backTo pos (starEach [e] X.env)=(false,eval e X.env)::backTo pos (starEach [] X.env):=by rfl):PE X (.Call (.Name "min" p) [e] [⟨some "default", ed,kp⟩] pos) (ztt X.K t d):=by
 intro pins s σ H Q I h
 refine wpAny_Call_Name_kw (zfg I hg hm PyProof.Rows.boot_min ?_ (by decide) (by decide))
 refine PyProof.Rows.callWith_kw (thn (ha pos pins s σ H _ I h) fun us s1 ⟨vs,H1,I1,r1,q1⟩=>?_) he (by rw[he];rfl)
 refine kws_cons (thn (hd pins s1 σ H1 (fun y H2=>y=.int d/\H2=H1) I1 ⟨rfl,rfl⟩) fun dv s2 ⟨y,H2,I2,r2,e1,e2⟩=>kws_nil ?_)
 subst e1 e2
 obtain ⟨td,rfl⟩:=r2
 obtain ⟨p,ns,rfl,hq,qM⟩:=q1
 obtain ⟨u,rfl,rx⟩:=vals1 r1
 cases rx
 obtain ⟨its,rv,pl,hz⟩:=I2.list hq
 obtain ⟨len,val⟩:=zqf (ze1 rv)
 refine zoj (d:=.int d td) (I2.ok.hd hc) pl.isList len val (fun e h' tk kp=>?_) fun M t h' tk hM hle kp=>?_
 ·exact ⟨.int d,_,I2.kept kp,⟨td,rfl⟩,qM d (.inl ⟨e,rfl⟩)⟩
 ·exact ⟨.int M,_,I2.kept kp,⟨t,rfl⟩,qM M (.inr ⟨hM,hle⟩)⟩
end
section
variable {prog:Program} {w:World} {A:Around} {R:Result->Shared->Prop}
end
section
variable {X:Cx}
end
section
variable {prog:Program} {w:World} {A:Around} {E:Value->Shared->Prop} {s:Shared} {K:W.Frag} {e C f:Addr} {oe:Obj}
end
section
open PySem.Builtin PySem.Builtin.ObjectAttr
variable {prog:Program} {w:World} {A:Around} {E:Value->Shared->Prop} {s:Shared} {K:W.Frag} {e C f dx:Addr} {oe:Obj} {vs:Array Value} {mA:Str->Option Value} {name:Str} {v:Value}
end
section
open PySem.Builtin PySem.Builtin.ObjectAttr
variable {prog:Program} {w:World} {A:Around} {E:Value->Shared->Prop} {s:Shared} {K:W.Frag} {x C f dx:Addr} {o:Obj} {vs:Array Value} {mA:Str->Option Value} {name:Str} {v:Value}
set_option maxHeartbeats 2000000 in
end
def IsX (H:Hp) (e:Addr) (C:Value):Prop:=∃ φ,H e=some (.ext φ)/\∀ h,φ h->∃ o vs,h.get? e=some o/\o.cls=C/\o.data=.fields vs
theorem IsX.o {H:Hp} {e:Addr} {C:Value} (h:H e=some (zdp e C)):IsX H e C:=⟨_,h,fun _ q=>q⟩
section
variable {X:Cx} {pins:List (Addr × Obj)} {σ:St} {H:Hp} {s:Shared} {e:Addr}
theorem Inv.zjG (I:Inv X pins σ H s) (hn:s.heap.get? e=none) (hex:X.ex=[]):X.s₀.heap.get? e=none/\e≠X.env.locals/\(∀ x c,X.env.cells.lookup x=some c->c≠e)/\∀ p∈X.pn++pins,p.1≠e:=by
 refine ⟨?_,fun z=>?_,fun x c q z=>?_,fun p hp z=>?_⟩
 ·cases q:X.s₀.heap.get? e with
  | none=>rfl
  | some o =>
   obtain ⟨o',e1⟩:=I.base.there e o q (by rw[hex];simp)
   rw[hn] at e1;cases e1
 ·obtain ⟨m,⟨o,es,ep,ho,_⟩,_⟩:=I.loc
  rw[<-z,hn] at ho;cases ho
 ·obtain ⟨v,o,ho,hd⟩:=I.cell x c q
  rw[z,hn] at ho;cases ho
 ·have:=(I.pin p hp).1
  rw[z,hn] at this;cases this
theorem Inv.ziQ {o:HO} {h':Heap} {t':Nat} (I:Inv X pins σ H s) (k:∀ b u,s.heap.get? b=some u->h'.get? b=some u) (hn:s.heap.get? e=none) (hex:X.ex=[]) (new:zad X.prog X.w (upd H e o) h' e o) :
  Inv X pins σ (upd H e o) { s with heap:=h',toks:=t' } :=
 let ⟨a,b,c,d⟩:=I.zjG hn hex
 (I.kept (t':=t') k).track (I.hok.gone hn) a b c d new
end
section
variable {X:Cx} {x:Str} {np pos:Pos} {e0:Expr} {rest:List Expr} {t:TA}
end
section
variable {X:Cx} {o value:Expr} {name:Str} {pos pos':Pos} {ta tv:TE} {C f:Addr}
theorem zfs (K:W.Frag) (hK:X.K=K:=by rfl):zaT X (.builtin "isinstance") (fun xs H Q=>∃ e C D b,xs=[.ref e,.ref D]/\IsX H e (.ref C)/\XK1 K C/\PySem.W.kitOne K (.ref C) (.ref D)=some b/\Q (.bl b) H):=by
 subst hK
 intro pins s σ H xs us Q I r h
 obtain ⟨e,C,D,b,rfl,⟨φ,he,hφ⟩,Z,kit,q⟩:=h
 obtain ⟨u,v,rfl,ru,rv⟩:=vals2 r
 cases ru
 cases rv
 exact PySem.W.kia_one (zqJ Z) I.kIn (hφ _ (I.hok e _ he).1) kit (fun z=>nomatch z) fun tk=>⟨.bl b,H,I.tok tk,rfl,q⟩
end
section
variable {X:Cx} {x:Str} {np pos:Pos} {e0:Expr} {t:TA} {C f:Addr} {fd:FuncData} {ps:List Str} {name:Str} {j k:Nat}
end
section
variable {X:Cx} {o:Expr} {name:Str} {pos:Pos} {ta:TE} {C:Addr}
end
section
variable {K:W.Frag} {h:Heap} {mg:Str->Option Value} {x:Str} {C f D:Addr}
theorem zH {name:Str} (a:PySem.W.nsIn K mainGlobals x=some (some (.ref C))) (q:PySem.W.findIn K (.ref C) name=some none):PySem.W.findIn K (.ref (cA K x)) name=some none:=by rw[zba a];exact q
end
section
variable {prog:Program} {w:World} {A:Around} {E:Value->Shared->Prop} {s:Shared}
noncomputable abbrev zhG (x:Str) (k c d:Int) (p1 p2 p3 p4 p5 p6 p7:Pos):Expr :=
 .BinOp (.BinOp (.Subscript (.Name x p1) (.Constant (.int k) 0 p2) p3) .Mult (.Constant (.int c) 0 p4) p5) .Mod (.Constant (.int d) 0 p6) p7
theorem zqE {env:Env} {x:Str} {k c d v:Int} {t:Tok} {m:Str->Option Value} {row:Addr} {its:Array Value} {j:Nat} {p1 p2 p3 p4 p5 p6 p7:Pos} {Q:Value->Shared->Prop}
  (hk:env.scope.kind=.function) (hx:env.kindOf x=some .local) (hn:s.heap.Ns env.locals m) (hv:m x=some (.ref row)) (ht:IsTup s.heap row its) (hlo:-(2 ^ 63)<=k) (hhi:k<2 ^ 63)
  (hj:seqIndex? k its.size=some j) (hi:its[j]?=some (.int v t)) (hc:IntMulOk v c) (hd:0<d) (hdb:(x == ("__debug__" : Str))=false)
  (h:∀ t' tk,Q (.int (v*c % d) t') { s with toks:=tk }):wpAny (model prog w) A (eval (zhG x k c d p1 p2 p3 p4 p5 p6 p7) env) Q E s:=by
 refine wpAny_BinOp (wpAny_BinOp (Subscript_ (wpAny_Name (wpAny_loadName_local hk hx hn hv ?_) hdb)))
 refine wpAny_Constant_int ?_
 refine subscriptTail_builtinR (x:=.int v t) (ht.typeIs (s:={ s with toks:=s.toks+1 })) slot_tuple_getitem.lookup (getItem_tuple (s:={ s with toks:=s.toks+1 }) (j:=j) (x:=.int v t) ht hlo hhi hj hi ⟨rfl,?_⟩) rfl
 refine wpAny_Constant_int (mul_int ?_ hc)
 refine wpAny_Constant_int (mod_int' (by ac_rfl) ?_)
 rw[Int.fmod_eq_emod_of_nonneg _ (by ac_rfl)]
 exact h _ _
theorem zqn {f row c':Addr} {o:Obj} {x qual:Str} {params:Arguments} {scope:Scope} {pm ctv:Value} {k c d v:Int} {t:Tok} {its:Array Value} {j:Nat} {p1 p2 p3 p4 p5 p6 p7:Pos} {Q:Value->Shared->Prop}
  (hroom:A.depth<recursionLimit) (ho:s.heap.get? f=some o) (hd':o.data=.func (PySem.W.kla_fn "<lambda>" qual params (zhG x k c d p1 p2 p3 p4 p5 p6 p7) scope [] pm (.ref c') ctv)) (hcd:s.heap.CodeRec (.ref c') qual) (lim:s.heap.NoLimit)
  (hbind:bindArgs (PySem.W.kla_fn "<lambda>" qual params (zhG x k c d p1 p2 p3 p4 p5 p6 p7) scope [] pm (.ref c') ctv) ⟨[.ref row],[]⟩=pure [(x,.ref row)])
  (hsc:scope.names=[(x,.local)]) (hkd:scope.kind=.function) (hco:scope.isCoroutine=false) (hgen:scope.isGenerator=false)
  (ht:IsTup s.heap row its) (hlo:-(2 ^ 63)<=k) (hhi:k<2 ^ 63) (hj:seqIndex? k its.size=some j) (hi:its[j]?=some (.int v t)) (hc:IntMulOk v c) (hd:0<d) (hdb:(x == ("__debug__" : Str))=false)
  (h:∀ t' tk h',(∀ b ob,s.heap.get? b=some ob->h'.get? b=some ob)->Q (.int (v*c % d) t') { s with heap:=h',toks:=tk }):wpAny (model prog w) A (call (.ref f) [.ref row]) Q E s:=by
 have hl:scope.names.lookup x=some .local:=by rw[hsc];simp
 refine wpAny_call ?_
 refine PySem.W.kla_callFunE hroom ho hd' hco hgen rfl hcd ?_
 rw[hbind]
 refine wpAny_pure (wpAny_newFunctionEnv ?_ ?_ (fun h₁ hns hsb=>?_) hkd)
 ·intro y hy
  rw[hsc] at hy
  obtain rfl:=ybh.mp hy
  simp
 ·intro y hy
  obtain rfl:=ybh.mp hy
  exact hl
 have hk₁:∀ b ob,s.heap.get? b=some ob->h₁.get? b=some ob:=fun b ob e=>hsb.extBut b ob (ycv (ydl e)) (ydk _ e)
 refine ⟨lim.keeps hk₁,PySem.W.kla_codeExpr ?_⟩
 refine zqE (s:={ s with heap:=h₁,toks:=_ }) (m:=fun y=>[(x,Value.ref row)].reverse.lookup y) (row:=row) (its:=its) (j:=j) (t:=t) hkd ?_ hns ?_ ?_ hlo hhi hj hi hc hd hdb fun t' tk=>?_
 ·exact hl
 ·simp
 ·obtain ⟨ob,e,r⟩:=ht
  exact ⟨ob,hk₁ _ _ e,r⟩
 ·exact h t' tk h₁ hk₁
def zoK (h:Heap) (k c d:Int) (v:Value) (y:Int):Prop :=
 ∃ (row:Addr) (its:Array Value) (j:Nat) (val:Int) (t:Tok),v=.ref row/\IsTup h row its/\seqIndex? k its.size=some j/\its[j]?=some (.int val t)/\IntMulOk val c/\y=val*c % d
theorem zn7 {h:Heap} {k c d:Int}:∀ vs:List Value,(∀ v∈vs,∃ y,zoK h k c d v y)->∃ kz:List Int,kz.length=vs.length/\∀ (i:Nat) v y,vs[i]?=some v->kz[i]?=some y->zoK h k c d v y
 | [],_=>⟨[],rfl,fun i v y e=>by simp at e⟩
 | v::vs,q=>by
  obtain ⟨y,hy⟩:=q v (yai ..)
  obtain ⟨kz,hl,hk⟩:=zn7 vs fun u hu=>q u (yaj _ hu)
  refine ⟨y::kz,by simp[hl],fun i u z e1 e2=>?_⟩
  cases i with
  | zero=>cases e1;cases e2;exact hy
  | succ i=>exact hk i u z (by simpa using e1) (by simpa using e2)
theorem zq2 {h h':Heap} {L:Addr} {m:Str->Option Value} (hL:h.Ns L m) (hL':h'.Ns L m) (kp:∀ b o,b≠L->h.get? b=some o->h'.get? b=some o) {a:Addr} {m':Str->Option Value} (x:h.Ns a m'):h'.Ns a m':=by
 by_cases e:a=L
 ·subst e
  rw[x.eq_nsMap,<-hL.eq_nsMap]
  exact hL'
 ·obtain ⟨o,es,ep,ho,r⟩:=x
  exact ⟨o,es,ep,kp _ _ e ho,r⟩
theorem zoT {f l L c':Addr} {o:Obj} {x qual:Str} {params:Arguments} {scope:Scope} {pm ctv:Value} {k c d:Int} {vs:List Value} {m:Str->Option Value} {p1 p2 p3 p4 p5 p6 p7:Pos} {Q:Value->Shared->Prop}
  (hroom:A.in1.in1.depth<recursionLimit) (hL:s.heap.Ns L m) (hl:s.heap.IsList l vs.toArray) (h64:vs.length<64)
  (ho:s.heap.get? f=some o) (hd':o.data=.func (PySem.W.kla_fn "<lambda>" qual params (zhG x k c d p1 p2 p3 p4 p5 p6 p7) scope [] pm (.ref c') ctv)) (hcd:s.heap.CodeRec (.ref c') qual) (lim:s.heap.NoLimit)
  (hbind:∀ row,bindArgs (PySem.W.kla_fn "<lambda>" qual params (zhG x k c d p1 p2 p3 p4 p5 p6 p7) scope [] pm (.ref c') ctv) ⟨[.ref row],[]⟩=pure [(x,.ref row)])
  (hsc:scope.names=[(x,.local)]) (hkd:scope.kind=.function) (hco:scope.isCoroutine=false) (hgen:scope.isGenerator=false)
  (hlo:-(2 ^ 63)<=k) (hhi:k<2 ^ 63) (hd:0<d) (hdb:(x == ("__debug__" : Str))=false)
  (rows:∀ v∈vs,∃ y,zoK s.heap k c d v y)
  (h:∀ D h' tk out n,h'.Ns L m->(∀ b ob,b≠L->s.heap.get? b=some ob->h'.get? b=some ob)->s.heap.get? D=none->D≠L->h'.get? D=some (seqObj "list" out n)->out.toList.Perm vs->Q (.ref D) { s with heap:=h',toks:=tk }) :
  wpAny (model prog w) A (call (.builtin "sorted") [.ref l] [(Str.ofString "key", .ref f)]) Q E s:=by
 obtain ⟨kz,kl,kk⟩:=zn7 vs rows
 have notL:∀ {b:Addr} {ob:Obj},s.heap.get? b=some ob->(∀ es ep,ob.data≠.dict es ep)->b≠L:=fun {b ob} e n z=>by
  obtain ⟨oL,es,ep,e2,e3,_⟩:=hL
  rw[z,e2] at e;cases e
  exact n _ _ e3
 refine ksk_sorted (b:=false) (h₀:=Att.zjx s.heap) (L:=L) (m:=m) (news:=Att.ledger s.heap L L) (kz:=kz) (Att.zsJ hL) (fun ⟨a,ob⟩ hp=>?_) hl kl h64 (ksk_s1 _ _) (fun y=>ksk_l1 _ _) (fun y=>ksk_t1 f y) (fun i v y hv hy h1 tk own F N=>?_) fun D h' tk out n F' N' lt ko=>?_
 ·obtain ⟨n1,_,e⟩:=Att.zeu.mp hp
  exact ⟨e,n1,Att.zgI _ _⟩
 ·have kp:∀ b ob,b≠L->s.heap.get? b=some ob->h1.get? b=some ob:=fun b ob n e=>(N (b,ob) (yav _ (Att.zeu.mpr ⟨n,n,e⟩))).1
  obtain ⟨row,its,j,val,t,rfl,ht,hj,hi,hc,rfl⟩:=kk i v y hv hy
  have hof:=kp f o (notL ho (by rw[hd'];intro _ _ z;cases z)) ho
  have hcd1:h1.CodeRec (.ref c') qual:=by
   obtain ⟨c₂,o₂,vs₂,t₂,e₂,g₂,r₂,r₃⟩:=hcd
   exact ⟨c₂,o₂,vs₂,t₂,e₂,kp _ _ (notL g₂ (by rw[r₂];intro _ _ z;cases z)) g₂,r₂,r₃⟩
  have ht1:IsTup h1 row its:=by
   obtain ⟨ob,e,r⟩:=ht
   refine ⟨ob,kp _ _ (notL e ?_) e,r⟩
   obtain ⟨_,n,rd⟩:=r
   intro es ep z
   rw[rd] at z;cases z
  have lim1:h1.NoLimit:=by
   obtain ⟨mc,a1,a2⟩:=lim
   exact ⟨mc,zq2 hL F.ns kp a1,a2⟩
  refine zqn (s:={ s with heap:=h1,toks:=tk }) hroom hof hd' hcd1 lim1 (hbind row) hsc hkd hco hgen ht1 hlo hhi hj hi hc hd hdb fun t' tk' h2 k2=>?_
  exact ⟨h2,tk',t',rfl,rfl,⟨F.ns.keeps k2,fun b ob e=>(by rw[Att.zgI] at e;cases e),ycy _⟩,fun q hq=>⟨k2 _ _ (N q hq).1,(N q hq).2⟩⟩
 ·have hD:=N' _ (yai ..)
  have kp:∀ b ob,b≠L->s.heap.get? b=some ob->h'.get? b=some ob:=fun b ob n e=>(N' (b,ob) (yaj _ (Att.zeu.mpr ⟨n,n,e⟩))).1
  refine h D h' tk out n F'.ns kp ?_ hD.2.1 hD.1 ?_
  ·cases e:s.heap.get? D with
   | none=>rfl
   | some ob=>exact absurd (lt (D,ob) (Att.zeu.mpr ⟨hD.2.1,hD.2.1,e⟩)) (yda _)
  ·obtain ⟨ps,hp,e,_⟩:=ko
   rw[e]
   have:=hp.map Prod.snd
   rwa [List.map_snd_zip (by ac_rfl)] at this
end
theorem zrm {us us':List Value} (p:us'.Perm us):∀ vs:List V,Vals vs us->∃ ws:List V,ws.Perm vs/\Vals ws us':=by
 induction p with
 | nil=>intro vs r;cases r;exact ⟨[],.nil,.nil⟩
 | cons x _ ih =>
  intro vs r
  cases r with
  | cons r1 r2 =>
   obtain ⟨ws,p1,p2⟩:=ih _ r2
   exact ⟨_::ws,p1.cons _,.cons r1 p2⟩
 | swap x y l =>
  intro vs r
  cases r with
  | cons r1 r2 =>
   cases r2 with
   | cons r2 r3=>exact ⟨_,.swap _ _ _,.cons r2 (.cons r1 r3)⟩
 | trans _ _ ih1 ih2 =>
  intro vs r
  obtain ⟨w1,a1,a2⟩:=ih2 vs r
  obtain ⟨w2,b1,b2⟩:=ih1 w1 a2
  exact ⟨w2,b1.trans a1,b2⟩
structure zq9 (X:Cx) (cc P:Addr):Prop where
 code:X.env.code=.ref cc
 head:PySem.W.CodeHd X.base cc P
 blt:X.base.BuiltinsAt X.mg P
def zsr (K:W.Frag) (H:Hp) (k c:Int) (v:V):Prop:=∃ (a:Addr) (xs:List V) (val:Int),v=.ref a/\SqT K H a xs/\atI xs k=some (.int val)/\IntMulOk val c
def zqI (K:W.Frag) (P:Addr) (k c:Int) (t:TA):TE:=fun σ H Q=>t σ H fun xs H1=>∃ (p:Addr) (vs:List V),xs=[.ref p]/\SqL K H1 p vs/\vs.length<64/\(∀ v∈vs,zsr K H1 k c v)/\H1 P=some (.tbl #[]) /\
 ∀ (q:Addr) (H':Hp) (ws:List V),H1 q=none->H' q=some (.lst ws)->ws.Perm vs->(∀ b o,b≠P->H1 b=some o->H' b=some o)->Q (.ref q) H'
section
variable {X:Cx}
theorem SqL.but {K:W.Frag} {H H':Hp} {P a:Addr} {xs:List V} (q:SqL K H a xs) (hP:H P=some (.tbl #[])) (k:∀ b o,b≠P->H b=some o->H' b=some o):SqL K H' a xs:=by
 rcases q with (q | ⟨o,q⟩) | q
 ·exact .inl (.inl (k _ _ (fun z=>by rw[z,hP] at q;cases q) q))
 ·exact .inl (.inr ⟨o,k _ _ (fun z=>by rw[z,hP] at q;cases q) q⟩)
 ·exact .inr q
theorem SqT.but {K:W.Frag} {H H':Hp} {P a:Addr} {xs:List V} (q:SqT K H a xs) (hP:H P=some (.tbl #[])) (k:∀ b o,b≠P->H b=some o->H' b=some o):SqT K H' a xs:=by
 rcases q with (q | ⟨o,q⟩) | q
 ·exact .inl (.inl (k _ _ (fun z=>by rw[z,hP] at q;cases q) q))
 ·exact .inl (.inr ⟨o,k _ _ (fun z=>by rw[z,hP] at q;cases q) q⟩)
 ·exact .inr q
theorem Inv.framed {pins:List (Addr × Obj)} {σ:St} {H:Hp} {s:Shared} {g:Heap} {tk2:Nat} {m:Str->Option Value} (J:Inv X pins σ H s) (hL:s.heap.Ns X.env.locals m) (gL:g.Ns X.env.locals m) (kp:∀ b ob,b≠X.env.locals->s.heap.get? b=some ob->g.get? b=some ob) :
  Inv X pins σ H { s with heap:=g,toks:=tk2 }:=by
 refine J.step (g':=s.gens) (d':=s.drawn) (ch:=[]) (fun _ z=>nomatch z) (fun b o n _ _ e _=>kp b o n e) (fun b o n _ _ e _=>⟨o.slots,kp b o n e⟩) (fun b o _ _ n=>n) (fun b o _ e=>?_) (fun _ _ e=>e) (fun _ _ _ e=>e) (fun b ps e=>⟨#[],by rw[e];simp⟩)
  (fun m' hn=>zq2 hL gL kp hn) (fun b u e=>?_) J.bare
 ·by_cases z:b=X.env.locals
  ·obtain ⟨ob,_,_,e',_⟩:=gL
   exact ⟨ob,by rw[z];exact e'⟩
  ·exact ⟨o,kp b o z e⟩
 ·refine (J.hok b u e).stay (fun c v hc r=>kp c v (fun z=>?_) r) (fun _ q=>q) fun _ _ q=>q
  have:=J.free
  rcases hc with rfl | hc
  ·rw[<-z,e] at this;cases this
  ·rw[<-z,hc] at this;cases this
theorem zog {cc P:Addr} {k c d:Int} {e:Expr} {t:TA} {x:Str} {params:Arguments} {scope:Scope} {p kp lp pos p1 p2 p3 p4 p5 p6 p7:Pos} (LO:zq9 X cc P) (hr:Room 3 X.A) (hex:X.ex=[]) (hg:Gl X "sorted") (hm:X.mg "sorted" = none) (ha:PA X [e] t)
  (hlo:-(2 ^ 63)<=k) (hhi:k<2 ^ 63) (hd:0<d) (hdb:(x == ("__debug__" : Str))=false) (hsc:scope.names=[(x,.local)]) (hkd:scope.kind=.function) (hco:scope.isCoroutine=false) (hgen:scope.isGenerator=false)
  (hdef:defaultsOf params X.env=([],[])) (hcl:closureFor scope X.env=pure [])
  (hbind:∀ (qual:Str) (pm ctv:Value) (c' row:Addr),bindArgs (PySem.W.kla_fn "<lambda>" qual params (zhG x k c d p1 p2 p3 p4 p5 p6 p7) scope [] pm (.ref c') ctv) ⟨[.ref row],[]⟩=pure [(x,.ref row)])
  (he:backTo pos (starEach [e] X.env)=(false,eval e X.env)::backTo pos (starEach [] X.env):=by rfl) :
  PE X (.Call (.Name "sorted" p) [e] [⟨some "key", .Lambda params (zhG x k c d p1 p2 p3 p4 p5 p6 p7) scope lp,kp⟩] pos) (zqI X.K P k c t):=by
 intro pins s σ H Q I h
 refine wpAny_Call_Name_kw (zfg I hg hm PyProof.Rows.boot_sorted ?_ (by decide) (by decide))
 refine PyProof.Rows.callWith_kw (thn (ha pos pins s σ H _ I h) fun us s1 ⟨vs,H1,I1,r1,q1⟩=>?_) he (by rw[he];rfl)
 obtain ⟨pl,vs,rfl,hq,h64,hrow,hP,q⟩:=q1
 obtain ⟨u,rfl,rx⟩:=vals1 r1
 cases rx
 have hPo:s1.heap.get? P=some (PySem.W.tabObj #[]):=I1.hok P _ hP
 have nP:∀ {b:Addr},H1 b=none->b≠P:=fun {b} n z=>by rw[z,hP] at n;cases n
 have glob:=I1.mod.glob.keeps I1.bk
 have gP:mainGlobals≠P:=by
  obtain ⟨o,es,ep,e,_⟩:=I1.mod.glob
  exact nP (I1.bs _ _ e).2
 have hb:s1.heap.BuiltinsAt X.mg P:=by
  obtain ⟨bm,ob,a1,a2,a3,a4,a5,a6⟩:=LO.blt
  exact ⟨bm,ob,a1,a2,a3,a4,I1.bk _ _ a5,a6⟩
 refine kws_cons (PySem.W.kla_eval hdef (PySem.W.kla_makeFunction (mg:=X.mg) hcl I1.ok.glob glob LO.code (LO.head.keeps I1.bk) hPo trivial rfl gP hb fun c' ctv h' tk hx hge hlt hrec hP'=>kws_nil ?_))
 obtain ⟨H2,hH2⟩:∃ H2,H2=upd H1 P (.tbl (#[]++#[rawInt lp.line,rawInt lp.col,.ref c'])):=⟨_,rfl⟩
 have H2P:H2 P=some (.tbl (#[]++#[rawInt lp.line,rawInt lp.col,.ref c'])):=by rw[hH2];exact ze
 have H2n:∀ {b:Addr},b≠P->H2 b=H1 b:=fun n=>by rw[hH2];exact zi n
 have kp2:∀ (fo:Obj) b o,b≠P->s1.heap.get? b=some o->(h'.push fo).get? b=some o:=fun fo b o n e=>ydk _ (hx b o n e)
 have I2:∀ fo:Obj,Inv X pins σ H2 { s1 with heap:=h'.push fo,toks:=tk }:=fun fo=>by
  refine I1.step (g':=s1.gens) (d':=s1.drawn) (ch:=[]) (fun _ z=>nomatch z) (fun b o _ _ _ e n=>kp2 fo b o (nP n) e) (fun b o _ _ _ e n=>⟨o.slots,kp2 fo b o (nP n) e⟩) (fun b o _ e n=>(H2n (nP n)).trans n) (fun b o _ e=>?_)
   (fun b xs e=>?_) (fun b o u e=>?_) (fun b ps e=>?_) (fun m hn=>(hn.extBut hx (nP I1.free)).push _) (fun b u e=>?_) I1.bare
  ·by_cases z:b=P
   ·exact ⟨_,by rw[z];exact ydk _ hP'⟩
   ·exact ⟨o,kp2 fo b o z e⟩
  ·rw[H2n fun z=>by rw[z,hP] at e;cases e];exact e
  ·rw[H2n fun z=>by rw[z,hP] at e;cases e];exact e
  ·by_cases z:b=P
   ·subst z
    rw[hP] at e;cases e
    exact ⟨_,H2P⟩
   ·exact ⟨#[],by rw[H2n z,e];simp⟩
  ·by_cases z:b=P
   ·subst z
    rw[H2P] at e;cases e
    exact (ydk _ hP':_)
   ·rw[H2n z] at e
    have nown:∀ c,H1 c=some (.own b)->c≠P:=fun c q z2=>by rw[z2,hP] at q;cases q
    refine (I1.hok b u e).stay (fun c v hc r=>kp2 fo c v ?_ r) (fun c q=>by rw[H2n (nown c q)];exact q) fun c xs q=>by rw[H2n fun z2=>by rw[z2,hP] at q;cases q];exact q
    rcases hc with rfl | hc
    ·exact z
    ·exact nown c hc
 have J:=I2 (PySem.W.kla_obj "<lambda>" (X.env.qual ++ "<lambda>") params (zhG x k c d p1 p2 p3 p4 p5 p6 p7) scope [] ((X.mg "__name__").getD .none) c' ctv)
 have but:∀ b o,b≠P->H1 b=some o->H2 b=some o:=fun b o n e=>by rw[H2n n];exact e
 obtain ⟨its,rv,pll,hz⟩:=J.list (hq.but hP but)
 obtain ⟨m,hL,_⟩:=id J.loc
 refine zoT (s:={ s1 with heap:=h'.push _,toks:=tk }) (L:=X.env.locals) (m:=m) hr.in1.in1.depth hL pll.isList (by rw[<-rv.length];exact h64) (ydm _ rfl) rfl (hrec.push _) J.nolimit (fun row=>hbind _ _ _ _ row) hsc hkd hco hgen hlo hhi hd hdb (fun v hv=>?_) fun D g tk2 out n gL kp hD nD at_ pm=>?_
 ·obtain ⟨i,hi⟩:=ybq.mp hv
  have hil:i<vs.length:=by rw[rv.length];exact (yad.mp hi).1
  obtain ⟨a,xs,val,e1,e2,e3,e4⟩:=hrow (vs[i]) (yci hil)
  obtain ⟨w',ew,rw'⟩:=rv.get (yaa hil)
  rw[hi] at ew;cases ew
  rw[e1] at rw';cases rw'
  obtain ⟨ts,tv,tp,_⟩:=J.tuple (e2.but hP but)
  obtain ⟨j,h1,h2,_⟩:=zjY e3
  obtain ⟨u,eu,ru⟩:=tv.get h2
  obtain ⟨t',rfl⟩:=ru
  exact ⟨_,a,ts.toArray,j,val,t',rfl,tp,by rw[yan,<-tv.length];exact h1,by simpa using eu,e4,rfl⟩
 ·obtain ⟨ws,wp,wv⟩:=zrm pm _ rv
  obtain ⟨f1,f2,f3,f4⟩:=J.zjG hD hex
  have J2:=J.framed (g:=g) (tk2:=tk2) hL gL kp
  have H2D:H2 D=none:=J.hok.gone hD
  have DP:D≠P:=fun z=>by rw[z,H2P] at H2D;cases H2D
  have H1D:H1 D=none:=(H2n DP).symm.trans H2D
  refine ⟨.ref D,upd H2 D (.lst ws),J2.track H2D f1 f2 f3 f4 ⟨by rw[wp.length_eq];exact hz,out.toList,n,wv,by simpa [seqObj] using at_⟩,rfl,q D _ ws H1D ze wp fun b o nb e=>?_⟩
  rw[zi fun z=>by rw[z,H1D] at e;cases e]
  exact but b o nb e
end
noncomputable def zfB (K:W.Frag):Addr:=match PySem.W.tabIn K "law" with
 | some q=>q.2
 | none=>0
structure zmE (K:W.Frag) (mg:Str->Option Value) (base:Heap):Prop where
 ex:∃ cc,(∀ f o fd,mg "law" = some (.ref f)->K.lookup f=some o->o.data=.func fd->fd.code=.ref cc)/\PySem.W.CodeHd base cc (zfB K)/\base.BuiltinsAt mg (zfB K)
theorem zrv {K:W.Frag} {h:Heap} {mg:Str->Option Value} {f a c Pt:Addr} {fd fd':FuncData} {st:Stmt} {o:Obj} (KX:K.In h) (G:h.Ns mainGlobals mg) (n:PySem.W.nsIn K mainGlobals "law" = some (some (.ref f))) (Fn:Fun K "law" "law" st f fd)
  (t1:mg "law" = some (.ref a)) (t2:h.get? a=some o) (t3:o.data=.func fd') (t4:fd'.code=.ref c) (t6:h.TableAt c Pt #[]):zfB K=Pt/\fd.code=.ref c:=by
 have e1:=PySem.W.mg_of KX G n
 rw[t1] at e1
 cases e1
 obtain ⟨oc,od,kV,doc,pm,an,cdv,ct,osl,rfl,lk,hcd⟩:=Fn.ex
 have e2:=KX _ _ lk
 rw[t2] at e2
 cases e2
 cases t3
 have e3:cdv=.ref c:=t4
 subst e3
 refine ⟨?_,rfl⟩
 obtain ⟨⟨o2,vs,g1,g2,g3,g4⟩,_⟩:=t6
 unfold PySem.W.codeIn at hcd
 dsimp only at hcd
 split at hcd
 ·rename_i cl dc vs' sl hco
  have e4:=KX _ _ hco
  rw[g1] at e4
  cases e4
  cases g3
  simp only[zfB,PySem.W.tabIn,n,lk,PySem.W.fnOf,hco,g4]
 ·cases hcd
theorem zpF {P:Program} {w:World} {K:W.Frag} {mg mb:Str->Option Value} {k:Nat} {fa a cc Pt:Addr} {fd:FuncData} {x:Str} {sp:Sp} {s₁:Shared} {vs:List Value} {ns:List Int}
  (KX:K.In s₁.heap) (hns:s₁.heap.Ns mainGlobals mg) (hb:s₁.heap.Ns builtinsNs mb) (hbb:∀ x:Str,x ≠ "__name__" -> mb x=bootBuiltins x) (hlim:s₁.heap.NoLimit) (hg:s₁.gens=#[])
  (ha:s₁.heap.get? a=some { cls:=.type "list", data:=.seq vs.toArray }) (hi:IntsAre vs ns) (hl:ns.length<=sizeLine) (hr:Room k callerA)
  (nt:PySem.W.noTabs K=true) (hI:s₁.heap.IsCode cc Pt #[]) (hT:s₁.heap.TableAt cc Pt #[]) (bm:∃ bm ob,mg "__builtins__" = some (.ref bm)/\bm≠builtinsNs/\s₁.heap.get? bm=some ob/\ob.cls=.type "module" /\ ob.dict=some builtinsNs/\ob.data=.plain)
  (F:∀ base:Heap,PySem.W.CodeHd base cc Pt->base.BuiltinsAt mg Pt->zbO P w K mg base CX0 k fa fd [x] sp) (hbind:∀ (s:Shared) (u:Value),BindsTo s fd ⟨[u],[]⟩ [(x,u)])
  (hsp:∀ H:Hp,SqL K H a (ns.map V.int)->H Pt=some (.tbl #[])->sp [.ref a] H (fun v _=>v=.bl true) fun _ _ _=>False) :
  codeAny (model P w) callerA (.call (.ref fa) ⟨[.ref a],[]⟩) (fun r s'=>r=.ok (.ret (.bool true))/\OldK s₁.heap s'.heap/\s'.os=s₁.os/\AllBare s'.gens) s₁:=by
 have rv:=zfF hi
 have lenV:=hi.length
 have hPo:s₁.heap.get? Pt=some (PySem.W.tabObj #[]):=hT.2
 have aP:a≠Pt:=fun z=>by rw[z,hPo] at ha;cases ha
 have kP:K.lookup Pt=none:=by
  cases q:K.lookup Pt with
  | none=>rfl
  | some o =>
   have e:=KX _ _ q
   rw[hPo] at e
   cases e
   exact absurd (show false=true from List.all_eq_true.mp nt _ (PySem.W.mem_of_lookupK q)) Bool.false_ne_true
 obtain ⟨H,hH⟩:∃ H:Hp,H=fun b=>if b=Pt then some (.tbl #[]) else if b=a/\K.lookup a=none then some (.frz { cls:=.type "list", data:=.seq vs.toArray } (.lst (ns.map V.int))) else none:=⟨_,rfl⟩
 have HP:H Pt=some (.tbl #[]):=by rw[hH];exact if_pos rfl
 have Hn:∀ {b:Addr},b≠Pt->(b≠a\/K.lookup a≠none)->H b=none:=fun {b} n1 n2=>by
  rw[hH]
  show (if b=Pt then _ else if b=a/\K.lookup a=none then _ else none)=none
  rw[if_neg n1,if_neg (fun z=>n2.elim (fun q=>q z.1) fun q=>q z.2)]
 have Ha:K.lookup a=none->H a=some (.frz { cls:=.type "list", data:=.seq vs.toArray } (.lst (ns.map V.int))):=fun q=>by
  rw[hH]
  show (if a=Pt then _ else if a=a/\K.lookup a=none then _ else none)=_
  rw[if_neg aP,if_pos ⟨rfl,q⟩]
 have Hs:∀ {b:Addr} {u:HO},H b=some u->(b=Pt/\u=.tbl #[])\/(b=a/\K.lookup a=none/\u=.frz { cls:=.type "list", data:=.seq vs.toArray } (.lst (ns.map V.int))):=fun {b u} q=>by
  by_cases z:b=Pt
  ·subst z;rw[HP] at q;cases q;exact .inl ⟨rfl,rfl⟩
  ·by_cases y:b=a/\K.lookup a=none
   ·obtain ⟨rfl,y⟩:=y
    rw[Ha y] at q;cases q;exact .inr ⟨rfl,y,rfl⟩
   ·rw[Hn z (by by_cases e:b=a;exact .inr fun q2=>y ⟨e,q2⟩;exact .inl e)] at q;cases q
 have hok:HOk P w H s₁.heap:=fun b u q=>by
  rcases Hs q with ⟨rfl,rfl⟩ | ⟨rfl,_,rfl⟩
  ·exact hPo
  ·exact ⟨ha,by rw[yab];exact hl,vs,_,rv,ha⟩
 have hS:SqL K H a (ns.map V.int):=by
  cases q:K.lookup a with
  | none=>exact .inl (.inr ⟨_,Ha q⟩)
  | some o =>
   have e:=KX _ _ q
   rw[ha] at e
   cases e
   exact .inr ⟨_,vs.toArray,_,q,rfl,rfl,rfl,by rw[yan,lenV];exact hl,by simpa using rv⟩
 have free:∀ {b:Addr} {o:Obj},s₁.heap.get? b=some o->(∀ vs:Array Value,o.cls=.none->o.data≠.fields vs)->(b≠a\/K.lookup a≠none)->(zfd s₁.heap H).get? b=some o:=fun {b o} e n1 n2=>zlN e (Hn (fun z=>by
  rw[z,hPo] at e;cases e
  exact n1 _ rfl rfl) n2)
 have nsK:∀ {b:Addr} {m:Str->Option Value},s₁.heap.Ns b m->(zfd s₁.heap H).Ns b m:=fun {b m} ⟨o,es,ep,e,d,r⟩=>⟨o,es,ep,free e (fun _ _ z=>by rw[d] at z;cases z) (.inl fun z=>by rw[z,ha] at e;cases e;cases d),d,r⟩
 have hKb:K.In (zfd s₁.heap H):=fun b o e=>zlN (KX b o e) (Hn (fun z=>by rw[z,kP] at e;cases e) (by
  by_cases z:b=a
  ·exact .inr fun q=>by rw[z,q] at e;cases e
  ·exact .inl z))
 have hM:Mod K mg (zfd s₁.heap H):=⟨hKb,nsK hns,⟨mb,nsK hb,hbb⟩,let ⟨mc,h1,h2⟩:=hlim;⟨mc,nsK h1,h2⟩⟩
 have e0:ziW P w K mg (zfd s₁.heap H) callerA [] s₁ H:=⟨rfl,hM,fun b o e=>zrT e,Nat.le_of_eq (zpj _ _),trivial,fun b hb=>absurd (show b∈([]:List Addr) from hb) (by simp),hok,.of_eq hg⟩
 have CH:PySem.W.CodeHd (zfd s₁.heap H) cc Pt:=by
  obtain ⟨o,vs',file,tf,flags,tg,inF,text,tt,e1,r1,r⟩:=PySem.W.CodeHd.of hI hT
  exact ⟨o,vs',file,tf,flags,tg,inF,text,tt,free e1 (fun _ z=>by rw[r1] at z;cases z) (.inl fun z=>by rw[z,ha] at e1;cases e1;simp at r1),r1,r⟩
 have BA:(zfd s₁.heap H).BuiltinsAt mg Pt:=by
  obtain ⟨b,ob,b1,b2,b3,b4,b5,b6⟩:=bm
  refine ⟨b,ob,b1,b2,fun z=>?_,fun z=>?_,free b3 (fun _ z=>by rw[b4] at z;cases z) (.inl fun z=>by rw[z,ha] at b3;cases b3;simp at b4),b4,b5,b6⟩
  ·obtain ⟨o,es,ep,e,d,_⟩:=hns
   rw[z,e] at b3;cases b3;rw[d] at b6;cases b6
  ·rw[z,hPo] at b3;cases b3;cases b4
 refine codeAny_mono ((F _ CH BA).run callerA [] s₁ H ⟨[.ref a],[]⟩ [.ref a] [.ref a] _ _ hr e0 (hbind s₁ (.ref a)) (.cons rfl .nil) (hsp H hS HP)) fun r s' h=>?_
 cases r with
 | error e=>exact (show False from h).elim
 | ok fl =>
  cases fl with
  | next=>exact False.elim h
  | brk=>exact False.elim h
  | cont=>exact False.elim h
  | ret u =>
   obtain ⟨v,H',os,bare,un,hok',r',q⟩:=h
   have q':v=.bl true:=q
   subst q'
   obtain rfl:u=Value.bool true:=r'
   refine ⟨rfl,⟨fun b o e=>?_,fun b o e=>un.there b o e (by simp)⟩,os,bare⟩
   cases q:H b with
   | none=>exact .inl (un.keep b o e q (by intro z;exact absurd (show b∈([]:List Addr) from z) (by simp)) (by simp))
   | some u =>
    rcases Hs q with ⟨rfl,rfl⟩ | ⟨rfl,_,rfl⟩
    ·obtain ⟨more,z⟩:=un.tbls _ _ q
     have e2:s'.heap.get? b=some { cls:=.none,data:=.fields (#[]++more) }:=hok' b _ z
     rw[hPo] at e;cases e
     exact .inr (.inl ⟨hT.isCodeTable,rfl,#[],more,rfl,e2⟩)
    ·have z2:=un.frzs _ _ _ q
     obtain ⟨e2,_⟩:=hok' _ _ z2
     rw[ha] at e;cases e
     exact .inl e2
theorem Src.okT {P:Program} {w:World} {K:W.Frag} {mg:Str->Option Value} {base:Heap} {st:Stmt} {N ps:List Str} {k:Nat} {sp:Sp} (S:Src K mg "law" st ps) (LB:zmE K mg base) (sc:zj N ps (zh st)) (len:∀ vs H Q E,sp vs H Q E->vs.length=ps.length)
  (hbody:∀ (f:Addr) (cdv:Value) (A:Around) (outer:List Env) (s:Shared) (H:Hp) (vs:List V) (Q:VK) (E:XK),Room k (A.deeper (envOfC "law" (zh st) s.heap.objs.size f cdv)) ->
   (∃ cc,zq9 (zaK CX0 P w K mg base N "law" (zh st) f cdv A outer s H E).nox cc (zfB K))->sp vs H Q E ->
   ∃ t,PSs (zaK CX0 P w K mg base N "law" (zh st) f cdv A outer s H E).nox (zaz st) t/\t { nx:=fun _ H'=>Q .non H',rt:=Q } (start N vs) H):Def P w K mg base (k+1) "law" ps sp:=by
 obtain ⟨f,fd,F,hm,hb⟩:=S.ex
 obtain ⟨cc,h1,h2,h3⟩:=LB.ex
 have kp:=F.kp
 obtain ⟨oc,od,kV,doc,pm,an,cdv,ct,osl,rfl,lk,hcd⟩:=F.ex
 have ec:cdv=.ref cc:=h1 f _ _ hm lk rfl
 refine ⟨f,_,zll lk hcd sc len (fun A outer s H vs Q E hr h=>?_),hm,kp,hb,_,lk,rfl⟩
 obtain ⟨t,ht,hq⟩:=hbody f cdv A outer s H vs Q E hr ⟨cc,ec,h2,h3⟩ h
 exact ⟨t,ht.nox,hq⟩
theorem zpM {l:PySem.W.OpenLaw} {lv:Nat} {q:Program} {loose:List Str} {XP:(Str->Option Value)->Heap->Prop} {YP:World->Heap->Prop} {d:DefRec} {K:Params->W.Frag} {sp:W.Frag->Sp} {x:Str} {st:Stmt}
  (hn:l.most=some 63) (hdf:d.params.defaults=[]) (hnm:d.name = "law") (hd:d∈recsOf q) (hr:Room lv callerA)
  (hY:∀ (w:World) (h:Heap),YP w h->(K w.params).In h) (nt:∀ w:World,PySem.W.noTabs (K w.params)=true)
  (F:∀ (w:World) (mg:Str->Option Value) (h:Heap),(K w.params).In h->h.Ns mainGlobals mg ->
   (∃ f,PySem.W.nsIn (K w.params) mainGlobals "law" = some (some (.ref f)))/\Src (K w.params) mg "law" st [x]/\∀ base:Heap,zmE (K w.params) mg base->Def l.prog w (K w.params) mg base lv "law" [x] (sp (K w.params)))
  (hsp:∀ (K:W.Frag) (H:Hp) (a:Addr) (ns:List Int),ns.length<=63->SqL K H a (ns.map V.int)->H (zfB K)=some (.tbl #[])->sp K [.ref a] H (fun v _=>v=.bl true) fun _ _ _=>False) :
  PySem.W.WalkO q loose XP YP l.row.toRowW d [] (fun f vs=>PySem.call f vs):=by
 refine Att.znm hn hdf fun w s₀ s₁ mg mb fa o pm cd doc a vs ns G Y ho hd' hcd hmg hobj hints hlen hg=>?_
 have KX:=hY w _ Y
 obtain ⟨⟨f',hf'⟩,S,D⟩:=F w mg _ KX G.T.g
 obtain ⟨f,fd,Fn,hm,hb⟩:=S.ex
 obtain ⟨t1,t2,t3,cc,Pt,t4,t5,t6,t7,t8,t9⟩:=G.T.tab d hd
 rw[hnm] at t4 hmg
 have e1:=PySem.W.mg_of KX G.T.g hf'
 rw[hm] at e1 hmg
 cases e1
 cases hmg
 obtain ⟨eP,ec⟩:=zrv KX G.T.g hf' Fn t4 t5 t6 t7 t9
 have LBof:∀ base:Heap,PySem.W.CodeHd base cc Pt->base.BuiltinsAt mg Pt->zmE (K w.params) mg base:=fun base h1 h2=>by
  obtain ⟨oc,od,kV,doc,pm,an,cdv,ct,osl,e,lk,_⟩:=Fn.ex
  refine ⟨cc,fun g o fd2 a1 a2 a3=>?_,by rw[eP];exact h1,by rw[eP];exact h2⟩
  rw[hm] at a1
  cases a1
  rw[lk] at a2
  cases a2
  cases a3
  exact ec
 refine zpF (sp:=sp (K w.params)) KX G.T.g G.T.b G.T.builtins G.T.nolimit hg hobj hints (ycz hlen (by decide)) hr (nt w) t8 t9 G.T.bmain (fun base h1 h2=>?_) (fun s u=>.of_eq (hb [u] rfl)) fun H hS hP=>hsp _ H a ns hlen hS (by rw[eP];exact hP)
 obtain ⟨f',fd',ok,hm',_,_,o,lk',ho⟩:=(D base (LBof base h1 h2)).ex
 rw[hm] at hm'
 cases hm'
 obtain ⟨oc,od,kV,doc,pm,an,cdv,ct,osl,e,lk,_⟩:=Fn.ex
 rw[lk] at lk'
 cases lk'
 cases ho
 exact ok
namespace zaB
def Up (xs:Array Nat):Prop:=xs.toList.Pairwise (·<·)
theorem zlt {xs:Array Nat} (h:Up xs) {i j:Nat} (hi:i<j) (hj:j<xs.size) (d e:Nat):xs.getD i d<xs.getD j e:=by
 have hi':i<xs.size:=by ac_rfl
 have q:=yay.mp h i j (by simpa using hi') (by simpa using hj) hi
 simpa [ydz,hi',hj] using q
theorem zkh {xs:Array Nat} {j:Nat} (h:Up xs):∀ (fuel lo hi:Nat),lo<=hi->hi<=xs.size->hi-lo<=fuel->(∀ i,i<lo->xs.getD i j<j)->(∀ i,hi<=i->i<xs.size->j<=xs.getD i j) ->
  SetTable.below.go xs j fuel lo hi<=xs.size/\(∀ i,i<SetTable.below.go xs j fuel lo hi->xs.getD i j<j)/\∀ i,SetTable.below.go xs j fuel lo hi<=i->i<xs.size->j<=xs.getD i j
 | 0,lo,hi,h1,h2,h3,a,b=>by
  unfold SetTable.below.go
  exact ⟨by ac_rfl,a,fun i p q=>b i (by ac_rfl) q⟩
 | fuel+1,lo,hi,h1,h2,h3,a,b=>by
  unfold SetTable.below.go
  by_cases hl:lo<hi
  ·rw[if_pos hl]
   dsimp only
   by_cases hm:xs.getD ((lo+hi) / 2) j<j
   ·rw[if_pos hm]
    refine zkh h fuel _ hi (by ac_rfl) h2 (by ac_rfl) (fun i q=>?_) b
    by_cases e:i=(lo+hi) / 2
    ·rw[e];exact hm
    ·exact yde (zlt h (by ac_rfl) (by ac_rfl) j j) hm
   ·rw[if_neg hm]
    refine zkh h fuel lo _ (by ac_rfl) (by ac_rfl) (by ac_rfl) a (fun i q r=>?_)
    by_cases e:i=(lo+hi) / 2
    ·rw[e];ac_rfl
    ·have:=zlt h (i:=(lo+hi) / 2) (j:=i) (by ac_rfl) r j j
     ac_rfl
  ·rw[if_neg hl]
   exact ⟨by ac_rfl,a,fun i p q=>b i (by ac_rfl) q⟩
theorem zi9 {xs:Array Nat} (h:Up xs) (j:Nat):SetTable.below xs j<=xs.size/\(∀ i,i<SetTable.below xs j->xs.getD i j<j)/\∀ i,SetTable.below xs j<=i->i<xs.size->j<=xs.getD i j:=by
 unfold SetTable.below
 exact zkh h _ _ _ (ycy _) (ycu _) (by ac_rfl) (fun i q=>by ac_rfl) fun i p q=>by ac_rfl
theorem zo4 {xs:Array Nat} {j:Nat} (h:Up xs) (hj:xs[SetTable.below xs j]?≠some j):Up (SetTable.insertAt xs (SetTable.below xs j) j):=by
 obtain ⟨h0,h1,h2⟩:=zi9 h j
 generalize SetTable.below xs j=p at *
 unfold Up
 rw[SetTable.toList_insertAt]
 have e:xs.toList=xs.toList.take p++xs.toList.drop p:=(List.take_append_drop p _).symm
 have hp:(xs.toList.take p++xs.toList.drop p).Pairwise (·<·):=by rw[<-e];exact h
 obtain ⟨a,b,c⟩:=ybr.mp hp
 have lo:∀ x∈xs.toList.take p,x<j:=fun x hx=>by
  obtain ⟨i,hi,rfl⟩:=yaw.mp hx
  rw[ybc,ydv] at hi
  have:=h1 i (by ac_rfl)
  rw[List.getElem_take]
  simpa [ydz,show i<xs.size by ac_rfl] using this
 have hi:∀ x∈xs.toList.drop p,j<x:=fun x hx=>by
  obtain ⟨i,hi,rfl⟩:=yaw.mp hx
  rw[ybu,ydv] at hi
  have q:=h2 (p+i) (by ac_rfl) (by ac_rfl)
  rw[List.getElem_drop]
  have g:xs.getD (p+i) j=xs.toList[p+i]'(by rw[ydv];ac_rfl):=by simp[ydz,show p+i<xs.size by ac_rfl]
  rw[g] at q
  refine Nat.lt_of_le_of_ne q fun z=>?_
  by_cases i0:i=0
  ·subst i0
   apply hj
   rw[ydw (by ac_rfl:p<xs.size),z]
   simp
  ·have q0:=h2 p (ycu _) (by ac_rfl)
   have lt:=zlt h (i:=p) (j:=p+i) (by ac_rfl) (by ac_rfl) j j
   rw[g,<-z] at lt
   ac_rfl
 exact ybr.mpr ⟨a,ybl.mpr ⟨hi,b⟩,fun x hx y hy=>by
  rcases yak.mp hy with rfl | hy
  ·exact lo x hx
  ·exact c x hx y hy⟩
structure Tab (bt:Bool) (t:SetTable):Prop where
 led:t.led=!bt
 dum:t.dummies=#[]
 up:t.plain=true->Up t.place
theorem has_none (j:Nat):SetTable.has #[] j=false:=by simp[SetTable.has]
theorem zob {t:SetTable} (hd:t.dummies=#[]) (j:Nat):t.slot j≠.dummy:=by
 unfold SetTable.slot
 dsimp only
 split
 ·intro z;cases z
 ·rw[hd,has_none];intro z;simp at z
theorem ziA {t:SetTable} (hd:t.dummies=#[]) {f:Nat->Int} {h:Int}:∀ (fuel:Nat) (p:SetTable.Probe) {j:Nat} {d:Option Nat},p.dummy=none->SetTable.probe.go t f h fuel p=some (.empty j d)->d=none/\t.slot j=.empty
 | 0,p,j,d,hp,e=>by simp[SetTable.probe.go] at e
 | fuel+1,p,j,d,hp,e=>by
  have adv:∀ q:SetTable.Probe,q.dummy=none->(t.advance q).dummy=none:=fun q hq=>by
   unfold SetTable.advance
   split
   ·exact hq
   ·exact hq
  unfold SetTable.probe.go at e
  cases hs:t.slot p.j with
  | empty =>
   rw[hs] at e
   cases e
   exact ⟨hp,hs⟩
  | dummy=>exact absurd hs (zob hd _)
  | live i =>
   rw[hs] at e
   dsimp only at e
   split at e
   ·cases e
   ·exact ziA hd fuel _ (adv p hp) e
theorem zkD {t:SetTable} (hd:t.dummies=#[]) {h:Int} {j:Nat} {b:Bool} (e:t.freeSlot h=some (j,b)):t.place[SetTable.below t.place j]?≠some j:=by
 unfold SetTable.freeSlot at e
 split at e
 ·rename_i j' d' q
  obtain ⟨rfl,hs⟩:=ziA hd _ _ rfl (show SetTable.probe.go t _ h _ _=_ from q)
  cases e
  intro z
  have z':t.place[SetTable.below t.place j']?=some j':=z
  unfold SetTable.slot at hs
  dsimp only at hs
  rw[if_pos (by rw[z'];simp)] at hs
  cases hs
 ·cases e
theorem zft {bt:Bool} {t:SetTable} (T:Tab bt t) (n:Nat):Tab bt (t.standIn n):=⟨T.led,rfl,fun z=>by cases z⟩
theorem zn0 {bt:Bool} {t:SetTable} (T:Tab bt t) {j:Nat} (hj:t.place[SetTable.below t.place j]?≠some j):Tab bt (t.put j).1 :=
 ⟨T.led,by show (if SetTable.has t.dummies j then _ else t.dummies)=#[];rw[T.dum,has_none];rfl,fun z=>zo4 (T.up z) hj⟩
theorem zr0 {bt:Bool} {t:SetTable} (T:Tab bt t) (es:Array (Int × Value)) (h:Int) (x:Value):Tab bt (layNew t es h x).2.1:=by
 unfold layNew
 split
 ·rename_i j b e
  dsimp only
  unfold SetTable.orStandIn
  split
  ·exact zn0 T (zkD T.dum e)
  ·exact zft (zn0 T (zkD T.dum e)) _
 ·exact zft T _
theorem zrU (owner:Array (Option Nat)) (m:Nat):(((ybb m).filterMap fun j=>(owner.getD j none).map (fun k=>(j,k))).map (·.1)).Pairwise (·<·):=by
 have e:(((ybb m).filterMap fun j=>(owner.getD j none).map (fun k=>(j,k))).map (·.1))=(ybb m).filter fun j=>(owner.getD j none).isSome:=by
  generalize ybb m=l
  induction l with
  | nil=>rfl
  | cons a l ih =>
   cases q:owner.getD a none with
   | none=>rw[ycd,q,List.filter_cons,q];simpa using ih
   | some k=>rw[ycd,q,List.filter_cons,q];simpa using ih
 rw[e]
 exact List.Pairwise.filter _ (List.pairwise_lt_range)
theorem zs3 {bt:Bool} {t:SetTable} (T:Tab bt t) (es:Array (Int × Value)) (n:Nat):Tab bt (relayAll t es n).2.1:=by
 unfold relayAll
 split
 ·rename_i t' order e
  dsimp only
  split
  ·unfold SetTable.relaid SetTable.laid at e
   simp only[Option.bind_eq_bind,Option.bind_eq_some_iff] at e
   obtain ⟨owner,_,e⟩:=e
   cases e
   refine ⟨T.led,rfl,fun _=>?_⟩
   unfold Up
   simpa using zrU owner _
  ·exact zft T _
 ·exact zft T _
theorem zpC (bt:Bool):Tab bt (.fresh 0 0 (!bt)):=⟨rfl,rfl,fun _=>List.Pairwise.nil⟩
end zaB
namespace zaB
noncomputable def intOf:Value->Int
 | .int i _=>i
 | _=>0
theorem zl0 {k:Int} {v:Value} (h:Value.isInt k v=true):intOf v=k:=by
 obtain ⟨t,rfl⟩:=Value.isInt_shape h
 rfl
structure zcz (prog:Program) (w:World) (h:Heap) (a:Addr) (ms:List Int):Prop where
 ex:∃ o es ep t,(h.get? a=some o/\o.ExactSet/\o.data=.set es ep t)/\(ElemsOf (intKind prog w) es.toList/\es.size<scanBound/\t.fits es.size=true)/\Tab (w.params.followText "set-order") t /\
  es.toList.map (fun e=>intOf e.2)=ms
 nd:ms.Nodup
theorem zmh {prog:Program} {w:World} {l:List (Int × Value)} (hl:ElemsOf (intKind prog w) l) (k:Int):(∃ e∈l,Value.isInt k e.2=true)↔k∈l.map fun e=>intOf e.2:=by
 constructor
 ·rintro ⟨e,he,q⟩
  exact yao.mpr ⟨e,he,zl0 q⟩
 ·intro q
  obtain ⟨e,he,rfl⟩:=yao.mp q
  obtain ⟨⟨k',hk,_⟩,_⟩:=hl e he
  refine ⟨e,he,?_⟩
  rw[zl0 hk];exact hk
section
variable {prog:Program} {w:World} {A:Around} {E:Value->Shared->Prop} {s:Shared} {a:Addr} {ms:List Int} {k:Int} {tk:Tok}
theorem xadd {Q:Bool->Shared->Prop} (S:zcz prog w s.heap a ms) (room:ms.length+1<scanBound)
  (hQ:∀ b h' ms',Heap.SameBut a s.heap h'->zcz prog w h' a ms'->(∀ m,m∈ms'↔m∈ms\/m=k)->ms'.length<=ms.length+1->Q b { s with heap:=h' }) :
  wpAny (model prog w) A (setAddHashed a (.int k tk) (hashInt k)) Q E s:=by
 obtain ⟨⟨o,es,ep,t,⟨ho,hex,hd⟩,⟨hel,hb,hf⟩,T,rfl⟩,nd⟩:=S
 have hlen:(es.toList.map fun e=>intOf e.2).length=es.size:=by simp
 have hkey:(intKind prog w).is k (.int k tk)=true:=intKind_is prog w k tk
 unfold setAddHashed setAddHashedIn
 refine wpAny_holding (wpAny_bind (wpAny_setState_of ho hd hf ?_))
 dsimp only
 rw[byScan_of (knd:=intKind prog w) rfl hb hel]
 simp only[↓reduceIte]
 unfold setAddByScan
 refine wpAny_bind (wpAny_bind (wpAny_rule (wpAny_bind (wpAny_setScan_of (knd:=intKind prog w) hkey ho hd hf hel ?_))))
 cases hr:List.findIdx? (fun e=>(intKind prog w).is k e.2) es.toList with
 | some j =>
  obtain ⟨hj,hpj,_⟩:=List.findIdx?_eq_some_iff_getElem.mp hr
  have hm:k∈es.toList.map fun e=>intOf e.2:=(zmh hel k).mp ⟨es.toList[j],yci hj,hpj⟩
  refine wpAny_pure (wpAny_pure ?_)
  have z:=hQ false s.heap _ (Heap.SameBut.refl a s.heap) ⟨⟨o,es,ep,t,⟨ho,hex,hd⟩,⟨hel,hb,hf⟩,T,rfl⟩,nd⟩ (fun m=>⟨.inl,fun q=>q.elim id fun e=>e ▸ hm⟩) (by ac_rfl)
  exact z
 | none =>
  have hm:k ∉ es.toList.map fun e=>intOf e.2:=fun q=>by
   obtain ⟨e,he,hp⟩:=(zmh hel k).mpr q
   have:=List.findIdx?_eq_none_iff.mp hr e he
   rw[show (intKind prog w).is k e.2=true from hp] at this
   cases this
  dsimp only
  have hperm:=layNew_perm t es (hashInt k) (.int k tk)
  have hfits:=layNew_fits t es (hashInt k) (.int k tk)
  have T1:=zr0 T es (hashInt k) (.int k tk)
  generalize layNew t es (hashInt k) (.int k tk)=L at hperm hfits T1 ⊢
  obtain ⟨es1,t1,dm,gave⟩:=L
  dsimp only at hperm hfits T1 ⊢
  rw[Array.toList_push] at hperm
  have el1:ElemsOf (intKind prog w) es1.toList:=(hel.push (k:=k) hkey rfl).perm hperm
  have sz1:es1.size=es.size+1:=by rw[<-ydv,hperm.length_eq,yaf,ydv];rfl
  have hb1:es1.size<scanBound:=by ac_rfl
  have pm:(es1.toList.map fun e=>intOf e.2).Perm ((es.toList.map fun e=>intOf e.2)++[k]):=by
   have:=hperm.map fun e=>intOf e.2
   rw[yba] at this
   exact this
  have nd1:(es1.toList.map fun e=>intOf e.2).Nodup:=pm.nodup_iff.mpr (List.nodup_append.mpr ⟨nd,(ybs _ _),fun x hx y hy z=>hm (by rw[ybh] at hy;rw[<-hy,<-z];exact hx)⟩)
  have mm:∀ m,m∈(es1.toList.map fun e=>intOf e.2)↔m∈(es.toList.map fun e=>intOf e.2)\/m=k:=fun m=>by rw[pm.mem_iff,yal,ybh]
  have len1:(es1.toList.map fun e=>intOf e.2).length<=(es.toList.map fun e=>intOf e.2).length+1:=by rw[pm.length_eq,yaf];exact ycu _
  have fin:∀ h' es2 t2 ep2 o2,(h'.get? a=some o2/\o2.ExactSet/\o2.data=.set es2 ep2 t2)->es2.toList.Perm es1.toList->t2.fits es2.size=true->Tab (w.params.followText "set-order") t2->Heap.SameBut a s.heap h'->Q true { s with heap:=h' } :=
   fun h' es2 t2 ep2 o2 hg p2 f2 T2 sb=>by
    have q2:=p2.map fun e=>intOf e.2
    have z2:es2.size=es1.size:=by rw[<-ydv,p2.length_eq,ydv]
    refine hQ true h' _ sb ⟨⟨o2,es2,ep2,t2,hg,⟨el1.perm p2,by ac_rfl,f2⟩,T2,rfl⟩,q2.nodup_iff.mpr nd1⟩ (fun m=>(q2.mem_iff).trans (mm m)) ?_
    rw[q2.length_eq];exact len1
  have put:∀ {h:Heap} {o1:Obj} {e1:Array (Int × Value)} {p1:Nat} {u1:SetTable},h.get? a=some o1->o1.ExactSet->o1.data=.set e1 p1 u1->∀ (e2:Array (Int × Value)) (u2:SetTable),
    (h.update a (Obj.putSet e2 u2)).get? a=some { o1 with data:=.set e2 (p1+1) u2 }:=fun {h o1 e1 p1 u1} q1 _ q3 e2 u2=>by
   have z:=ydo (Obj.putSet e2 u2) q1 (by rw[putSet_of e2 u2 q3];rfl)
   rw[putSet_of e2 u2 q3] at z
   exact z
  have tl:∀ (Q':Option Bool->Shared->Prop),(∀ h',Q true { s with heap:=h' }->Q' (some true) { s with heap:=h' })->wpAny (model prog w) A (storeSet a es1 t1) (fun _ s1=>(dm=false/\t1.tooFull=true->∀ g:Sem Unit,(∀ Q₀:Unit->Shared->Prop,Q₀ () s1->wpAny (model prog w) A g Q₀ E s1) ->
    wpAny (model prog w) A (g >>= fun _=>storeSet a (relayAll t1 es1 (SetTable.grown es1.size)).1 (relayAll t1 es1 (SetTable.grown es1.size)).2.1 >>= fun _=>pure (some true)) Q' E s1)/\Q' (some true) s1) E s:=fun Q' hq=>by
   refine wpAny_storeSet_of ho hd ?_ (fits_of_scanBound hb1)
   have g1:=put ho hex hd es1 t1
   have sb1:=Heap.SameBut.update s.heap a (Obj.putSet es1 t1)
   refine ⟨fun _ g hg=>wpAny_bind (hg _ ?_),hq _ (fin _ es1 t1 _ _ ⟨g1,hex,rfl⟩ .rfl hfits T1 sb1)⟩
   have p2:=relayAll_perm t1 es1 (SetTable.grown es1.size)
   have f2:=relayAll_fits t1 es1 (SetTable.grown es1.size)
   have T2:=zs3 T1 es1 (SetTable.grown es1.size)
   generalize relayAll t1 es1 (SetTable.grown es1.size)=L2 at p2 f2 T2 ⊢
   obtain ⟨es2,t2,gv2⟩:=L2
   dsimp only at p2 f2 T2 ⊢
   have z2:es2.size=es1.size:=by rw[<-ydv,p2.length_eq,ydv]
   refine wpAny_bind (wpAny_storeSet_of g1 rfl (wpAny_pure (hq _ ?_)) (fits_of_scanBound (by ac_rfl)))
   exact fin _ es2 t2 _ _ ⟨put g1 hex rfl es2 t2,hex,rfl⟩ p2 f2 T2 (sb1.trans (Heap.SameBut.update _ a _))
  refine wpAny_bind ?_
  cases gave
  all_goals
   first | refine wpAny_pure ?_ | refine wpAny_rule ?_
   split
   all_goals
    refine wpAny_bind ?_
    try rw[hashByValue_scannable 8 (show (Value.int k tk).scannable=true from rfl)]
    refine wpAny_pure ?_
    simp only[plainKind,↓reduceIte]
    refine wpAny_bind (wpAny_mono (tl (fun r s'=>wpAny (model prog w) A (match r with | some added=>pure added | none=>setAddHashedIn a (Value.int k tk) (hashInt k) 99999) Q E s') fun h' z=>wpAny_pure z) (fun _ s1 hz=>?_) fun _ _ z=>z)
    obtain ⟨hz1,hz2⟩:=hz
    split
    ·rename_i hc
     simp only[Bool.and_eq_true,Bool.not_eq_true'] at hc
     refine hz1 hc _ fun Q₀ q₀=>?_
     generalize (relayAll t1 es1 (SetTable.grown es1.size)).2.2=gb
     cases gb
     ·exact wpAny_pure q₀
     ·exact wpAny_rule q₀
    ·exact wpAny_pure hz2
end
end zaB
namespace zaB
theorem zcz.keep {prog:Program} {w:World} {h h':Heap} {a:Addr} {ms:List Int} (S:zcz prog w h a ms) (k:∀ o,h.get? a=some o->h'.get? a=some o):zcz prog w h' a ms:=by
 obtain ⟨⟨o,es,ep,t,⟨ho,r⟩,r2⟩,nd⟩:=S
 exact ⟨⟨o,es,ep,t,⟨k o ho,r⟩,r2⟩,nd⟩
section
variable {prog:Program} {w:World} {A:Around} {R:Result->Shared->Prop} {I a:Addr} {fp wr:List Addr} {G:Array GenState->Array GenState->Prop} {n:Nat} {P:Nat->Value->Prop} {St:Nat->Shared->Prop} {val:Nat->Int}
theorem xloop (W:WalksS prog w A.in1 I fp wr G n P St) (ha:a ∉ fp) (hval:∀ i v,P i v->∃ t,v=.int (val i) t) (hb:n+1<scanBound):∀ (k i:Nat) (s:Shared) (ms:List Int),n-i=k->i<=n->St i s->zcz prog w s.heap a ms ->
   (∀ m,m∈ms↔m∈(ybb i).map val)->ms.length<=i ->
   (∀ s' ms',Moved (a::wr) G s s'->zcz prog w s'.heap a ms'->(∀ m,m∈ms'↔m∈(ybb n).map val)->ms'.length<=n->R (.ok (.ret .none)) s') ->
   codeAny (model prog w) A (.builtin "set.update.loop" ⟨[.ref a,.ref I],[]⟩) R s:=by
 have aw:a ∉ wr:=fun z=>ha (W.sub _ z)
 have sub:∀ b∈wr,b∈a::wr:=fun b z=>yaj _ z
 intro k
 induction k with
 | zero =>
  intro i s ms hk hi st S mm hl hR
  obtain rfl:i=n:=by ac_rfl
  refine codeAny_builtin PyProof.Rows.F.entry_set_update_loop ?_
  rw[Around.under_plainId PyProof.Rows.F.plain_set_update_loop _]
  show wpAny _ A.in1 (pyNext (.ref I) >>= _) _ _ s
  refine wpAny_bind (W.done s _ _ st fun s' mv=>wpAny_pure (hR s' ms (mv.mono sub) (S.keep fun o e=>mv.heap a o aw e) mm hl))
 | succ k ih =>
  intro i s ms hk hi st S mm hl hR
  have lt:i<n:=by ac_rfl
  refine codeAny_builtin PyProof.Rows.F.entry_set_update_loop ?_
  rw[Around.under_plainId PyProof.Rows.F.plain_set_update_loop _]
  show wpAny _ A.in1 (pyNext (.ref I) >>= _) _ _ s
  refine wpAny_bind (W.item i s _ _ lt st fun v s' hP st' mv=>?_)
  obtain ⟨t,rfl⟩:=hval i v hP
  have S':=S.keep (h':=s'.heap) fun o e=>mv.heap a o aw e
  show wpAny _ A.in1 (holding [Value.int (val i) t] (setAdd a (.int (val i) t)) >>= _) _ _ s'
  refine wpAny_bind (wpAny_holding ?_)
  unfold setAdd
  refine wpAny_holding (wpAny_bind ((intKind prog w).pyHash (k:=val i) (intKind_is _ _ _ _) ?_))
  refine xadd (s:={ s' with toks:=s'.toks+1 }) (ms:=ms) S' (by ac_rfl) fun b h' ms' sb S2 mm2 l2=>?_
  refine wpAny_pure ⟨plainId_quiet PyProof.Rows.F.plain_set_update_loop _,ih (i+1) _ ms' (by ac_rfl) lt (W.frame _ s' _ _ st' (ydf _) fun b hb o e=>?_) S2 (fun m=>?_) (by ac_rfl) fun s2 ms2 mv2=>hR s2 ms2 ?_⟩
  ·rw[sb.2 b (fun z:b=a=>ha (by rw[<-z];exact hb))];exact e
  ·rw[mm2,mm,List.range_succ,yba,yal]
   simp
  ·refine Moved.trans W.gtrans ((mv.mono sub).then_heap (ydf _) fun b o hb e=>?_) mv2
   rw[sb.2 b (fun z:b=a=>hb (by rw[z];exact yai))];exact e
end
section
variable {prog:Program} {w:World} {A:Around} {E:Value->Shared->Prop} {s:Shared}
noncomputable abbrev empty (w:World):Obj:={ cls:=.type "set", dict:=none,data:=.set #[] 0 (.fresh 0 0 (!w.params.followText "set-order")) }
theorem zt7 (v:Value) {R:Result->Shared->Prop} (h:R (.ok (.ret (.ref s.heap.objs.size))) { s with heap:=s.heap.push (empty w) }) :
  codeAny (model prog w) A (.call (.builtin "set.__new__") ⟨[.type "set", v],[]⟩) R s:=by
 refine codeAny_of_tree ?_
 show wpAny _ A.in1 (checkBuiltinCall "set.__new__" ⟨[.type "set", v],[]⟩ >>= fun _=>again (.builtin "set.__new__" ⟨[.type "set", v],[]⟩)) _ _ s
 refine wpAny_bind (wpAny_of_eq (PySem.F.newCall_set_1 v) (wpAny_pure ⟨plainId_quiet PySem.F.plain_set_new _,codeAny_builtin PySem.F.entry_set_new ?_⟩))
 rw[Around.under_plainId PySem.F.plain_set_new _]
 unfold Builtin.«set.__new__» Builtin.Frozenset.newClass
 have sub:=sub_set_self
 obtain ⟨hp,g,d,tk,os⟩:=s
 dsimp only
 wp_walk
 refine wpAny_askSetting (wpAny_pure ?_)
 simp only[newObj]
 refine wpAny_bind (wpAny_alloc (wpAny_pure (wpAny_pure ?_)))
 exact h
theorem zo1 {h:Heap}:zcz prog w (h.push (empty w)) h.objs.size [] :=
 ⟨⟨_,#[],0,_,⟨ydm _ rfl,⟨rfl,rfl,rfl⟩,rfl⟩,⟨(fun e he=>by simp at he),by decide,rfl⟩,zpC _,rfl⟩,List.Pairwise.nil⟩
end
end zaB
namespace zaB
section
variable {prog:Program} {w:World} {A:Around} {E:Value->Shared->Prop} {s:Shared}
theorem zof:∀ ns:List Int,(ybb ns.length).map (fun i=>ns.getD i 0)=ns:=fun ns=>by
 apply ycc
 intro i
 rw[yam]
 by_cases h:i<ns.length
 ·rw[ycg h,yaa h]
  simp[h]
 ·rw[yaq (by rw[List.length_range];ac_rfl),yaq (by ac_rfl)]
  rfl
theorem zth {l:Addr} {items:Array Value} {ns:List Int} (hh:A.handled=none) (hl:s.heap.IsList l items) (hi:IntsAre items.toList ns) (hb:items.size+1<scanBound) {R:Result->Shared->Prop}
  (h:∀ h' tk ms,zcz prog w h' s.heap.objs.size ms->(∀ m,m∈ms↔m∈ns)->ms.length<=ns.length->(∀ b o,b<s.heap.objs.size->s.heap.get? b=some o->h'.get? b=some o)->R (.ok (.ret .none)) { s with heap:=h',toks:=tk }) :
  codeAny (model prog w) A (.call (.builtin "set.__init__") ⟨[.ref s.heap.objs.size,.ref l],[]⟩) R { s with heap:=s.heap.push (empty w) }:=by
 have hn:items.size=ns.length:=by rw[<-IntsAre.length hi];simp
 have at0:(s.heap.push (empty w)).get? s.heap.objs.size=some (empty w):=ydm _ rfl
 have ty:Shared.TypeIs { s with heap:=s.heap.push (empty w) } (.ref s.heap.objs.size) "set" := ⟨_,at0,rfl⟩
 refine codeAny_call_builtin PySem.F.called_set.init.plain PySem.F.entry_set_init (check_set_init_1 ty ?_)
 obtain ⟨ol,hol,hcl,nl,hdl⟩:=id hl
 have lS:l<s.heap.objs.size:=ydl hol
 obtain ⟨oc,od,odt,osl⟩:=ol
 dsimp only at hcl hdl
 subst hcl hdl
 have hol':=ydk (empty w) hol
 have n1:=PySem.F.sub_list_set
 have n2:=PySem.F.sub_list_frozenset
 have n3:(Value.type "list" == Value.type "dict")=false:=by decide
 have l1:(s.heap.push (empty w)).IsList l items:=⟨_,hol',rfl,nl,rfl⟩
 unfold Builtin.«set.__init__» noKeywords Builtin.Frozenset.updateFrom
 generalize hPI:pyIter=PI
 wp_walk
 subst hPI
 refine wpAny_pyIter_list l1 (wpAny_bind (wpAny_runValue ?_))
 have h3:A.in1.in1.handled=none:=by simp[hh]
 have sz:(s.heap.push (empty w)).objs.size=s.heap.objs.size+1:=ydq _ _
 have ne:l≠(s.heap.push (empty w)).objs.size:=by rw[sz];exact ycv (ydc lS)
 have nf:s.heap.objs.size ∉ [(s.heap.push (empty w)).objs.size,l]:=by
  rw[sz]
  simp only[yak,ybe,or_false,not_or]
  exact ⟨ycv (ydb _),ydd lS⟩
 have S0:zcz prog w ((s.heap.push (empty w)).push { cls:=.type "list_iterator", data:=.fields #[.ref l,.int 0 0] }) s.heap.objs.size []:=zo1.keep fun o e=>ydk _ e
 refine xloop (val:=fun i=>ns.getD i 0) ((Walks.list h3 _ l ne items).toS) nf (fun i v q=>IntsAre.int_at hi i v (by rw[ydy];exact q)) hb (items.size-0) 0 _ [] (by ac_rfl) (ycy _)
  ?xst ?xS (fun m=>by simp) (ycy _) ?_
 case xst=>exact ⟨⟨_,ydm _ rfl,rfl,rfl⟩,l1.push _⟩
 case xS=>exact S0
 intro s' ms mv S mm len
 obtain ⟨h',g',d',tk',os'⟩:=s'
 obtain rfl:g'=s.gens:=mv.gens
 obtain rfl:d'=s.drawn:=mv.drawn
 obtain rfl:os'=s.os:=mv.os
 refine wpAny_pure ?_
 show wpAny _ _ (ret Value.none) _ _ _
 refine wpAny_pure (h h' tk' ms S (fun m=>?_) (by ac_rfl) fun b o lt e=>?_)
 ·rw[mm,hn,zof]
 ·refine mv.heap b o ?_ (ydk _ (ydk _ e))
  rw[sz]
  simp only[yak,ybe,or_false,not_or]
  exact ⟨ycv lt,ycv (ydc lt)⟩
set_option maxHeartbeats 3200000 in
theorem znG {l:Addr} {items:Array Value} {ns:List Int} (hh:A.handled=none) (hl:s.heap.IsList l items) (hi:IntsAre items.toList ns) (hb:items.size+1<scanBound) {Q:Value->Shared->Prop}
  (h:∀ h' tk ms,zcz prog w h' s.heap.objs.size ms->(∀ m,m∈ms↔m∈ns)->ms.length<=ns.length->(∀ b o,b<s.heap.objs.size->s.heap.get? b=some o->h'.get? b=some o)->Q (.ref s.heap.objs.size) { s with heap:=h',toks:=tk }) :
  wpAny (model prog w) A (call (.type "set") [.ref l]) Q E s:=by
 obtain ⟨c,tl,hmro⟩:=PySem.F.called_set.mro
 have m1:=PySem.F.called_set.made
 have m2:=PySem.F.called_set.sub
 have m3:=PySem.F.called_set.notType
 have m4:=PySem.F.called_set.canCreate
 have m5:=PySem.F.typeCall_set_1 (.ref l)
 refine wpAny_call (codeAny_of_tree ?_)
 show wpAny _ _ (callAny (.type "set") _) _ _ _
 refine wpAny_pure ⟨Code.quiet_builtin _ (by decide +kernel),codeAny_builtin PySem.F.entry_type_call ?_⟩
 rw[Around.under_plain (weight_type_call_type "set" [.ref l] []) rfl]
 repeat (any_goals (first | assumption | wp_step))
 refine zt7 (.ref l) ?_
 have at0:(s.heap.push (empty w)).get? s.heap.objs.size=some (empty w):=ydm _ rfl
 have ty:Shared.TypeIs { s with heap:=s.heap.push (empty w) } (.ref s.heap.objs.size) "set" := ⟨_,at0,rfl⟩
 have i1:=PySem.F.called_set.init.lookup
 have i2:=PySem.F.called_set.init.bind (.ref s.heap.objs.size)
 show wpAny _ _ _ _ _ _
 repeat (any_goals (first | assumption | wp_step))
 refine zth (by simp[hh]) hl hi hb fun h' tk ms S mm len kp=>?_
 show wpAny _ _ _ _ _ _
 repeat (any_goals (first | assumption | wp_step))
 exact h _ _ _ S mm len kp
end
end zaB
namespace zaB
theorem zeA:Slot "set_iterator" "__next__" "set_iterator.__next__" := .of (owner:="set_iterator") (n:="__next__") (by rw[typeLookup_type,builtinLookup_eq_fast];kernel_rfl) (by decide +kernel) (by decide +kernel) (by decide +kernel)
 (by first | exact .inl (by decide +kernel) | exact .inr (by decide +kernel)) (by rw[isSubtype_type];kernel_rfl)
theorem znK:Slot "set_iterator" "__iter__" "set_iterator.__iter__" := .of (owner:="set_iterator") (n:="__iter__") (by rw[typeLookup_type,builtinLookup_eq_fast];kernel_rfl) (by decide +kernel) (by decide +kernel) (by decide +kernel)
 (by first | exact .inl (by decide +kernel) | exact .inr (by decide +kernel)) (by rw[isSubtype_type];kernel_rfl)
theorem znW:entryFor table "set_iterator.__next__" = some Builtin.«set_iterator.__next__»:=entryFor_of_tree (by kernel_rfl)
theorem zrD:entryFor table "set_iterator.__iter__" = some Builtin.«dict_keyiterator.__iter__»:=entryFor_alias (id' := "dict_keyiterator.__iter__") (by rw[fastTable_eq_tree];kernel_rfl) rfl (by rw[PySem.W.S.canonicalS_eq];kernel_rfl) (by rw[fastTable_eq_tree];kernel_rfl)
theorem zp8:entryFor table "set.__iter__" = some Builtin.«frozenset.__iter__»:=entryFor_alias (id' := "frozenset.__iter__") (by rw[fastTable_eq_tree];kernel_rfl) rfl (by rw[PySem.W.S.canonicalS_eq];kernel_rfl) (by rw[fastTable_eq_tree];kernel_rfl)
theorem znR (a:Value):argsOk "set_iterator.__next__" ⟨[a],[]⟩:=by unfold argsOk;kernel_rfl
theorem zrE (a:Value):argsOk "set_iterator.__iter__" ⟨[a],[]⟩:=by unfold argsOk;kernel_rfl
def zbu (h:Heap) (I a:Addr) (first:Value) (i n ep:Nat):Prop:=∃ o,h.get? I=some o/\o.cls=.type "set_iterator" /\ o.data=.fields #[first,.int i 0,.ref a,.int n 0,.int ep 0]
theorem zbu.ty {s:Shared} {I a:Addr} {first:Value} {i n ep:Nat} (h:zbu s.heap I a first i n ep):s.TypeIs (.ref I) "set_iterator" := let ⟨_,a,b,_⟩:=h;⟨_,a,b⟩
theorem zbu.keep {h h':Heap} {I a:Addr} {first:Value} {i n ep:Nat} (x:zbu h I a first i n ep) (k:∀ o,h.get? I=some o->h'.get? I=some o):zbu h' I a first i n ep:=let ⟨o,a,b⟩:=x;⟨o,k o a,b⟩
def zbo (h:Heap) (a:Addr) (es:Array (Int × Value)) (ep:Nat) (t:SetTable):Prop:=∃ o,h.get? a=some o/\o.data=.set es ep t/\t.fits es.size=true
theorem zbo.keep {h h':Heap} {a:Addr} {es:Array (Int × Value)} {ep:Nat} {t:SetTable} (x:zbo h a es ep t) (k:∀ o,h.get? a=some o->h'.get? a=some o):zbo h' a es ep t:=let ⟨o,a,b⟩:=x;⟨o,k o a,b⟩
section
variable {prog:Program} {w:World} {A:Around} {E:Value->Shared->Prop} {s:Shared} {I a:Addr} {es:Array (Int × Value)} {ep:Nat} {t:SetTable}
theorem zby {Q:(Array (Int × Value) × Nat × SetTable)->Shared->Prop} (O:zbo s.heap a es ep t) (h:Q (es,ep,t) s):wpAny (model prog w) A (setState a) Q E s:=by
 obtain ⟨o,ho,hd,hf⟩:=O
 exact wpAny_setState_of ho hd hf h
theorem zkC {first:Value} {i n:Nat} {Q:Value->Shared->Prop} (h:zbu s.heap I a first i n ep) (q:Q (.ref I) s):wpAny (model prog w) A (pyIter (.ref I)) Q E s:=by
 refine wpAny_pyIter_slot h.ty znK (wpAny_call_entry znK h.ty zrD ?_ (zrE _))
 exact wpAny_pure ⟨_,rfl, "set_iterator", _,h.ty,zeA.lookup,q⟩
theorem zkM {Q:Option Value->Shared->Prop} {h1:Heap} (hh:A.handled=none) (q:∀ h',(∀ b o,h1.get? b=some o->h'.get? b=some o)->Q none { s with heap:=h' }) :
  wpAny (model prog w) A.in1 (newExc (.type "StopIteration") [] >>= fun e=>raiseNew e:Sem Fin) (fun fin s'=>∃ v,fin=.done (.ret v)/\wpAny (model prog w) A (match (Except.ok (some v):Except Value (Option Value)) with | .ok (some v)=>pure (some v) | .ok none=>unsupported "iter:the-iterator's-class-has-lost-its-__next__-amid-the-walk" | .error e=>do if <-isInstance e (.type "StopIteration") then pure none else throw e) Q E s')
   (fun e s'=>wpAny (model prog w) A (do if <-isInstance e (.type "StopIteration") then pure none else throw e) Q E s') { s with heap:=h1 }:=by
 refine wpAny_bind ?_
 simp only[newExc,newTuple]
 refine wpAny_bind (wpAny_newObj_type ?_ (by size_fits))
 refine wpAny_bind (m:=firstArgMember _ _) (wpAny_of_eq (a:=Value.none) (by first | rfl | (simp only[firstArgMember];rfl)) ?_)
 refine wpAny_newObj_type ?_ (by size_fits)
 simp only[raiseNew]
 refine wpAny_bind (wpAny_handled ?_)
 rw[show A.in1.handled=none from hh]
 refine wpAny_bind (wpAny_pure (wpAny_throw ?_))
 refine wpAny_bind (wpAny_isInstance (T:="StopIteration") (b:=true) ⟨_,ydm _ rfl,rfl⟩ isSubtype_stop ?_)
 exact wpAny_pure (q _ fun b o e=>ydk _ (ydk _ e))
end
end zaB
namespace zaB
section
variable {prog:Program} {w:World} {A:Around} {E:Value->Shared->Prop} {s:Shared} {I a:Addr} {es:Array (Int × Value)} {ep:Nat} {t:SetTable}
theorem zfv {h:Heap} {o:Obj} {vs:Array Value} {j:Nat} {x:Value} (ho:h.get? I=some o) (hd:o.data=.fields vs):(h.update I (Obj.mapFields (·.setIfInBounds j x))).get? I=some (Obj.mapFields (·.setIfInBounds j x) o) :=
 ydo _ ho (Obj.isFreed_of_fields (Obj.data_mapFields hd _))
theorem zmF {F i:Nat} {r:Option (Value × Nat)} {Q:Option Value->Shared->Prop} (hh:A.handled=none) (It:zbu s.heap I a (.int F 0) i es.size ep) (O:zbo s.heap a es ep t)
  (st:∀ (A':Around) (E':Value->Shared->Prop) (Q':Option (Value × Nat)->Shared->Prop),Q' r s->wpAny (model prog w) A' (setNext a F i ep) Q' E' s)
  (h1:∀ x F',r=some (x,F')->∀ h',Heap.SameBut I s.heap h'->zbu h' I a (.int F' 0) (i+1) es.size ep->Q (some x) { s with heap:=h' })
  (h2:r=none->∀ h',(∀ b o,b≠I->s.heap.get? b=some o->h'.get? b=some o)->Q none { s with heap:=h' }):wpAny (model prog w) A (pyNext (.ref I)) Q E s:=by
 obtain ⟨o,ho,hc,hd⟩:=id It
 unfold pyNext
 refine wpAny_bind (wpAny_attempt (wpAny_callSpecial?_slot (name:=Str.ofString "__next__") It.ty zeA (wpAny_call_entry zeA It.ty znW ?_ (znR _))))
 unfold Builtin.«set_iterator.__next__»
 refine wpAny_bind (wpAny_of_eq (a:=(Value.ref I,[])) rfl ?_)
 show wpAny _ _ (fieldsOf (.ref I) >>= _) _ _ s
 refine wpAny_bind (wpAny_fieldsOf ho hd ?_)
 show wpAny _ _ (setEntries a >>= _) _ _ s
 refine wpAny_bind ?_
 unfold setEntries
 refine wpAny_bind (zby O (wpAny_pure ?_))
 dsimp only
 rw[if_neg (by simp)]
 simp only[Int.toNat_natCast]
 refine wpAny_bind (st _ _ _ ?_)
 cases r with
 | some xf =>
  obtain ⟨x,F'⟩:=xf
  refine wpAny_bind (wpAny_setField ho hd (by simp) ?_)
  have ho1:=zfv (j:=0) (x:=rawInt F') ho hd
  have hd1:=Obj.data_mapFields hd (f:=(·.setIfInBounds 0 (rawInt F')))
  refine wpAny_bind (wpAny_setField ho1 hd1 (by simp) (wpAny_pure ⟨x,rfl,wpAny_pure (h1 x F' rfl _ ((Heap.SameBut.update ..).trans (Heap.SameBut.update ..)) ?_)⟩))
  refine ⟨_,zfv ho1 hd1,(Obj.cls_mapFields ..).trans ((Obj.cls_mapFields ..).trans hc),?_⟩
  rw[Obj.data_mapFields hd1]
  simp[rawInt]
 | none =>
  refine wpAny_bind (wpAny_setField ho hd (by simp) ?_)
  refine zkM hh fun h' k=>h2 rfl h' fun b o hb e=>k b o ?_
  exact (ydp _ _ _ _ hb).trans e
end
end zaB
namespace zaB
section
variable {prog:Program} {w:World} {A:Around} {E:Value->Shared->Prop} {s:Shared} {I a T:Addr} {es:Array (Int × Value)} {ep:Nat} {t:SetTable} {ps:Array Value}
def zdo (h:Heap) (T:Addr) (ps:Array Value):Prop:=∃ o n,h.get? T=some o/\o.data=.seq ps n
theorem zdo.keep {h h':Heap} (x:zdo h T ps) (k:∀ o,h.get? T=some o->h'.get? T=some o):zdo h' T ps:=let ⟨o,n,a,b⟩:=x;⟨o,n,k o a,b⟩
theorem zi0 {i:Nat} {Q:Option Value->Shared->Prop} (hh:A.handled=none) (It:zbu s.heap I a (.ref T) i es.size ep) (O:zbo s.heap a es ep t) (P:zdo s.heap T ps)
  (h1:∀ p,ps[i]?=some (.int p 0)->∀ k x,es[p.toNat]?=some (k,x)->∀ h',Heap.SameBut I s.heap h'->zbu h' I a (.ref T) (i+1) es.size ep->Q (some x) { s with heap:=h' })
  (h2:ps[i]?=none->∀ h',(∀ b o,b≠I->s.heap.get? b=some o->h'.get? b=some o)->Q none { s with heap:=h' })
  (hp:ps[i]?=none\/∃ p k x,ps[i]?=some (.int p 0)/\es[p.toNat]?=some (k,x)):wpAny (model prog w) A (pyNext (.ref I)) Q E s:=by
 obtain ⟨o,ho,hc,hd⟩:=id It
 obtain ⟨oT,nT,hT,hdT⟩:=P
 unfold pyNext
 refine wpAny_bind (wpAny_attempt (wpAny_callSpecial?_slot (name:=Str.ofString "__next__") It.ty zeA (wpAny_call_entry zeA It.ty znW ?_ (znR _))))
 unfold Builtin.«set_iterator.__next__»
 refine wpAny_bind (wpAny_of_eq (a:=(Value.ref I,[])) rfl ?_)
 show wpAny _ _ (fieldsOf (.ref I) >>= _) _ _ s
 refine wpAny_bind (wpAny_fieldsOf ho hd ?_)
 show wpAny _ _ (setEntries a >>= _) _ _ s
 refine wpAny_bind ?_
 unfold setEntries
 refine wpAny_bind (zby O (wpAny_pure ?_))
 dsimp only
 rw[if_neg (by simp)]
 simp only[Int.toNat_natCast]
 refine wpAny_bind (wpAny_seqItems hT hdT ?_)
 dsimp only
 rcases hp with hp | ⟨p,k,x,hp,hx⟩
 ·rw[hp]
  refine wpAny_bind (wpAny_setField ho hd (by simp) ?_)
  have ho1:=zfv (j:=0) (x:=rawInt 0) ho hd
  have hd1:=Obj.data_mapFields hd (f:=(·.setIfInBounds 0 (rawInt 0)))
  refine wpAny_bind (wpAny_setField ho1 hd1 (by simp) ?_)
  refine zkM hh fun h' k=>h2 hp h' fun b o hb e=>k b o ?_
  exact (ydp _ _ _ _ hb).trans ((ydp _ _ _ _ hb).trans e)
 ·rw[hp]
  dsimp only
  refine wpAny_bind ?_
  unfold setNextDrawn
  refine wpAny_bind (zby O ?_)
  dsimp only
  rw[if_neg (by simp),hx]
  refine wpAny_pure (wpAny_bind (wpAny_setField ho hd (by simp) (wpAny_pure ⟨x,rfl,wpAny_pure (h1 p hp k x hx _ (Heap.SameBut.update ..) ?_)⟩)))
  refine ⟨_,zfv ho hd,(Obj.cls_mapFields ..).trans hc,?_⟩
  rw[Obj.data_mapFields hd]
  simp[rawInt]
theorem zo0 (hh:A.handled=none) (ne:a≠I) {F:Nat->Nat} {ord:Nat->Value} (st:∀ i,i<=es.size->∀ (s:Shared),zbo s.heap a es ep t->∀ (A':Around) (E':Value->Shared->Prop) (Q':Option (Value × Nat)->Shared->Prop),
   Q' (if i<es.size then some (ord i,F (i+1)) else none) s->wpAny (model prog w) A' (setNext a (F i) i ep) Q' E' s) :
  Walks prog w A I [I,a] [I] es.size (fun i v=>v=ord i) (fun i h=>i<=es.size/\zbu h I a (.int (F i) 0) i es.size ep/\zbo h a es ep t) where
 sub:=fun b hb=>by simp at hb;simp[hb]
 frame:=fun _ _ _ st k=>⟨st.1,st.2.1.keep fun o e=>k I (by simp) o e,st.2.2.keep fun o e=>k a (by simp) o e⟩
 item:=fun i s Q E hi h hQ=>by
  refine zmF hh h.2.1 h.2.2 (fun A' E' Q' q=>st i h.1 s h.2.2 A' E' Q' q) (fun x F' e h' sb It=>?_) fun e=>?_
  ·rw[if_pos hi] at e
   cases e
   exact hQ _ h' s.toks rfl ⟨hi,It,h.2.2.keep fun o e=>(sb.2 a ne).trans e⟩ fun b o hb e=>(sb.2 b fun z=>hb (by simp[z])).trans e
  ·rw[if_pos hi] at e;cases e
 done:=fun s Q E h hQ=>by
  refine zmF hh h.2.1 h.2.2 (fun A' E' Q' q=>st _ h.1 s h.2.2 A' E' Q' q) (fun x F' e=>?_) fun _ h' k=>hQ h' s.toks fun b o hb e=>k b o (fun z=>hb (by simp[z])) e
  rw[if_neg (yda _)] at e;cases e
 self:=fun _ _ _ _ h q=>zkC h.2.1 q
theorem zm9 (hh:A.handled=none) (ne:a≠I) (nT:T≠I) {ord:List Nat} (hps:ps=(ord.map fun i:Nat=>rawInt i).toArray) (hl:ord.length=es.size) (ho:∀ i∈ord,i<es.size) :
  Walks prog w A I [I,a,T] [I] es.size (fun i v=>∃ j,ord[i]?=some j/\∃ k,es[j]?=some (k,v)) (fun i h=>i<=es.size/\(zbu h I a (.ref T) i es.size ep/\zbo h a es ep t)/\zdo h T ps) where
 sub:=fun b hb=>by simp at hb;simp[hb]
 frame:=fun _ _ _ st k=>⟨st.1,⟨st.2.1.1.keep fun o e=>k I (by simp) o e,st.2.1.2.keep fun o e=>k a (by simp) o e⟩,st.2.2.keep fun o e=>k T (by simp) o e⟩
 item:=fun i s Q E hi h hQ=>by
  have hj:i<ord.length:=by ac_rfl
  have e0:ps[i]?=some (.int (ord[i]:Nat) 0):=by rw[hps];simp[hj,rawInt]
  have hlt:=ho ord[i] (yci hj)
  obtain ⟨⟨k0,x0⟩,q0⟩:∃ q,es[ord[i]]?=some q:=⟨_,ydw hlt⟩
  refine zi0 hh h.2.1.1 h.2.1.2 h.2.2 (fun p ep' k x ex h' sb It=>?_) (fun e=>by rw[e0] at e;cases e) (.inr ⟨_,k0,x0,e0,by simpa using q0⟩)
  rw[e0] at ep'
  cases ep'
  refine hQ x h' s.toks ⟨ord[i],yaa hj,k,by simpa using ex⟩ ⟨hi,⟨It,h.2.1.2.keep fun o e=>(sb.2 a ne).trans e⟩,h.2.2.keep fun o e=>(sb.2 T nT).trans e⟩ fun b o hb e=>(sb.2 b fun z=>hb (by simp[z])).trans e
 done:=fun s Q E h hQ=>by
  have e0:ps[es.size]?=none:=by rw[hps];simp;ac_rfl
  exact zi0 hh h.2.1.1 h.2.1.2 h.2.2 (fun p ep'=>by rw[e0] at ep';cases ep') (fun _ h' k=>hQ h' s.toks fun b o hb e=>k b o (fun z=>hb (by simp[z])) e) (.inl e0)
 self:=fun _ _ _ _ h q=>zkC h.2.1.1 q
end
end zaB
namespace zaB
theorem zg0 {α:Type}:∀ (l:List α) (i:Nat) (h:i<l.length),(l[i]::l.eraseIdx i).Perm l
 | x::xs,0,_=>.refl _
 | x::xs,i+1,h=>(List.Perm.swap x _ _).trans ((zg0 xs i (by simpa using h)).cons x)
theorem znV {α:Type} (next:Nat->Nat):∀ (fuel k:Nat) (left:List α) (out:Array α),left.length=fuel->(pickOrder.go next fuel k left out).toList.Perm (out.toList++left)
 | 0,k,left,out,h=>by
  have:left=[]:=ycb.mp h
  subst this
  unfold pickOrder.go
  simp
 | fuel+1,k,left,out,h=>by
  have lt:next k % left.length<left.length:=Nat.mod_lt _ (by ac_rfl)
  unfold pickOrder.go
  rw[yaa lt]
  dsimp only
  refine (znV next fuel (k+1) _ _ (by rw[List.length_eraseIdx_of_lt lt,h];rfl)).trans ?_
  rw[Array.toList_push,List.append_assoc]
  refine List.Perm.append_left _ ?_
  exact zg0 left _ lt
theorem zhp {α:Type} (next:Nat->Nat) (xs:Array α):(pickOrder next xs).toList.Perm xs.toList:=by
 unfold pickOrder
 simpa using znV next xs.size 0 xs.toList #[] (by simp)
noncomputable def slotAt (t:SetTable) (i:Nat):Nat:=if i=0 then 0 else t.place.getD (i-1) 0+1
theorem below_at {t:SetTable} (h:Up t.place) {i:Nat} (hi:i<=t.place.size):SetTable.below t.place (slotAt t i)=i:=by
 obtain ⟨h0,h1,h2⟩:=zi9 h (slotAt t i)
 generalize SetTable.below t.place (slotAt t i)=p at *
 have gd:∀ j,j<t.place.size->∀ d e,t.place.getD j d=t.place.getD j e:=fun j hj d e=>by simp[ydz,hj]
 by_cases hz:i=0
 ·subst hz
  refine Nat.eq_zero_of_not_pos fun hp=>?_
  have:=h1 0 hp
  unfold slotAt at this
  rw[if_pos rfl] at this
  ac_rfl
 ·have e:slotAt t i=t.place.getD (i-1) 0+1:=by unfold slotAt;rw[if_neg hz]
  rcases ydg p i with lt | rfl | gt
  ·have:=h2 (i-1) (by ac_rfl) (by ac_rfl)
   rw[gd _ (by ac_rfl) _ 0,e] at this
   ac_rfl
  ·rfl
  ·have:=h1 i gt
   have u:=zlt h (i:=i-1) (j:=i) (by ac_rfl) (by ac_rfl) 0 0
   rw[gd _ (by ac_rfl) _ 0,e] at this
   ac_rfl
section
variable {prog:Program} {w:World} {a:Addr} {es:Array (Int × Value)} {ep:Nat} {t:SetTable}
theorem zoC (hb:w.params.followText "set-order" = false) (T:Tab false t) (hf:t.fits es.size=true) (hp:(!t.plain && decide (es.size > 1))=false) (i:Nat) (hi:i<=es.size) (s:Shared) (O:zbo s.heap a es ep t) (A':Around)
  (E':Value->Shared->Prop) (Q':Option (Value × Nat)->Shared->Prop) (q:Q' (if i<es.size then some ((es.getD i (0,.none)).2,slotAt t (i+1)) else none) s):wpAny (model prog w) A' (setNext a (slotAt t i) i ep) Q' E' s:=by
 have fz:t.place.size=es.size:=by simp[SetTable.fits] at hf;exact hf.1
 have up:Up t.place:=by
  by_cases pl:t.plain=true
  ·exact T.up pl
  ·have:es.size<=1:=by simp[pl] at hp;exact hp
   unfold Up
   have l1:t.place.toList.length<=1:=by rw[ydv];ac_rfl
   match hq:t.place.toList,l1 with
   | [],_=>exact .nil
   | [x],_=>exact ybs _ _
   | _::_::_,z=>simp at z
 unfold setNext
 refine wpAny_bind (zby O ?_)
 unfold setsByText
 refine wpAny_bind (wpAny_bind (wpAny_askSetting (wpAny_pure ?_)))
 rw[show (model prog w).w.params.followText "set-order" = false from hb]
 rw[if_neg Bool.false_ne_true]
 dsimp only
 show wpAny _ _ (if (!t.plain && decide (es.size > 1))=true then _ else _) _ _ _
 rw[if_neg (by rw[hp];exact Bool.false_ne_true)]
 refine wpAny_bind ?_
 show wpAny _ _ (if (!t.led && !es.isEmpty)=true then _ else _) _ _ _
 rw[if_neg (by rw[T.led];simp)]
 refine wpAny_pure ?_
 rw[below_at up (by ac_rfl)]
 refine wpAny_pure ?_
 by_cases lt:i<es.size
 ·rw[if_pos lt] at q
  rw[ydw lt,ydw (by ac_rfl:i<t.place.size)]
  dsimp only
  have e1:(es.getD i (0,.none)).2=es[i].2:=by simp[ydz,lt]
  have e2:slotAt t (i+1)=t.place[i]'(by ac_rfl)+1:=by simp[slotAt,ydz,show i<t.place.size by ac_rfl]
  rw[e1,e2] at q
  exact q
 ·rw[if_neg lt] at q
  rw[Array.getElem?_eq_none (by ac_rfl)]
  exact q
theorem zoX (hb:w.params.followText "set-order" = true) (i:Nat) (hi:i<=es.size) (s:Shared) (O:zbo s.heap a es ep t) (A':Around)
  (E':Value->Shared->Prop) (Q':Option (Value × Nat)->Shared->Prop) (q:Q' (if i<es.size then some (((pickOrder (w.params.setOrder a ep) es).getD i (0,.none)).2,0) else none) s):wpAny (model prog w) A' (setNext a 0 i ep) Q' E' s:=by
 have sz:(pickOrder (w.params.setOrder a ep) es).size=es.size:=by
  have:=(zhp (w.params.setOrder a ep) es).length_eq
  simpa using this
 unfold setNext
 refine wpAny_bind (zby O ?_)
 unfold setsByText
 refine wpAny_bind (wpAny_bind (wpAny_askSetting (wpAny_pure ?_)))
 rw[show (model prog w).w.params.followText "set-order" = true from hb,if_pos rfl]
 dsimp only
 rw[if_neg (by simp)]
 refine wpAny_bind ?_
 unfold setWalk
 refine wpAny_bind (zby O ?_)
 unfold setsByText
 refine wpAny_bind (wpAny_bind (wpAny_askSetting (wpAny_pure ?_)))
 rw[show (model prog w).w.params.followText "set-order" = true from hb,if_pos rfl]
 refine wpAny_bind (wpAny_askSetting (wpAny_pure (wpAny_pure ?_)))
 show Q' (Option.map (fun e=>(e.2,0)) (pickOrder (w.params.setOrder a ep) es)[i]?) s
 by_cases lt:i<es.size
 ·rw[if_pos lt] at q
  rw[ydw (by ac_rfl)]
  have e1:((pickOrder (w.params.setOrder a ep) es).getD i (0,.none)).2=((pickOrder (w.params.setOrder a ep) es)[i]'(by ac_rfl)).2:=by simp[ydz,show i<(pickOrder (w.params.setOrder a ep) es).size by ac_rfl]
  rw[e1] at q
  exact q
 ·rw[if_neg lt] at q
  rw[Array.getElem?_eq_none (by ac_rfl)]
  exact q
end
end zaB
namespace zaB
section
variable {prog:Program} {w:World} {A:Around} {E:Value->Shared->Prop}
theorem zoO {src:Source} {n:Nat} {s:Shared} {Q:Nat->Shared->Prop} (hn:0<n) (h:∀ i d,i<n->Q i { s with drawn:=d }):wpAny (model prog w) A (choose src n) Q E s :=
 fun Γ p hΓ=>⟨by ac_rfl,h _ _ (Nat.mod_lt _ hn)⟩
theorem zkL {α:Type}:∀ (n:Nat) (xs:List α) (s:Shared) (Q:List α->Shared->Prop),xs.length=n->(∀ l d,l.Perm xs->Q l { s with drawn:=d })->wpAny (model prog w) A (drawOrder n xs) Q E s
 | 0,xs,s,Q,hl,h=>by
  have:xs=[]:=ycb.mp hl
  subst this
  unfold drawOrder
  exact wpAny_pure (h [] s.drawn (.refl _))
 | n+1,[],s,Q,hl,h=>by simp at hl
 | n+1,x::xs,s,Q,hl,h=>by
  unfold drawOrder
  refine wpAny_bind (zoO (by simp) fun i d hi=>?_)
  rw[yaa hi]
  refine wpAny_bind (zkL n _ _ _ (by rw[List.length_eraseIdx_of_lt hi,hl];rfl) fun l d' hp=>wpAny_pure (h _ d' ?_))
  exact (hp.cons _).trans (zg0 (x::xs) i hi)
end
theorem zmq {P:Nat->Value->Prop} {acc:Array Value} {n:Nat} {f:Nat->Value} (h:ItemsOf P acc n) (hf:∀ i v,i<n->P i v->v=f i):acc.toList=(ybb n).map f:=by
 apply ycc
 intro j
 rw[yam]
 by_cases lt:j<n
 ·have e:acc.toList[j]?=some (acc[j]'(by rw[h.1];exact lt)):=by rw[ydy];exact ydw _
  rw[e,ycg lt]
  exact congrArg some (hf j _ lt (h.2 j _ (ydw _)))
 ·rw[yaq (by rw[ydv,h.1];ac_rfl),yaq (by rw[List.length_range];ac_rfl)]
  rfl
theorem zfD {α β:Type} (xs:Array α) (d:α) (f:α->β):(ybb xs.size).map (fun i=>f (xs.getD i d))=xs.toList.map f:=by
 apply ycc
 intro j
 rw[yam,yam]
 by_cases lt:j<xs.size
 ·rw[ycg lt,ydy,ydw lt]
  simp[ydz,lt]
 ·rw[yaq (by rw[List.length_range];ac_rfl),yaq (by rw[ydv];ac_rfl)]
  rfl
section
variable {prog:Program} {w:World} {A:Around} {E:Value->Shared->Prop} {s:Shared} {a:Addr} {es:Array (Int × Value)} {ep:Nat} {t:SetTable}
theorem zqN {B:Around} {Q:Value->Shared->Prop} (hB:B.handled=none) (ty:s.TypeIs (.ref a) "set") (O:zbo s.heap a es ep t) (T:Tab (w.params.followText "set-order") t) (hz:es.size<=sizeLine)
  (hQ:∀ I h' d' fp P (St:Nat->Heap->Prop),Walks prog w B I fp [I] es.size P St->St 0 h'->(∀ b∈fp,b=a\/(s.heap.objs.size<=b/\b<h'.objs.size))->(∀ acc,ItemsOf P acc es.size->acc.toList.Perm (es.toList.map (·.2))) ->
   (∀ b o,s.heap.get? b=some o->h'.get? b=some o)->s.heap.objs.size<=I->Q (.ref I) { s with heap:=h',drawn:=d' }):wpAny (model prog w) A (pyIter (.ref a)) Q E s:=by
 have hf:t.fits es.size=true:=O.choose_spec.2.2
 have alt:a<s.heap.objs.size:=ydl O.choose_spec.1
 refine wpAny_pyIter_slot ty PySem.F.slot_set_iter (wpAny_call_entry PySem.F.slot_set_iter ty zp8 ?_ (PySem.F.args_set_iter_1 _))
 unfold Builtin.«frozenset.__iter__» Builtin.Frozenset.slot0
 refine wpAny_bind (wpAny_bind (wpAny_of_eq (a:=(Value.ref a,[])) rfl (wpAny_of_eq (a:=a) rfl ?_)))
 unfold Builtin.Frozenset.sizeOf setEntries
 refine wpAny_bind (wpAny_bind (wpAny_bind (zby O (wpAny_pure (wpAny_pure ?_)))))
 unfold setDrawn setsByText
 refine wpAny_bind (wpAny_bind (zby O (wpAny_bind (wpAny_bind (wpAny_askSetting (wpAny_pure (wpAny_pure ?_)))))))
 show wpAny _ _ (if (!w.params.followText "set-order" && (!t.plain && decide (es.size > 1)))=true then _ else _) _ _ _
 have body:∀ (first:Value) (s1:Shared),zbo s1.heap a es ep t->(∀ I h',h'=s1.heap.push { cls:=.type "set_iterator", data:=.fields #[first,.int (0:Nat) 0,.ref a,.int es.size 0,.int ep 0] }->I=s1.heap.objs.size->zbu h' I a first 0 es.size ep->zbo h' a es ep t->Q (.ref I) { s1 with heap:=h' }) ->
   wpAny (model prog w) A.in1 (setEpoch a >>= fun e=>newFields "set_iterator" [first,rawInt 0,.ref a,rawInt es.size,rawInt e] >>= fun x=>ret x) (fun fin s'=>∃ v,fin=.done (.ret v)/\∃ T' r,s'.TypeIs v T'/\typeLookup (.type T') "__next__" = pure (some r)/\Q v s') E s1:=fun first s1 O1 q=>by
  unfold setEpoch
  refine wpAny_bind (wpAny_bind (zby O1 (wpAny_pure ?_)))
  refine wpAny_bind (wpAny_newObj_type (wpAny_pure ?_))
  have g:(s1.heap.push { cls:=.type "set_iterator", data:=.fields #[first,.int (0:Nat) 0,.ref a,.int es.size 0,.int ep 0] }).get? s1.heap.objs.size=some { cls:=.type "set_iterator", data:=.fields #[first,.int (0:Nat) 0,.ref a,.int es.size 0,.int ep 0] }:=ydm _ rfl
  exact ⟨_,rfl, "set_iterator", _,⟨_,g,rfl⟩,zeA.lookup,q _ _ rfl rfl ⟨_,g,rfl,rfl⟩ (O1.keep fun o e=>ydk _ e)⟩
 have pin:∀ (F:Nat->Nat) (ord:Nat->Value),F 0=0->(∀ i,i<=es.size->∀ (s:Shared),zbo s.heap a es ep t->∀ (A':Around) (E':Value->Shared->Prop) (Q':Option (Value × Nat)->Shared->Prop),
   Q' (if i<es.size then some (ord i,F (i+1)) else none) s->wpAny (model prog w) A' (setNext a (F i) i ep) Q' E' s)->((ybb es.size).map ord).Perm (es.toList.map (·.2)) ->
   wpAny (model prog w) A.in1 (setEpoch a >>= fun e=>newFields "set_iterator" [rawInt 0,rawInt 0,.ref a,rawInt es.size,rawInt e] >>= fun x=>ret x) (fun fin s'=>∃ v,fin=.done (.ret v)/\∃ T' r,s'.TypeIs v T'/\typeLookup (.type T') "__next__" = pure (some r)/\Q v s') E s:=fun F ord F0 st pm=>by
  refine body (rawInt 0) s O fun I h' eh eI It O'=>?_
  have Ilt:I<h'.objs.size:=by rw[eh,eI,ydq];exact ydb _
  refine hQ I h' s.drawn [I,a] _ _ (zo0 (prog:=prog) (w:=w) (A:=B) hB (by rw[eI];exact ycv alt) st) ⟨ycy _,by rw[F0];exact It,O'⟩ (fun b hb=>?_) (fun acc hacc=>?_) (fun b o e=>by rw[eh];exact ydk _ e) (by rw[eI];exact ycu _)
  ·simp only[yak,ybe,or_false] at hb
   rcases hb with rfl | rfl
   ·exact .inr ⟨by rw[eI];exact ycu _,Ilt⟩
   ·exact .inl rfl
  ·rw[zmq hacc fun i v _ q=>q]
   exact pm
 by_cases hd:(!w.params.followText "set-order" && (!t.plain && decide (es.size > 1)))=true
 ·rw[if_pos hd]
  refine wpAny_bind (zkL es.size (ybb es.size) s _ (by simp) fun ord d hp=>?_)
  have ol:ord.length=es.size:=by rw[hp.length_eq];simp
  refine wpAny_bind (wpAny_newObj_type ?_ ?_)
  ·refine body (.ref s.heap.objs.size) { s with heap:=s.heap.push { cls:=.type "tuple", data:=.seq (ord.map fun i:Nat=>rawInt i).toArray },drawn:=d } (O.keep fun o e=>ydk _ e) fun I h' eh eI It O'=>?_
   have eI':I=s.heap.objs.size+1:=by rw[eI];exact ydq _ _
   have Ilt:h'.objs.size=s.heap.objs.size+2:=by rw[eh,ydq,ydq]
   have P:zdo h' s.heap.objs.size (ord.map fun i:Nat=>rawInt i).toArray:=⟨_,_,by rw[eh];exact ydk _ (ydm _ rfl),rfl⟩
   refine hQ I h' d [I,a,s.heap.objs.size] _ _ (zm9 (prog:=prog) (w:=w) (A:=B) hB (by rw[eI'];exact ycv (ydc alt)) (by rw[eI'];exact ycv (ydb _)) rfl ol fun i hi=>by
    have:=hp.mem_iff.mp hi
    simpa using this) ⟨ycy _,⟨It,O'⟩,P⟩ (fun b hb=>?_) (fun acc hacc=>?_) (fun b o e=>by rw[eh];exact ydk _ (ydk _ e)) (by rw[eI'];exact ydf _)
   ·simp only[yak,ybe,or_false] at hb
    rcases hb with rfl | rfl | rfl
    ·exact .inr ⟨by rw[eI'];exact ydf _,by rw[Ilt,eI'];exact ydb _⟩
    ·exact .inl rfl
    ·exact .inr ⟨ycu _,by rw[Ilt];exact ydc (ydb _)⟩
   ·have e1:acc.toList=(ybb es.size).map fun i=>(es.getD (ord.getD i 0) (0,.none)).2:=zmq hacc fun i v lt ⟨j,hj,k,hk⟩=>by
     have hlt:j<es.size:=by
      have:=hp.mem_iff.mp (yah hj)
      simpa using this
     have hi:i<ord.length:=by ac_rfl
     rw[yaa hi] at hj
     cases hj
     rw[ydw hlt] at hk
     cases hq:es[ord[i]]
     rw[hq] at hk
     cases hk
     simp[ydz,hi,hlt,hq]
    rw[e1]
    have e2:(ybb es.size).map (fun i=>(es.getD (ord.getD i 0) (0,.none)).2)=ord.map fun j=>(es.getD j (0,.none)).2:=by
     have:=zfD ord.toArray 0 fun j=>(es.getD j (0,.none)).2
     simpa [ol] using this
    rw[e2,<-zfD es (0,.none) (·.2)]
    exact hp.map _
  ·show (ord.map fun i:Nat=>rawInt i).toArray.size<=sizeLine
   simp[ol,hz]
 ·rw[if_neg hd]
  refine wpAny_bind (wpAny_pure ?_)
  cases hb:w.params.followText "set-order" with
  | true =>
   refine pin (fun _=>0) (fun i=>((pickOrder (w.params.setOrder a ep) es).getD i (0,.none)).2) rfl (fun i hi s O A' E' Q' q=>zoX hb i hi s O A' E' Q' q) ?_
   have sz:(pickOrder (w.params.setOrder a ep) es).size=es.size:=by
    have:=(zhp (w.params.setOrder a ep) es).length_eq
    simpa using this
   rw[<-sz,zfD]
   exact (zhp _ _).map _
  | false =>
   have T':=T
   rw[hb] at T'
   rw[hb] at hd
   refine pin (slotAt t) (fun i=>(es.getD i (0,.none)).2) rfl (fun i hi s O A' E' Q' q=>zoC hb T' hf (by simpa using hd) i hi s O A' E' Q' q) ?_
   rw[zfD]
end
end zaB
namespace zaB
theorem zrW:typeLookup (.type "set") "__len__" = pure (some (.builtin "set.__len__")):=by rw[typeLookup_type,builtinLookup_eq_fast];kernel_rfl
theorem zrc {M:Model} {A:Around} {α:Type} {Q:α->Shared->Prop} {E:Value->Shared->Prop} {s:Shared} {c:Prop} [Decidable c] {x y:Sem α} (hc:c) (h:wpAny M A x Q E s):wpAny M A (if c then x else y) Q E s:=by rw[if_pos hc];exact h
theorem zsp {M:Model} {A:Around} {α:Type} {Q:α->Shared->Prop} {E:Value->Shared->Prop} {s:Shared} {c:Prop} [Decidable c] {x y:Sem α} (hc:¬ c) (h:wpAny M A y Q E s):wpAny M A (if c then x else y) Q E s:=by rw[if_neg hc];exact h
section
variable {prog:Program} {w:World} {A:Around} {E:Value->Shared->Prop} {s:Shared} {a:Addr} {es:Array (Int × Value)} {ep:Nat} {t:SetTable}
theorem zqg {Q:Bool->Shared->Prop} (ty:s.TypeIs (.ref a) "set") (q:Q false s):wpAny (model prog w) A (Builtin.List.listLengthHint (.ref a)) Q E s:=by
 unfold Builtin.List.listLengthHint
 refine wpAny_bind (wpAny_specialOf ty zrW ?_)
 generalize hid:("set.__len__" : String)=id0
 have h1:splitId id0=some ("set", "__len__"):=by subst hid;decide +kernel
 dsimp only
 rw[h1]
 subst hid
 refine wpAny_bind (wpAny_isInstance (b:=true) ty (by rw[isSubtype_type];kernel_rfl) ?_)
 refine zsp (by simp) (zrc (by decide +kernel) (wpAny_bind (wpAny_typeOf ty ?_)))
 exact wpAny_pure q
theorem zm7 {Q:List Value->Shared->Prop} (hh:A.handled=none) (ty:s.TypeIs (.ref a) "set") (O:zbo s.heap a es ep t) (T:Tab (w.params.followText "set-order") t) (hz:es.size<=sizeLine)
  (hQ:∀ vs h' d' tk,vs.Perm (es.toList.map (·.2))->(∀ b o,s.heap.get? b=some o->h'.get? b=some o)->Q vs { s with heap:=h',drawn:=d',toks:=tk }):wpAny (model prog w) A (collect (.ref a)) Q E s:=by
 have alt:a<s.heap.objs.size:=ydl O.choose_spec.1
 unfold collect
 refine wpAny_bind (wpAny_runValue (codeAny_builtin PySem.F.entry_proto_collect ?_))
 rw[Around.under_plainId PySem.F.plain_proto_collect _]
 show wpAny _ A.in1 (newList [] >>= fun l=>again (.builtin "list.__iadd__" ⟨[l,.ref a],[]⟩)) _ _ s
 refine wpAny_bind (wpAny_newObj_type ?_)
 refine wpAny_pure ⟨plainId_quiet PySem.F.plain_list_iadd _,codeAny_builtin PySem.F.entry_list_iadd ?_⟩
 rw[Around.under_plainId PySem.F.plain_list_iadd _]
 show wpAny _ A.in1 (Builtin.List.listExtendWith (.ref s.heap.objs.size) (.ref a) (.ref s.heap.objs.size)) _ _ _
 have ne:Builtin.List.listSameRef (.ref s.heap.objs.size) (.ref a)=false:=by
  have:s.heap.objs.size≠a:=ydd alt
  simp[Builtin.List.listSameRef,this]
 obtain ⟨oa,hoa,hca⟩:=id ty
 have ty1:({ s with heap:=s.heap.push { cls:=.type "list", data:=.seq ([]:List Value).toArray } }:Shared).TypeIs (.ref a) "set" := ⟨oa,ydk _ hoa,hca⟩
 unfold Builtin.List.listExtendWith
 refine wpAny_bind (wpAny_typeOf ty1 ?_)
 rw[if_neg (by rw[ne];decide)]
 refine wpAny_bind (zqN (B:=A.in1) (by simp[hh]) ty1 (O.keep fun o e=>ydk _ e) T hz fun I h' d' fp P St W st0 hfp pm kp hI=>?_)
 have S1:h'.get? s.heap.objs.size=some { cls:=.type "list", data:=.seq ([]:List Value).toArray }:=kp _ _ (ydm _ rfl)
 refine wpAny_bind (wpAny_holding (zqg ⟨oa,kp _ _ (ydk _ hoa),hca⟩ ?_))
 refine zrc (by decide +kernel) (wpAny_bind (wpAny_rule (wpAny_bind ?_)))
 unfold Builtin.List.listTouch
 have g1:(h'.update s.heap.objs.size (Obj.mapSeq (·.push Value.none))).get? s.heap.objs.size=some { cls:=.type "list", data:=.seq #[.none] 1 }:=ydo _ S1 rfl
 have g2:((h'.update s.heap.objs.size (Obj.mapSeq (·.push Value.none))).update s.heap.objs.size (Obj.mapSeq (·.pop))).get? s.heap.objs.size=some { cls:=.type "list", data:=.seq #[] 2 }:=ydo _ g1 rfl
 refine wpAny_bind (listUpdate_at S1 rfl (listUpdate_at g1 rfl ?_ (by decide) (by decide)) (by decide) (by decide))
 have Sf:s.heap.objs.size ∉ fp:=fun z=>by
  rcases hfp _ z with e | ⟨e,_⟩
  ·exact absurd alt (by rw[<-e];exact yda _)
  ·rw[ydq] at e
   exact Nat.not_succ_le_self _ e
 have st1:St 0 ((h'.update s.heap.objs.size (Obj.mapSeq (·.push Value.none))).update s.heap.objs.size (Obj.mapSeq (·.pop))):=W.frame 0 h' _ st0 fun b hb o e=>by
  have nb:b≠s.heap.objs.size:=fun z=>Sf (z ▸ hb)
  exact (ydp _ _ _ _ nb).trans ((ydp _ _ _ _ nb).trans e)
 refine wpAny_pure ⟨plainId_quiet PySem.F.plain_extend_loop _,codeAny_extend_loopS W.toS hz _ Sf _ es.size 0 _ #[] 2 rfl (ycy _) st1 g2 (ItemsOf.nil P) fun s' acc c mv S' hacc=>?_⟩
 show wpAny _ A (load s.heap.objs.size >>= _) _ _ s'
 refine wpAny_bind (wpAny_load S' (wpAny_pure ?_))
 obtain ⟨h2,g',d2,tk',os'⟩:=s'
 obtain rfl:g'=s.gens:=mv.gens
 obtain rfl:os'=s.os:=mv.os
 refine hQ acc.toList h2 d2 tk' (pm acc hacc) fun b o e=>mv.heap b o ?_ ?_
 ·intro z
  have lt:=ydl e
  rcases yak.mp z with z | z
  ·exact absurd lt (by rw[z];exact yda _)
  ·have z':b=I:=by simpa using z
   rw[z'] at lt
   have:s.heap.objs.size+1<=I:=by rw[<-ydq];exact hI
   exact absurd (ycw lt (ycz (ydf _) this)) (yda _)
 ·have nb:b≠s.heap.objs.size:=ycv (ydl e)
  exact (ydp _ _ _ _ nb).trans ((ydp _ _ _ _ nb).trans (kp b o (ydk _ e)))
end
end zaB
namespace zaB
theorem zjR:∀ {vs:List Value},(∀ v∈vs,∃ m t,v=.int m t)->IntsAre vs (vs.map intOf)
 | [],_=>.nil
 | v::vs,h=>by
  obtain ⟨m,t,rfl⟩:=h v (yai)
  exact .cons m t (zjR fun v hv=>h v (yaj _ hv))
section
variable {prog:Program} {w:World} {A:Around} {E:Value->Shared->Prop} {s:Shared} {a:Addr} {ms:List Int}
theorem zox {Q:Value->Shared->Prop} (hh:A.handled=none) (S:zcz prog w s.heap a ms) (h64:ms.length<64)
  (h:∀ h' d' tk (out:Array Value) ns' p n,IntsAre out.toList ns'->ns'.Perm ms->ns'.Pairwise (·<=·)->(∀ b o,s.heap.get? b=some o->h'.get? b=some o)->s.heap.get? p=none->h'.get? p=some (seqObj "list" out n)->Q (.ref p) { s with heap:=h',drawn:=d',toks:=tk }) :
  wpAny (model prog w) A (call (.builtin "sorted") [.ref a]) Q E s:=by
 obtain ⟨⟨o,es,ep,t,⟨ho,hex,hd⟩,⟨hel,hb,hf⟩,T,rfl⟩,nd⟩:=S
 have lz:es.size<64:=by simpa using h64
 refine Calls.call_function_entry kind_sorted plain_sorted entry_sorted (args_sorted1 _) ?_
 unfold Builtin.«sorted»
 refine wpAny_bind (m:=checkCount "sorted" 1 1 _) (wpAny_pure ?_)
 refine wpAny_bind (zm7 (by simp[hh]) ⟨o,ho,hex.1⟩ ⟨o,ho,hd,hf⟩ T (by rw[sizeLine_eq];ac_rfl) fun vs h1 d1 tk1 pm kp=>?_)
 have vi:IntsAre vs (vs.map intOf):=zjR fun v hv=>by
  obtain ⟨e,he,rfl⟩:=yao.mp (pm.mem_iff.mp hv)
  obtain ⟨⟨k,hk,_⟩,_⟩:=hel e he
  obtain ⟨t,e2⟩:=Value.isInt_shape (show Value.isInt k e.2=true from hk)
  exact ⟨k,t,e2⟩
 have vp:(vs.map intOf).Perm (es.toList.map fun e=>intOf e.2):=by
  have:=pm.map intOf
  rwa [ybg] at this
 have vl:vs.length<64:=by rw[pm.length_eq];simpa using lz
 have sl:vs.length<=sizeLine:=by rw[sizeLine_eq];ac_rfl
 refine wpAny_bind (wpAny_newList ?_ (by first | exact sl | simpa using sl))
 have g0:(h1.push (seqObj "list" vs.toArray 0)).get? h1.objs.size=some (seqObj "list" vs.toArray 0):=ydm _ rfl
 have ol:s.heap.get? h1.objs.size=none:=by
  cases q:s.heap.get? h1.objs.size with
  | none=>rfl
  | some u=>exact absurd (ydl (kp _ _ q)) (yda _)
 show wpAny _ _ _ _ _ { s with heap:=h1.push (seqObj "list" vs.toArray 0),drawn:=d1,toks:=tk1 }
 refine wpAny_bind (wpAny_holding (wpAny_call_entry slot_list_sort ⟨_,g0,rfl⟩ entry_list_sort (list_sort_tree g0 vi vl fun out ns' a1 a2 a3=>⟨_,rfl,?_⟩) (args_list_sort _)))
 obtain ⟨n,g1⟩:=sortedHeap_at (out:=out) g0
 refine wpAny_pure ⟨_,rfl,h _ _ _ out ns' h1.objs.size n a1 (a2.trans vp) a3 (fun b u e=>?_) ol g1⟩
 have e1:=kp b u e
 have lt:=ydl e1
 rw[sortedHeap_old (ycv lt) (by rw[size_push'];exact ydc lt)]
 exact ydk _ e1
end
end zaB
noncomputable def zov (P:Program) (w:World) (a:Addr) (ms:List Int):HO:=.ext fun h=>zaB.zcz P w h a ms
theorem zaB.zcz.obj {P:Program} {w:World} {h:Heap} {a:Addr} {ms:List Int} (S:zaB.zcz P w h a ms):∃ o,h.get? a=some o:=let ⟨⟨o,_,_,_,⟨e,_⟩,_⟩,_⟩:=S;⟨o,e⟩
section
variable {X:Cx} {pins:List (Addr × Obj)} {σ:St} {H:Hp} {s:Shared}
theorem Inv.drew (I:Inv X pins σ H s) (d:Drawn):Inv X pins σ H { s with drawn:=d }:=⟨I.ok,I.os,I.bare,I.base,I.loc,I.cell,I.free,I.freeC,I.pin,I.hok,I.len⟩
theorem zfA (hc:X.calm=true):zaT X (.type "set") (fun xs H Q=>∃ (l:Addr) (ns:List Int),xs=[.ref l]/\SqL X.K H l (ns.map V.int)/\ns.length<4000 /\
  ∀ (p:Addr) (H':Hp) (ms:List Int),H p=none->Same H H'->H' p=some (zov X.prog X.w p ms)->ms.Nodup->(∀ m,m∈ms↔m∈ns)->ms.length<=ns.length->Q (.ref p) H'):=by
 intro pins s σ H xs us Q I r h
 obtain ⟨l,ns,rfl,hq,hl,q⟩:=h
 obtain ⟨u,rfl,rx⟩:=vals1 r
 cases rx
 obtain ⟨its,rv,pl,hz⟩:=I.list hq
 have len:its.length=ns.length:=by rw[<-rv.length,yab]
 refine zaB.znG (I.ok.hd hc) pl.isList (by simpa using ze1 rv) (by show its.toArray.size+1<4096;simp;ac_rfl) fun h' tk ms S mm lm kp=>?_
 have k:∀ b o,s.heap.get? b=some o->h'.get? b=some o:=fun b o e=>kp b o (ydl e) e
 refine ⟨.ref s.heap.objs.size,_,I.laid (o:=zov X.prog X.w s.heap.objs.size ms) k (ycu _) ⟨S,S.obj,fun h1 h2 p e=>p.keep e⟩,rfl,q _ _ ms (I.hok.fresh (ycu _)) (zb (I.hok.fresh (ycu _)) _) ze S.nd mm lm⟩
theorem zdc (hc:X.calm=true) (hex:X.ex=[]:=by rfl):zaT X (.builtin "sorted") (fun xs H Q=>∃ (p:Addr) (ms:List Int),xs=[.ref p]/\H p=some (zov X.prog X.w p ms)/\ms.length<64 /\
  ∀ (l:Addr) (H':Hp) (ns:List Int),H l=none->Same H H'->H' l=some (.lst (ns.map V.int))->ns.Perm ms->ns.Pairwise (·<=·)->Q (.ref l) H'):=by
 intro pins s σ H xs us Q I r h
 obtain ⟨p,ms,rfl,hp,hl,q⟩:=h
 obtain ⟨u,rfl,rx⟩:=vals1 r
 cases rx
 refine zaB.zox (I.ok.hd hc) (I.hok p _ hp).1 hl fun h' d' tk out ns l n a1 a2 a3 kp new at_=>?_
 have vl:Vals (ns.map V.int) out.toList:=zfF a1
 have nl:(ns.map V.int).length<=sizeLine:=by rw[yab,a2.length_eq,sizeLine_eq];ac_rfl
 have I1:Inv X pins σ (upd H l (.lst (ns.map V.int))) { s with heap:=h',toks:=tk }:=I.ziQ kp new hex ⟨nl,out.toList,n,vl,by simpa [seqObj] using at_⟩
 exact ⟨.ref l,_,I1.drew d',rfl,q l _ ns (I.hok.gone new) (zb (I.hok.gone new) _) ze a2 a3⟩
end
theorem zpU {ns ms:List Int} (p:ns.Perm ms) (nd:ms.Nodup) (o:ns.Pairwise (·<=·)):ns.Pairwise (·<·):=by
 have n:=p.nodup_iff.mpr nd
 refine (o.and n).imp fun {a b} h=>?_
 have:=h.1
 have:=h.2
 ac_rfl
section
variable {X:Cx} {pins:List (Addr × Obj)} {σ:St} {H:Hp} {s:Shared} {h':Heap}
end
theorem zpW {K:W.Frag} {ix:List Nat} {te:TE} {σ:St} {a l:Addr} {xs:List V} {H:Hp} {R:Hp->Prop} (P:Nat->V->Prop) (ha:SqL K H a xs) (hl:H l=none) (hz:xs.length<=sizeLine)
  (hel:∀ i x H' Q',xs[i]?=some x->Same H H'->(∀ v,P i v->Q' v H')->te (some x::capts σ ix) H' Q') (fin:∀ ys:List V,ys.length=xs.length->(∀ j v,ys[j]?=some v->P j v)->R (upd H l (.lst ys))) :
  ∃ W:Nat->Nat->List V->Hp->Prop,(∃ m,W 0 m [] (upd H l (.lst [])))/\Turns ix te σ (Itl K a) l R W:=by
 refine ⟨fun i m ys H'=>m=xs.length-i/\i<=xs.length/\ys.length=i/\(∀ j v,ys[j]?=some v->P j v)/\H'=upd H l (.lst ys),⟨xs.length,by simp,ycy _,rfl,(fun j v e=>by simp at e),rfl⟩,?_⟩
 rintro i m ys H' ⟨rfl,hi,hx,hp,rfl⟩
 have hT:SqL K (upd H l (.lst ys)) a xs:=(zb hl _).seq ha
 refine ⟨ze,?_⟩
 by_cases hlt:i<xs.length
 ·have ex:xs[i]?=some xs[i]:=yaa hlt
  refine .inr ⟨⟨xs,_,hT,ex⟩,by ac_rfl,fun x H2 y=>?_⟩
  obtain ⟨e,y⟩:=y
  subst e
  have e2:=y xs hT
  refine hel i x _ _ e2 (zb hl _) fun v hv=>⟨ze,xs.length-(i+1),by ac_rfl,rfl,hlt,by rw[yaf,hx];rfl,fun j w e=>?_,by rw[zam]⟩
  by_cases hj:j<ys.length
  ·rw[ybn hj] at e
   exact hp j w e
  ·by_cases hj2:j=ys.length
   ·subst hj2
    rw[ybk (ycu _),ydj] at e
    cases e
    rw[hx]
    exact hv
   ·rw[yaq (by rw[yaf,ybp];ac_rfl)] at e
    cases e
 ·exact .inl ⟨⟨xs,hT,by ac_rfl⟩,fin ys (by ac_rfl) hp⟩
theorem zgz {X:Cx} (K:W.Frag) (h:X.K=K:=by rfl):IxR X (zse K):=by subst h;exact za0
inductive zu (K:W.Frag) (H:Hp):List V->List (Int × Int)->Prop
 | nil:zu K H [] []
 | cons {p:Addr} {s:Int × Int} {xs:List V} {l:List (Int × Int)}:H p=some (.tup [.int s.1,.int s.2])->zu K H xs l->zu K H (.ref p::xs) (s::l)
section
variable {K:W.Frag} {H H':Hp} {xs ys zs:List V} {l:List (Int × Int)} {p:Addr} {s:Int × Int}
theorem zu.get (r:zu K H xs l):∀ {i:Nat} {x:V},xs[i]?=some x->∃ p s,x=.ref p/\l[i]?=some s/\H p=some (.tup [.int s.1,.int s.2]):=by
 induction r with
 | nil=>intro i x e;simp at e
 | cons h _ ih =>
  intro i x e
  cases i with
  | zero=>cases e;exact ⟨_,_,rfl,rfl,h⟩
  | succ i=>exact ih e
theorem zu.length (r:zu K H xs l):xs.length=l.length:=by
 induction r with
 | nil=>rfl
 | cons _ _ ih=>simp[ih]
theorem zu.same (r:zu K H xs l) (s:Same H H'):zu K H' xs l:=by
 induction r with
 | nil=>exact .nil
 | cons h _ ih=>exact .cons (s _ _ h) ih
theorem zu.put (r:zu K H xs l) (hp:H p=some (.lst ys)):zu K (upd H p (.lst zs)) xs l:=by
 induction r with
 | nil=>exact .nil
 | cons h _ ih=>exact .cons (by rw[zi (zaj h hp (by intro z;cases z))];exact h) ih
theorem zu.push (r:zu K H xs l) (h:H p=some (.tup [.int s.1,.int s.2])):zu K H (xs++[.ref p]) (l++[s]):=by
 induction r with
 | nil=>exact .cons h .nil
 | cons h' _ ih=>exact .cons h' ih
noncomputable def zak (s:Int × Int):PyData:=.tuple [.int s.1,.int s.2]
theorem zu.rd (r:zu K H xs l):zbD K H xs (l.map zak):=by
 induction r with
 | nil=>exact .nil
 | cons h _ ih=>exact .cons (.tup (SqT.of h) (.cons (.int _) (.cons (.int _) .nil))) ih
end
theorem zis:∀ l:List (Int × Int),PyData.canLayAll0 (l.map zak)=true
 | []=>by simp[PyData.canLayAll0]
 | s::l=>by simp[PyData.canLayAll0,PyData.canLay0,zak,zis l]
theorem zjH:∀ l:List (Int × Int),PyData.depthAll (l.map zak)<=1
 | []=>by simp[PyData.depthAll]
 | s::l=>by
  have:=zjH l
  simp[PyData.depthAll,PyData.depth,zak]
  ac_rfl
theorem zik (l:List (Int × Int)):SeqAt.shaped (.list (l.map zak))=true:=by
 have:=zjH l
 simp[SeqAt.shaped,PyData.canLay0,PyData.depth,zis]
 ac_rfl
theorem zrO {ys:List V} {ns:List Int} (h:ys.length=ns.length) (p:∀ j v,ys[j]?=some v->v=V.int (ns.getD j 0)):ys=ns.map V.int:=by
 apply ycc
 intro j
 rw[yam]
 by_cases hj:j<ys.length
 ·have e:=yaa (l:=ys) hj
  rw[e,p j _ e,yaa (by ac_rfl:j<ns.length)]
  simp[show j<ns.length by ac_rfl]
 ·rw[yaq (by ac_rfl),yaq (by ac_rfl)]
  rfl
structure zdS (J:It) (H:Hp) (xs:List V):Prop where
 go:∀ i H',Same H H'->i<xs.length->J.go i H'
 yld:∀ i H' x H2,Same H H'->J.yld i H' x H2->H2=H'/\xs[i]?=some x
 stop:∀ i H',Same H H'->xs.length<=i->J.stop i H'
theorem zQ {K:W.Frag} {H:Hp} {a:Addr} {xs:List V} (h:SqL K H a xs):zdS (Itl K a) H xs :=
 ⟨fun i H' s hi=>⟨xs,_,s.seq h,yaa hi⟩,fun i H' x H2 s y=>⟨y.1,y.2 xs (s.seq h)⟩,fun i H' s hi=>⟨xs,s.seq h,hi⟩⟩
theorem zqb {K:W.Frag} {H:Hp} {a:Addr} {xs:List V} (h:H a=some (.tup xs)):zdS (Itt K a) H xs :=
 ⟨fun i H' s hi=>⟨xs,_,SqT.of (s _ _ h),yaa hi⟩,fun i H' x H2 s y=>⟨y.1,y.2 xs (SqT.of (s _ _ h))⟩,fun i H' s hi=>⟨xs,SqT.of (s _ _ h),hi⟩⟩
theorem zqR {J:It} {ix:List Nat} {te:TE} {σ:St} {l:Addr} {xs:List V} {H:Hp} {R:Hp->Prop} (Y:zdS J H xs) (hl:H l=none) (hz:xs.length<=sizeLine) (P:Nat->V->Hp->Prop)
  (mono:∀ i v H1 H2,Same H1 H2->P i v H1->P i v H2) (put:∀ i v H1 ys zs,H1 l=some (.lst ys)->P i v H1->P i v (upd H1 l (.lst zs)))
  (hel:∀ i x H' Q',xs[i]?=some x->Same H H'->(∀ v H2,Same H' H2->P i v H2->Q' v H2)->te (some x::capts σ ix) H' Q')
  (fin:∀ ys H',Same H H'->H' l=some (.lst ys)->ys.length=xs.length->(∀ j v,ys[j]?=some v->P j v H')->R H') :
  ∃ W:Nat->Nat->List V->Hp->Prop,(∃ m,W 0 m [] (upd H l (.lst [])))/\Turns ix te σ J l R W:=by
 refine ⟨fun i m ys H'=>m=xs.length-i/\i<=xs.length/\ys.length=i/\(∀ j v,ys[j]?=some v->P j v H')/\Same H H'/\H' l=some (.lst ys),⟨xs.length,by simp,ycy _,rfl,(fun j v e=>by simp at e),zb hl _,ze⟩,?_⟩
 rintro i m ys H' ⟨rfl,hi,hx,hp,sH,hL⟩
 refine ⟨hL,?_⟩
 by_cases hlt:i<xs.length
 ·refine .inr ⟨Y.go i H' sH hlt,by ac_rfl,fun x H2 y=>?_⟩
  obtain ⟨rfl,e2⟩:=Y.yld i H' x H2 sH y
  refine hel i x _ _ e2 sH fun v H3 s3 hv=>⟨s3 _ _ hL,xs.length-(i+1),by ac_rfl,rfl,hlt,by rw[yaf,hx];rfl,fun j w e=>?_,zD (sH.trans s3) hl,ze⟩
  by_cases hj:j<ys.length
  ·rw[ybn hj] at e
   exact put _ _ _ _ _ (s3 _ _ hL) (mono _ _ _ _ s3 (hp j w e))
  ·by_cases hj2:j=ys.length
   ·subst hj2
    rw[ybk (ycu _),ydj] at e
    cases e
    rw[hx]
    exact put _ _ _ _ _ (s3 _ _ hL) hv
   ·rw[yaq (by rw[yaf,ybp];ac_rfl)] at e
    cases e
 ·exact .inl ⟨Y.stop i H' sH (by ac_rfl),fin ys H' sH hL (by ac_rfl) hp⟩
theorem zhW (n d k:Nat):HT.sIx n d (some (k:Int))=min k n:=by
 show (if (k:Int)<0 then ((k:Int)+(n:Int)).toNat else min (k:Int).toNat n)=min k n
 rw[if_neg (by ac_rfl)]
 rfl
theorem zn6 (xs:List V) (k:Nat):zbx xs (some (k:Int)) none=xs.drop k:=by
 unfold zbx
 rw[zhW,show HT.sIx xs.length xs.length none=xs.length from rfl]
 by_cases h:k<=xs.length
 ·rw[Nat.min_eq_left h,yau (by rw[ybu];exact ycu _)]
 ·rw[Nat.min_eq_right (by ac_rfl),List.drop_of_length_le (ycu _),List.drop_of_length_le (by ac_rfl),List.take_nil]
theorem zgy (xs:List V) (k:Nat):zbx xs none (some (k:Int))=xs.take k:=by
 unfold zbx
 rw[zhW,show HT.sIx xs.length 0 none=0 from rfl,List.drop_zero,Nat.sub_zero]
 by_cases h:k<=xs.length
 ·rw[Nat.min_eq_left h]
 ·rw[Nat.min_eq_right (by ac_rfl),yau (ycu _),yau (by ac_rfl)]
theorem zku {K:W.Frag} {H:Hp}:∀ {ys:List V} {l:List (Int × Int)},ys.length=l.length->(∀ (j:Nat) v s,ys[j]?=some v->l[j]?=some s->∃ p,v=.ref p/\H p=some (.tup [.int s.1,.int s.2]))->zu K H ys l
 | [],[],_,_=>.nil
 | y::ys,s::l,e,h=>by
  obtain ⟨p,rfl,hp⟩:=h 0 y s rfl rfl
  exact .cons hp (zku (by simpa using e) fun j v u h1 h2=>h (j+1) v u h1 h2)
 | [],_::_,e,_=>by simp at e
 | _::_,[],e,_=>by simp at e
end L2
namespace L2
open PySem
end L2
namespace L2
open PySem PySem.Spec PyProof.Rows
section
variable {X:Cx} {pins:List (Addr × Obj)} {σ:St} {H:Hp} {s:Shared} {sc:Scope} {x:Str} {ix:List Nat} {fp:List Addr} {elt iter c:Expr} {te:TE} {tt:TT} {wi:TI} {px pos:Pos}
theorem zpw {y:Str} {i:Nat} {py spos:Pos} (hN:X.N.Nodup) (hiy:X.N[i]?=some y) (hy:X.env.scope.names.lookup y=some .local) (O:zdT X sc x ix) (hi:PI X (.Name x px) iter wi) (htt:∀ b,PT (X.block sc x ix b) c tt) (hel:∀ b,PE (X.block sc x ix b) elt te)
  (hc:X.calm=true:=by rfl) (hs:∀ v,foldedSetIterable iter X.env v=pure v:=by intro _;rfl) (hsw:swapsWith (.ListComp elt [⟨.Name x px,iter,[c],0⟩] sc pos) (some (.Name y py)) spos.line X.env=pure true:=by rfl) :
  PS X (.Assign [.Name y py] (.ListComp elt [⟨.Name x px,iter,[c],0⟩] sc pos) spos) (zlU (zn1 ix wi tt te) (zb4 i)):=by
 intro pins s σ H D I h
 rw[exec_Assign_Name_used _ _ _ _ hsw]
 refine wpAny_bind (wpAny_standAt (wpAny_bind ?_))
 show wpAny _ X.A (do let _ <-comprehension (.ListComp elt [⟨.Name x px,iter,[c],0⟩] sc pos) sc X.env _ (newList []) false (eval iter X.env) (some (assign (.Name y py) X.env))) _ _ s
 refine wpAny_bind (wpAny_mono (wpAny_comprehension_free (use:=some (assign (.Name y py) X.env)) (Q:=fun _ s'=>SP X pins D .next s') rfl hs O.clos O.kind O.names
  (thn (hi pins s σ H _ I h) fun xv s1 h1=>thn h1 fun itv s2 h2=>?_)) (fun _ s' hq=>wpAny_pure (wpAny_pure hq)) fun _ _ e=>e)
 obtain ⟨it,fp,tn,J,H2,e,I2,T,st2,f2,hq⟩:=h2
 subst e
 refine ziq O htt hel hc I2 T st2 f2 (fun l H'=>D.nx (σ.set i (some (.ref l))) H') hq ?_
 intro l C m s' H' I' hn hf r
 obtain ⟨o,es,ep,ho,hd,hr⟩:=id hn
 have Ip:=I'.addpin ho hf.1 hf.2.1 hf.2.2.1 (by intro v z;rw[hd] at z;cases z)
 refine thn ((zO (i:=i) hN hiy (Or.inl hy) (Or.inr hy):PG X (.Name y py) (zb4 i)) _ s' σ H' (.ref l) (.ref l) (fun σ' H''=>σ'=σ.set i (some (.ref l))/\H''=H') Ip rfl ⟨rfl,rfl⟩) fun _ s'' ⟨σ'',H'',I'',e1,e2⟩=>?_
 subst e1 e2
 have pc:=(I''.pin (C,o) (yag _ (yag _ yai))).1
 refine ⟨m,⟨o,es,ep,pc,hd,hr⟩,fun h' hb=>⟨_,_,?_,r⟩⟩
 exact I''.unpinned.turned (t':=s''.toks) (fun b o hne e=>hb.extBut b o hne e) hf.1 hf.2.1 hf.2.2.2.1 hf.2.2.2.2.1 hf.2.2.2.2.2
end
structure Mk0 (K:W.Frag) (C:Addr):Prop where
 makes:PySem.W.makesIn K C=true
 init:PySem.W.findIn K (.ref C) "__init__" = some (some (.builtin "object.__init__"))
 kp:PySem.W.keepIn K (.ref C)=true
def ztA (C:Addr):TE:=fun _ H Q=>∀ x dx,H x=none->H dx=none->dx≠x->Q (.ref x) (upd (upd H dx (.own x)) x (.ins C dx []))
section
variable {X:Cx} {C:Addr} {x m:Str} {p pos apos:Pos} {e o:Expr} {es:List Expr} {ta:TE} {t:TA} {j k:Nat} {ps:List Str}
theorem zds (M:Mk0 X.K C) (hm:X.mg x=some (.ref C)) (hg:Gl X x:=by rfl) (hdb:(x == ("__debug__" : Str))=false:=by decide):PE X (.Call (.Name x p) [] [] pos) (ztA C):=by
 intro pins s σ H Q I h
 refine wpAny_Call_Name_kw (zcF I hg hm ?_ hdb)
 refine PySem.W.callWith_K0 I.kIn M.kp ?_
 have hq:=h (s.heap.objs.size+1) s.heap.objs.size (I.hok.fresh (ydf _)) (I.hok.fresh (ycu _)) (ycv (ydb _))
 have I2:=Inv.made (C:=C) I
 have Y:=PySem.W.makes_of (M:=model X.prog X.w) I.kIn M.makes
 have e2:((s.heap.push PySem.W.emptyDict).push (PySem.W.instObj C s.heap.objs.size)).get? (s.heap.objs.size+1)=some (PySem.W.instObj C s.heap.objs.size):=by
  have:=ydm (s.heap.push PySem.W.emptyDict) (o:=PySem.W.instObj C s.heap.objs.size) rfl
  rwa [ydq] at this
 refine wpAny_call (zpk I.kIn M.makes M.init (fun self=>PySem.W.Looks.of_pure (PySem.W.oi_bind self)) ?_)
 have t1:PySem.W.Looks (model X.prog X.w) ((s.heap.push PySem.W.emptyDict).push (PySem.W.instObj C s.heap.objs.size)) (typeOf (.ref (s.heap.objs.size+1))) (.ref C):=(PySem.W.Looks.ld e2).andThen .now
 have t2:PySem.W.Looks (model X.prog X.w) ((s.heap.push PySem.W.emptyDict).push (PySem.W.instObj C s.heap.objs.size)) (isInstance (.ref (s.heap.objs.size+1)) (.type "object")) true:=t1.andThen (Y.top.keeps fun b o e=>ydk _ (ydk _ e))
 refine codeAny_call_builtin PySem.W.oi_plain PySem.W.entry_oi (@PySem.W.check_slot (model X.prog X.w) _ _ _ "object.__init__" "object" "__init__" (.ref (s.heap.objs.size+1)) [] [] _ PySem.W.oi_kind PySem.W.oi_split t2 (PySem.W.oi_args (.ref (s.heap.objs.size+1))) ?_)
 rw[PySem.W.oi_run]
 exact wpAny_pure (And.intro rfl ⟨V.ref (s.heap.objs.size+1),_,I2,rfl,hq⟩)
inductive Kd where
 | plain | bank | thirty | exact
noncomputable def Kd.cls:Kd->Str
 | .plain => "Count"
 | .bank => "Bank"
 | .thirty => "Thirty"
 | .exact => "Exact"
def zbb (K:W.Frag) (H:Hp) (a:Addr) (kd:Kd):Prop:=∃ dx,H a=some (.ins (cA K kd.cls) dx [])
theorem zbb.same {K:W.Frag} {H H':Hp} {a:Addr} {kd:Kd} (h:zbb K H a kd) (s:Same H H'):zbb K H' a kd:=let ⟨dx,e⟩:=h;⟨dx,s _ _ e⟩
structure zr (K:W.Frag) (C:Addr) (m qual:Str) (st:Stmt) (ps:List Str):Prop where
 ex:∃ (f:Addr) (fd:FuncData),Fun K m qual st f fd/\Meth K C m f/\∀ us:List Value,us.length=ps.length->bindArgs fd ⟨us,[]⟩=pure (ps.zip us)
structure zB (P:Program) (w:World) (K:W.Frag) (mg:Str->Option Value) (base:Heap) (k:Nat) (C:Addr) (m:Str) (ps:List Str) (sp:Sp):Prop where
 ex:∃ (f:Addr) (fd:FuncData),zbO P w K mg base CX0 k f fd ps sp/\Meth K C m f/\∀ us:List Value,us.length=ps.length->bindArgs fd ⟨us,[]⟩=pure (ps.zip us)
theorem zr.ok {P:Program} {w:World} {K:W.Frag} {mg:Str->Option Value} {base:Heap} {C:Addr} {m qual:Str} {st:Stmt} {N ps:List Str} {k:Nat} {sp:Sp} (S:zr K C m qual st ps) (sc:zj N ps (zh st)) (len:∀ vs H Q E,sp vs H Q E->vs.length=ps.length)
  (hbody:∀ (f:Addr) (cdv:Value) (A:Around) (outer:List Env) (s:Shared) (H:Hp) (vs:List V) (Q:VK) (E:XK),Room k (A.deeper (envOfC qual (zh st) s.heap.objs.size f cdv))->sp vs H Q E ->
   ∃ t,PSs (zaK CX0 P w K mg base N qual (zh st) f cdv A outer s H E).nox (zaz st) t/\t { nx:=fun _ H'=>Q .non H',rt:=Q } (start N vs) H):zB P w K mg base (k+1) C m ps sp:=by
 obtain ⟨f,fd,F,hm,hb⟩:=S.ex
 exact ⟨f,fd,F.ok sc len (fun cdv=>hbody f cdv),hm,hb⟩
def zsX (K:W.Frag) (sp:Kd->Sp) (ta:TE) (t:TA):TE:=fun σ H Q=>ta σ H fun x H1=>∃ (kd:Kd) (a:Addr),x=.ref a/\zbb K H1 a kd/\t σ H1 fun vs H2=>sp kd (x::vs) H2 Q E0
theorem zpv {pl:Sem Bool} {sp:Kd->Sp} (D:∀ kd:Kd,zB X.prog X.w X.K X.mg X.base j (cA X.K kd.cls) m ps (sp kd)) (hc:∀ kd:Kd,Cls X.K (cA X.K kd.cls)) (hr:Room k X.A) (he:PE X o ta) (hj:j<=k:=by decide)
  (ht:eval (.Call (.Attribute o m apos) [] [] pos) X.env=(do
   let ov <-eval o X.env
   standAt apos.atName
   let (f,first) <-holding [ov] (getMethod ov m pl)
   callWith pos f first (backTo pos (starEach [] X.env)) (backToKw pos (keywordEach [] X.env))):=by rfl) :
  PE X (.Call (.Attribute o m apos) [] [] pos) (zsX X.K sp ta zkj):=by
 intro pins s σ H Q I h
 refine PySem.W.methodCall_KW (pl:=pl) (thn (he pins s σ H _ I h) fun u s1 ⟨x,H1,I1,rx,kd,a,ex,⟨dx,ea⟩,q⟩=>?_) ht
 subst ex
 obtain rfl:u=Value.ref a:=rx
 obtain ⟨f,fd,F,hm,hb⟩:=(D kd).ex
 refine zek I1 ea (hc kd) hm rfl ?_
 exact PySem.W.callWith_K0 (first:=[.ref a]) I1.kIn hm.kp (zgq (us:=[.ref a]) (vs:=[.ref a]) (dvs:=[]) (ds:=[]) F (hr.mono hj) (.all hb) .nil zie I1 (.cons rfl .nil) q)
end
section
variable {K:W.Frag} {x:Str} {C f:Addr}
theorem zbi (a:PySem.W.nsIn K mainGlobals x=some (some (.ref C))) (h1:PySem.W.plainGet K C Str.empty=true) (h2:PySem.W.hasDictIn K C=true) (h3:PySem.W.plainOver K C=true) (h4:PySem.W.findIn K (.ref C) "__setattr__" = some (some (.builtin "object.__setattr__"))):Cls K (cA K x):=by
 rw[zba a];exact ⟨h1,h2,h3,h4⟩
theorem zjA (a:PySem.W.nsIn K mainGlobals x=some (some (.ref C))) (h1:PySem.W.makesIn K C=true) (h2:PySem.W.findIn K (.ref C) "__init__" = some (some (.builtin "object.__init__"))) (h3:PySem.W.keepIn K (.ref C)=true):Mk0 K (cA K x):=by
 rw[zba a];exact ⟨h1,h2,h3⟩
theorem zz {m qual:Str} {st:Stmt} {ps:List Str} {oc:Value} {od an:Option Addr} {osl:Array (Option Value)} {kV doc pm cdv ct:Value} (a:PySem.W.nsIn K mainGlobals x=some (some (.ref C))) (hi:PySem.W.findIn K (.ref C) m=some (some (.ref f))) (hf:PySem.W.isFn K (.ref f)=true)
  (fk:PySem.W.keepIn K (.ref f)=true) (fl:K.lookup f=some ⟨oc,od,.func (PySem.W.fnOf m qual (zcf st) (zaz st) (zh st) .none kV doc pm an cdv ct),osl⟩) (fc:PySem.W.codeIn K cdv qual=true)
  (hb:∀ us:List Value,us.length=ps.length->bindArgs (PySem.W.fnOf m qual (zcf st) (zaz st) (zh st) .none kV doc pm an cdv ct) ⟨us,[]⟩=pure (ps.zip us)):zr K (cA K x) m qual st ps:=by
 rw[zba a];exact ⟨f,_,zmp fl fc fk,⟨hi,hf,fk⟩,hb⟩
end
end L2
namespace L2
open PySem
end L2
namespace L2
theorem zn3 {α:Type} {xs:List α} {v:α} (h:xs[xs.length-1]?=some v) (h0:0<xs.length):atI xs (-1)=some v:=by
 have e:ixN xs.length (-1)=some (xs.length-1):=by
  unfold ixN
  rw[if_neg (by decide),if_pos (by ac_rfl),show ((-1:Int)+(xs.length:Int)).toNat=xs.length-1 by ac_rfl]
 unfold atI
 rw[e]
 exact h
end L2
namespace L2
open PySem PySem.Spec PyProof.Rows
section
variable {X:Cx} {pins:List (Addr × Obj)} {σ:St} {H:Hp} {s:Shared} {sc:Scope} {x y0:Str} {ix:List Nat} {fp:List Addr}
end
section
variable {X:Cx} {pins:List (Addr × Obj)} {σ:St} {H:Hp} {s:Shared} {sc:Scope} {x y0:Str} {ix:List Nat} {fp:List Addr} {elt iter:Expr} {te:TE} {wi:TI} {px py0 pt0 pos:Pos} {kt0:Nat}
end
end L2
namespace SortT
open PySem PySem.W PyProof.Rows
noncomputable def okT {α:Type} (n:Nat) (lt:Nat->Nat->Bool):KasT α->(α->Prop)->Prop
 | .ret a,Q=>Q a
 | .ask i j k,Q=>(i<n/\j<n)/\okT n lt (k (lt i j)) Q
theorem zl8 {α:Type} {n:Nat} {lt:Nat->Nat->Bool} {Q Q':α->Prop} (h:∀ a,Q a->Q' a):∀ (t:KasT α),okT n lt t Q->okT n lt t Q'
 | .ret a,q=>h a q
 | .ask i j k,q=>⟨q.1,zl8 h _ q.2⟩
theorem zdd {α β:Type} {n:Nat} {lt:Nat->Nat->Bool} {f:α->KasT β} {Q:β->Prop}:∀ (t:KasT α),okT n lt t (fun a=>okT n lt (f a) Q)->okT n lt (t.bind f) Q
 | .ret a,q=>q
 | .ask i j k,q=>⟨q.1,zdd _ q.2⟩
theorem zpc {α:Type} {n:Nat} {lt:Nat->Nat->Bool} {s:Shared} {cmp:Nat->Nat->(Bool->Shared->Prop)->Shared->Prop} (hc:∀ i j C,i<n->j<n->C (lt i j) s->cmp i j C s) {Q:α->Prop} {R:α->Shared->Prop} (hR:∀ a,Q a->R a s):∀ (t:KasT α),okT n lt t Q->t.kasWp cmp R s
 | .ret a,q=>hR a q
 | .ask i j k,q=>hc i j _ q.1.1 q.1.2 (zpc hc hR _ q.2)
structure Ord (lt:Nat->Nat->Bool):Prop where
 irr:∀ i,lt i i=false
 asy:∀ i j,lt i j=true->lt j i=false
 neg:∀ i j k,lt i j=false->lt j k=false->lt i k=false
variable {N:Nat} {lt:Nat->Nat->Bool}
def In (N:Nat) (p:Array Nat):Prop:=p.size=N/\∀ i,i<N->p.getD i 0<N
def Up (lt:Nat->Nat->Bool) (p:Array Nat) (k:Nat):Prop:=∀ i j,i<=j->j<k->lt (p.getD j 0) (p.getD i 0)=false
def Dn (lt:Nat->Nat->Bool) (p:Array Nat) (k:Nat):Prop:=∀ i j,i<=j->j<k->lt (p.getD i 0) (p.getD j 0)=false
theorem zgt {p q:Array Nat} {i j:Nat} (h:p[i]?=q[j]?):p.getD i 0=q.getD j 0:=by
 rw[ydx,ydx,h]
theorem zbR {p:Array Nat} {i j k:Nat} (hj:j<=p.size):(kas_rev p i j).getD k 0=if i<=k/\k<j then p.getD (i+j-1-k) 0 else p.getD k 0:=by
 have e:=getElem?_mirror_all (xs:=p) (i:=i) hj k
 unfold kas_rev
 by_cases c:i<=k/\k<j
 ·rw[if_pos c] at e ⊢;exact zgt e
 ·rw[if_neg c] at e ⊢;exact zgt e
theorem zhS {p:Array Nat} {i j:Nat} (h:In N p) (hj:j<=N):In N (kas_rev p i j):=by
 refine ⟨by rw[kas_rev_size];exact h.1,fun k hk=>?_⟩
 rw[zbR (by rw[h.1];exact hj)]
 split
 ·exact h.2 _ (by ac_rfl)
 ·exact h.2 k hk
theorem Up.one {p:Array Nat} (O:Ord lt):Up lt p 1:=fun i j h1 h2=>by
 have:i=j:=by ac_rfl
 subst this
 exact O.irr _
theorem Up.next {p:Array Nat} {n:Nat} (O:Ord lt) (h:Up lt p n) (h1:1<=n) (c:lt (p.getD n 0) (p.getD (n-1) 0)=false):Up lt p (n+1):=fun i j h2 h3=>by
 by_cases e:j=n
 ·subst e
  by_cases e2:i=j
  ·subst e2;exact O.irr _
  ·exact O.neg _ _ _ c (h i (j-1) (by ac_rfl) (by ac_rfl))
 ·exact h i j h2 (by ac_rfl)
theorem zmW (O:Ord lt) {p:Array Nat} (hp:In N p) {Q:Nat->Prop}:∀ (f n:Nat),1<=n->n+f<=N->Up lt p n->(∀ m,n<=m->m<=n+f->Up lt p m->(m=n+f\/lt (p.getD m 0) (p.getD (m-1) 0)=true)->Q m)->okT N lt (kas_asc p f n) Q
 | 0,n,h1,h2,up,hQ=>hQ n (ycu _) (ycu _) up (.inl rfl)
 | f+1,n,h1,h2,up,hQ=>by
  refine ⟨⟨hp.2 n (by ac_rfl),hp.2 (n-1) (by ac_rfl)⟩,?_⟩
  cases c:lt (p.getD n 0) (p.getD (n-1) 0) with
  | true=>exact hQ n (ycu _) (by ac_rfl) up (.inr c)
  | false=>exact zmW O hp f (n+1) (by ac_rfl) (by ac_rfl) (up.next O h1 c) fun m a b u z=>hQ m (by ac_rfl) (by ac_rfl) u (by rcases z with z | z;exact .inl (by ac_rfl);exact .inr z)
theorem zgH (p:Array Nat) (i j:Nat):(kas_rev p i j).Perm p:=mirror_perm _ _ _ _
structure Des (lt:Nat->Nat->Bool) (p:Array Nat) (n q:Nat):Prop where
 hq:q+1<=n
 dn:Dn lt p n
 al:∀ i,n<=i+(q+1)->i<n->lt (p.getD i 0) (p.getD (n-1) 0)=false/\lt (p.getD (n-1) 0) (p.getD i 0)=false
theorem Des.alike {p:Array Nat} {n q:Nat} (O:Ord lt) (D:Des lt p n q) {i j:Nat} (h1:n<=i+(q+1)) (h2:i<n) (h3:n<=j+(q+1)) (h4:j<n):lt (p.getD i 0) (p.getD j 0)=false:=O.neg _ _ _ (D.al i h1 h2).1 (D.al j h3 h4).2
theorem Des.turn {p:Array Nat} {n q:Nat} (O:Ord lt) (D:Des lt p n q) (hn:n<=p.size):Dn lt (kas_rev p (n-(q+1)) n) n:=fun i j h1 h2=>by
 have:=D.hq
 rw[zbR hn,zbR hn]
 by_cases ci:n-(q+1)<=i/\i<n
 ·rw[if_pos ci,if_pos (show n-(q+1)<=j/\j<n by ac_rfl)]
  exact D.alike O (by ac_rfl) (by ac_rfl) (by ac_rfl) (by ac_rfl)
 ·rw[if_neg ci]
  by_cases cj:n-(q+1)<=j/\j<n
  ·rw[if_pos cj]
   exact D.dn _ _ (by ac_rfl) (by ac_rfl)
  ·rw[if_neg cj]
   exact D.dn i j h1 h2
theorem Des.fall {p:Array Nat} {n:Nat} (O:Ord lt) (dn:Dn lt p n) (h1:1<=n) (c:lt (p.getD (n-1) 0) (p.getD n 0)=false):Dn lt p (n+1):=fun i j h2 h3=>by
 by_cases e:j=n
 ·subst e
  by_cases e2:i=j
  ·subst e2;exact O.irr _
  ·exact O.neg _ _ _ (dn i (j-1) (by ac_rfl) (by ac_rfl)) c
 ·exact dn i j h2 (by ac_rfl)
theorem zid (O:Ord lt) {Q:Array Nat × Nat × Nat->Prop}:∀ (f:Nat) (p:Array Nat) (n q:Nat),In N p->n+f<=N->Des lt p n q->(∀ p' n' q',In N p'->p'.Perm p->n<=n'->n'<=n+f->Des lt p' n' q'->Q (p',n',q'))->okT N lt (kas_desc f p n q) Q
 | 0,p,n,q,hp,hn,D,hQ=>hQ p n q hp (Array.Perm.refl _) (ycu _) (ycu _) D
 | f+1,p,n,q,hp,hn,D,hQ=>by
  have hq:=D.hq
  refine ⟨⟨hp.2 n (by ac_rfl),hp.2 (n-1) (by ac_rfl)⟩,?_⟩
  cases c:lt (p.getD n 0) (p.getD (n-1) 0) with
  | true =>
   have c':=O.asy _ _ c
   show okT N lt (if q > 0 then _ else _) Q
   by_cases q0:q > 0
   ·rw[if_pos q0]
    have hs:n<=p.size:=by rw[hp.1];ac_rfl
    have dn:Dn lt (kas_rev p (n-(q+1)) n) (n+1):=by
     refine Des.fall O (D.turn O hs) (by ac_rfl) ?_
     rw[zbR hs,zbR hs,if_pos (by ac_rfl),if_neg (by ac_rfl)]
     exact O.neg _ _ _ (D.alike O (by ac_rfl) (by ac_rfl) (by ac_rfl) (by ac_rfl)) c'
    refine zid O f _ (n+1) 0 (zhS hp (by ac_rfl)) (by ac_rfl) ⟨by ac_rfl,dn,fun i a b=>?_⟩ fun p' n' q' a b c d e=>hQ p' n' q' a (b.trans (zgH _ _ _)) (by ac_rfl) (by ac_rfl) e
    have:i=n:=by ac_rfl
    subst this
    exact ⟨O.irr _,O.irr _⟩
   ·rw[if_neg q0]
    refine zid O f _ (n+1) 0 hp (by ac_rfl) ⟨by ac_rfl,Des.fall O D.dn (by ac_rfl) c',fun i a b=>?_⟩ fun p' n' q' a b c d e=>hQ p' n' q' a b (by ac_rfl) (by ac_rfl) e
    have:i=n:=by ac_rfl
    subst this
    exact ⟨O.irr _,O.irr _⟩
  | false =>
   refine ⟨⟨hp.2 (n-1) (by ac_rfl),hp.2 n (by ac_rfl)⟩,?_⟩
   cases d:lt (p.getD (n-1) 0) (p.getD n 0) with
   | true=>exact hQ p n q hp (Array.Perm.refl _) (ycu _) (by ac_rfl) D
   | false =>
    refine zid O f _ (n+1) (q+1) hp (by ac_rfl) ⟨by ac_rfl,Des.fall O D.dn (by ac_rfl) d,fun i a b=>?_⟩ fun p' n' q' a b c d e=>hQ p' n' q' a b (by ac_rfl) (by ac_rfl) e
    show lt (p.getD i 0) (p.getD n 0)=false/\lt (p.getD n 0) (p.getD i 0)=false
    by_cases e:i=n
    ·subst e
     exact ⟨O.irr _,O.irr _⟩
    ·have al:=D.al i (by ac_rfl) (by ac_rfl)
     exact ⟨O.neg _ _ _ al.1 d,O.neg _ _ _ c al.2⟩
theorem Dn.up {p:Array Nat} {n:Nat} (dn:Dn lt p n) (hn:n<=p.size):Up lt (kas_rev p 0 n) n:=fun i j h1 h2=>by
 rw[zbR hn,zbR hn,if_pos (by ac_rfl),if_pos (by ac_rfl)]
 exact dn _ _ (by ac_rfl) (by ac_rfl)
abbrev Good (N:Nat) (lt:Nat->Nat->Bool) (p0:Array Nat) (r:Nat × Array Nat):Prop:=In N r.2/\r.2.Perm p0/\1<=r.1/\r.1<=N/\Up lt r.2 r.1
theorem zlD (O:Ord lt) {p p0:Array Nat} {n:Nat} (hp:In N p) (pe:p.Perm p0) (h1:1<=n) (hn:n<=N) (dn:Dn lt p n):okT N lt (kas_tail3 n N p) (Good N lt p0):=by
 have hs:n<=p.size:=by rw[hp.1];ac_rfl
 refine zdd _ (zmW O (zhS hp hn) (N-n) n h1 (by ac_rfl) (dn.up hs) fun m a b u _=>?_)
 exact ⟨zhS hp hn,(zgH _ _ _).trans pe,by show 1<=m;ac_rfl,by show m<=N;ac_rfl,u⟩
theorem ziz (O:Ord lt) {p p0:Array Nat} {n:Nat} (hp:In N p) (pe:p.Perm p0) (h1:1<=n) (hn:n+1<=N) (dn:Dn lt p (n+1)):okT N lt (kas_descPart n N p) (Good N lt p0):=by
 refine zdd _ (zid O (N-(n+1)) p (n+1) 0 hp (by ac_rfl) ⟨by ac_rfl,dn,fun i a b=>?_⟩ fun p' n' q' a b c d D=>?_)
 ·have:i=n:=by ac_rfl
  subst this
  exact ⟨O.irr _,O.irr _⟩
 ·show okT N lt (if q' > 0 then kas_tail3 n' N (kas_rev p' (n'-(q'+1)) n') else kas_tail3 n' N p') _
  have hs:n'<=p'.size:=by rw[a.1];ac_rfl
  by_cases q0:q' > 0
  ·rw[if_pos q0]
   exact zlD O (zhS a (by ac_rfl)) ((zgH _ _ _).trans (b.trans pe)) (by ac_rfl) (by ac_rfl) (D.turn O hs)
  ·rw[if_neg q0]
   exact zlD O a (b.trans pe) (by ac_rfl) (by ac_rfl) D.dn
theorem zqr (O:Ord lt) {p:Array Nat} (hp:In N p) (h1:1<=N):okT N lt (kas_count N p) (Good N lt p):=by
 refine zdd _ (zmW O hp (N-1) 1 (ycu _) (by ac_rfl) (Up.one O) fun n a b u z=>?_)
 show okT N lt (if (n == N)=true then _ else _) _
 by_cases e:n=N
 ·rw[if_pos (by rw[e];exact beq_self_eq_true N)]
  exact ⟨hp,Array.Perm.refl _,by show 1<=n;ac_rfl,by show n<=N;ac_rfl,u⟩
 ·rw[if_neg (by rw[beq_iff_eq];exact e)]
  have c:lt (p.getD n 0) (p.getD (n-1) 0)=true:=by rcases z with z | z;ac_rfl;exact z
  have c':=O.asy _ _ c
  by_cases g:n > 1
  ·rw[if_pos g]
   refine ⟨⟨hp.2 0 (by ac_rfl),hp.2 (n-1) (by ac_rfl)⟩,?_⟩
   cases d:lt (p.getD 0 0) (p.getD (n-1) 0) with
   | true=>exact ⟨hp,Array.Perm.refl _,by show 1<=n;ac_rfl,by show n<=N;ac_rfl,u⟩
   | false =>
    have hs:n<=p.size:=by rw[hp.1];ac_rfl
    have al:∀ i j,i<n->j<n->lt (p.getD i 0) (p.getD j 0)=false:=fun i j hi hj=>O.neg _ _ _ (u 0 i (ycy _) hi) (O.neg _ _ _ d (u j (n-1) (by ac_rfl) (by ac_rfl)))
    refine ziz O (zhS hp (by ac_rfl)) (zgH _ _ _) (by ac_rfl) (by ac_rfl) (Des.fall O (fun i j h2 h3=>?_) (by ac_rfl) ?_)
    ·rw[zbR hs,zbR hs,if_pos (by ac_rfl),if_pos (by ac_rfl)]
     exact al _ _ (by ac_rfl) (by ac_rfl)
    ·rw[zbR hs,zbR hs,if_pos (by ac_rfl),if_neg (by ac_rfl)]
     exact O.neg _ _ _ (al _ (n-1) (by ac_rfl) (by ac_rfl)) c'
  ·rw[if_neg g]
   have e1:n=1:=by ac_rfl
   subst e1
   refine ziz O hp (Array.Perm.refl _) (ycu _) (by ac_rfl) (Des.fall O (fun i j h2 h3=>?_) (ycu _) c')
   have:i=j:=by ac_rfl
   subst this
   exact O.irr _
theorem ziF (O:Ord lt) {p:Array Nat} (hp:In N p) {k:Nat} (hk:k<N) (u:Up lt p k) {Q:Nat->Prop}:∀ (f l r:Nat),l<=r->r<=k->r-l<=f->(∀ i,i<l->lt (p.getD k 0) (p.getD i 0)=false)->(∀ i,r<=i->i<k->lt (p.getD k 0) (p.getD i 0)=true) ->
  (∀ m,m<=k->(∀ i,i<m->lt (p.getD k 0) (p.getD i 0)=false)->(∀ i,m<=i->i<k->lt (p.getD k 0) (p.getD i 0)=true)->Q m)->okT N lt (kas_place p k f l r) Q
 | 0,l,r,h1,h2,h3,lo,hi,hQ=>hQ l (by ac_rfl) lo fun i a b=>hi i (by ac_rfl) b
 | f+1,l,r,h1,h2,h3,lo,hi,hQ=>by
  show okT N lt (if l>=r then _ else _) Q
  by_cases g:l>=r
  ·rw[if_pos g]
   exact hQ l (by ac_rfl) lo fun i a b=>hi i (by ac_rfl) b
  ·rw[if_neg g]
   refine ⟨⟨hp.2 k hk,hp.2 _ (by ac_rfl)⟩,?_⟩
   cases c:lt (p.getD k 0) (p.getD ((l+r) / 2) 0) with
   | true =>
    refine ziF O hp hk u f l ((l+r) / 2) (by ac_rfl) (by ac_rfl) (by ac_rfl) lo (fun i a b=>?_) hQ
    cases d:lt (p.getD k 0) (p.getD i 0) with
    | true=>rfl
    | false =>
     have:=O.neg _ _ _ d (u _ i a b)
     rw[c] at this
     cases this
   | false=>exact ziF O hp hk u f ((l+r) / 2+1) r (by ac_rfl) h2 (by ac_rfl) (fun i a=>O.neg _ _ _ c (u i _ (by ac_rfl) (by ac_rfl))) hi hQ
theorem zmn {p:Array Nat} {k l i:Nat} (hk:k<p.size) (hl:l<=k):(bubble p k (k-l)).getD i 0=if i=l then p.getD k 0 else if l<i/\i<=k then p.getD (i-1) 0 else p.getD i 0:=by
 have e:=getElem?_bubble hk (k-l) (by ac_rfl) i
 rw[show k-(k-l)=l by ac_rfl] at e
 by_cases c:i=l
 ·rw[if_pos c] at e ⊢;exact zgt e
 ·rw[if_neg c] at e ⊢
  by_cases c2:l<i/\i<=k
  ·rw[if_pos c2] at e ⊢;exact zgt e
  ·rw[if_neg c2] at e ⊢;exact zgt e
theorem zp3 (O:Ord lt) {p0:Array Nat}:∀ (f:Nat) (p:Array Nat) (k:Nat),In N p->p.Perm p0->k+f=N->Up lt p k->okT N lt (kas_bin f p k) fun q=>In N q/\q.Perm p0/\Up lt q N
 | 0,p,k,hp,pe,e,u=>⟨hp,pe,by rw[<-e];exact u⟩
 | f+1,p,k,hp,pe,e,u=>by
  have hk:k<p.size:=by rw[hp.1];ac_rfl
  refine zdd _ (ziF O hp (by ac_rfl) u k 0 k (ycy _) (ycu _) (by ac_rfl) (fun i h=>absurd h (Nat.not_lt_zero _)) (fun i a b=>by ac_rfl) fun l hl lo hi=>?_)
  refine zp3 O f _ (k+1) ⟨by rw[bubble_size];exact hp.1,fun i h=>?_⟩ ((bubble_perm _ _ _).trans pe) (by ac_rfl) fun i j h1 h2=>?_
  ·rw[zmn hk hl]
   by_cases c1:i=l
   ·rw[if_pos c1];exact hp.2 k (by ac_rfl)
   ·rw[if_neg c1]
    by_cases c2:l<i/\i<=k
    ·rw[if_pos c2];exact hp.2 _ (by ac_rfl)
    ·rw[if_neg c2];exact hp.2 i h
  ·rw[zmn hk hl,zmn hk hl]
   by_cases ei:i=l
   ·rw[if_pos ei]
    by_cases ej:j=l
    ·rw[if_pos ej];exact O.irr _
    ·rw[if_neg ej,if_pos (by ac_rfl)]
     exact O.asy _ _ (hi (j-1) (by ac_rfl) (by ac_rfl))
   ·rw[if_neg ei]
    by_cases ej:j=l
    ·rw[if_pos ej,if_neg (by ac_rfl)]
     exact lo i (by ac_rfl)
    ·rw[if_neg ej]
     by_cases ci:l<i/\i<=k
     ·rw[if_pos ci,if_pos (by ac_rfl)]
      exact u _ _ (by ac_rfl) (by ac_rfl)
     ·rw[if_neg ci]
      by_cases cj:l<j/\j<=k
      ·rw[if_pos cj]
       exact u _ _ (by ac_rfl) (by ac_rfl)
      ·rw[if_neg cj]
       exact u _ _ h1 (by ac_rfl)
theorem zr9 (O:Ord lt) (h1:1<=N):okT N lt (kas_sort N) fun q=>In N q/\q.Perm (ybj (ybb N))/\Up lt q N:=by
 have hp:In N (ybj (ybb N)):=⟨by simp,fun i h=>by
  rw[ydx]
  simp[h]⟩
 refine zdd _ (zl8 (fun r g=>?_) _ (zqr O hp h1))
 obtain ⟨a,b,c,d,e⟩:=g
 show okT N lt (if r.1<N then _ else _) _
 by_cases h:r.1<N
 ·rw[if_pos h]
  exact zp3 O _ _ _ a b (by ac_rfl) (by rw[Nat.max_eq_left c];exact e)
 ·rw[if_neg h]
  have:r.1=N:=by ac_rfl
  exact ⟨a,b,by rw[<-this];exact e⟩
end SortT
namespace SortT
open PySem PySem.W PyProof.Rows PySem.Calls
def za4 (h:Heap) (v:Value) (x:Int × Int):Prop:=∃ a o n t u,v=.ref a/\h.get? a=some o/\o.cls=.type "tuple" /\ o.data=.seq #[.int x.1 t,.int x.2 u] n
theorem za4.keep {h h':Heap} {v:Value} {x:Int × Int} (p:za4 h v x) (k:∀ a o,v=.ref a->h.get? a=some o->h'.get? a=some o):za4 h' v x:=by
 obtain ⟨a,o,n,t,u,rfl,e,r⟩:=p
 exact ⟨a,o,n,t,u,rfl,k a o rfl e,r⟩
def lex (x y:Int × Int):Bool:=decide (x.1<y.1\/(x.1=y.1/\x.2<y.2))
section
variable {prog:Program} {w:World} {A:Around} {E:Value->Shared->Prop} {s:Shared}
theorem zrw {v v':Value} {x y:Int × Int} (hv:za4 s.heap v x) (hw:za4 s.heap v' y) {Q:Bool->Shared->Prop} (h:Q (lex x y) s):wpAny (model prog w) A (keyLt' (tuples' true) v v') Q E s:=by
 obtain ⟨a,o,n,t,u,rfl,e,c,d⟩:=hv
 obtain ⟨a',o',n',t',u',rfl,e',c',d'⟩:=hw
 refine kat_lt e d e' d' ?_
 refine kat_cons (wpAny_eqBool_int ?_)
 by_cases c1:x.1=y.1
 ·rw[show (x.1 == y.1)=true from beq_iff_eq.mpr c1]
  refine kat_yes (kat_cons (wpAny_eqBool_int ?_))
  by_cases c2:x.2=y.2
  ·rw[show (x.2 == y.2)=true from beq_iff_eq.mpr c2]
   refine kat_yes (kat_nil ?_)
   have:lex x y=false:=decide_eq_false (by ac_rfl)
   rw[this] at h
   exact h
  ·rw[show (x.2 == y.2)=false from beq_eq_false_iff_ne.mpr c2]
   refine kat_no (kat_one _ _ (lt_int ?_))
   have:lex x y=decide (x.2<y.2):=decide_eq_decide.mpr (by ac_rfl)
   rw[this] at h
   exact h
 ·rw[show (x.1 == y.1)=false from beq_eq_false_iff_ne.mpr c1]
  refine kat_no (oneLt_int ?_)
  have:lex x y=decide (x.1<y.1):=decide_eq_decide.mpr (by ac_rfl)
  rw[this] at h
  exact h
theorem zn2 (f:Nat->Int × Int):Ord fun i j=>lex (f i) (f j):=by
 refine ⟨fun i=>decide_eq_false (by ac_rfl),fun i j h=>?_,fun i j k h1 h2=>?_⟩
 ·have:=of_decide_eq_true h
  exact decide_eq_false (by ac_rfl)
 ·have a:=of_decide_eq_false h1
  have b:=of_decide_eq_false h2
  exact decide_eq_false (by ac_rfl)
theorem ziv {a:Addr} {vs:List Value} {n:Nat} {P:PySem.Fin->Shared->Prop} {f:Nat->Int × Int} (ho:s.heap.get? a=some (seqObj "list" vs.toArray n)) (h64:vs.length<64) (hp:∀ i,i<vs.length->za4 s.heap (vs.getD i .none) (f i))
  (h:∀ p:Array Nat,In vs.length p->p.Perm (ybj (ybb vs.length))->Up (fun i j=>lex (f i) (f j)) p vs.length->P (.done (.ret .none)) { s with heap:=sortedHeap s.heap a vs (ybj (p.toList.map fun i=>vs.getD i Value.none)) }) :
  wpAny (model prog w) A (Builtin.«list.sort» ⟨[.ref a],[]⟩) P E s:=by
 rw[list_sort_plain]
 have ha:a<s.heap.objs.size:=ydl ho
 refine wpAny_bind (listItems_at ho rfl ?_)
 refine wpAny_bind (listUpdate_at ho rfl ?_ (by rw[yan,sizeLine_eq];ac_rfl) (ycy _))
 obtain ⟨e1,ho1⟩:∃ e1,(s.heap.update a (Obj.mapSeq fun _=>#[])).get? a=some (seqObj "list" #[] e1):=⟨_,get?_update_seq ho (fun _=>#[])⟩
 refine wpAny_bind (seqEpoch_at ho1 rfl ?_)
 refine wpAny_bind (wpAny_newTuple ?_ (by show vs.length<=_;rw[sizeLine_eq];ac_rfl))
 refine wpAny_bind (wpAny_newList ?_ (ycy _))
 refine wpAny_holding ?_
 have ho6:(((s.heap.update a (Obj.mapSeq fun _=>#[])).push (seqObj "tuple" vs.toArray 0)).push (seqObj "list" #[] 0)).get? a=some (seqObj "list" #[] e1):=ydk _ (ydk _ ho1)
 show wpAny (model prog w) A _ P E { s with heap:=((s.heap.update a (Obj.mapSeq fun _=>#[])).push (seqObj "tuple" vs.toArray 0)).push (seqObj "list" #[] 0) }
 dsimp only
 have hsz:vs.toArray.size=vs.length:=by simp
 have outsz:∀ p:Array Nat,p.size=vs.length->(ybj (p.toList.map fun i=>vs.getD i Value.none)).size<=sizeLine:=fun p hp=>by
  rw[yan,yab,ydv,hp,sizeLine_eq];ac_rfl
 by_cases h2:vs.toArray.size<2
 ·rw[if_pos h2,if_pos h2]
  refine wpAny_bind (wpAny_pure ?_)
  rw[StateT.run_pure]
  refine wpAny_bind (wpAny_pure ?_)
  dsimp only
  have hin:In vs.length (ybj (ybb vs.length)):=⟨by simp,fun i h=>by rw[ydx];simp[h]⟩
  have key:=h (ybj (ybb vs.length)) hin (Array.Perm.refl _) (fun i j h1 h3=>by
   have:i=j:=by ac_rfl
   subst this
   exact (zn2 f).irr _)
  have eo:(arrOf (SortSt.mk' general' (vs.toArray.zip vs.toArray) #[] 7 none)).map (·.2)=ybj ((ybj (ybb vs.length)).toList.map fun i=>vs.getD i Value.none):=by
   refine kat_snds rfl ?_
   have e:=kas_range (vs.toArray.zip vs.toArray)
   rw[show (vs.toArray.zip vs.toArray).size=vs.length by simp] at e
   exact e.symm
  refine wpAny_bind (seqEpoch_at ho6 rfl ?_)
  refine wpAny_bind (listUpdate_at ho6 rfl ?_ (ycy _) (by rw[eo];exact ydh (outsz _ hin.1)))
  simp only[bne_self_eq_false,Bool.false_eq_true,if_false]
  rw[eo]
  exact wpAny_pure key
 ·rw[if_neg h2,if_neg h2]
  have kp:∀ b o,b≠a->s.heap.get? b=some o->(((s.heap.update a (Obj.mapSeq fun _=>#[])).push (seqObj "tuple" vs.toArray 0)).push (seqObj "list" #[] 0)).get? b=some o:=fun b o nb e=>ydk _ (ydk _ (by rw[ydp _ _ _ _ nb];exact e))
  have hp':∀ i,i<vs.length->za4 (((s.heap.update a (Obj.mapSeq fun _=>#[])).push (seqObj "tuple" vs.toArray 0)).push (seqObj "list" #[] 0)) (vs.getD i .none) (f i):=fun i hi=>by
   obtain ⟨b,o,m,t,u,e,eo,c,d⟩:=hp i hi
   refine ⟨b,o,m,t,u,e,kp b o (fun z=>?_) eo,c,d⟩
   subst z
   rw[ho] at eo
   have eo':=Option.some.inj eo
   rw[<-eo'] at c
   exact absurd (show Value.type "list" = Value.type "tuple" from c) (by decide)
  have tups:∀ (ws:List Value) (g:Nat->Int × Int),(∀ i,i<ws.length->za4 (((s.heap.update a (Obj.mapSeq fun _=>#[])).push (seqObj "tuple" vs.toArray 0)).push (seqObj "list" #[] 0)) (ws.getD i .none) (g i))->∃ fs,KatTups (((s.heap.update a (Obj.mapSeq fun _=>#[])).push (seqObj "tuple" vs.toArray 0)).push (seqObj "list" #[] 0)) ws fs/\fs.length=ws.length/\∀ v∈fs,∃ m t,v=.int m t:=by
   intro ws
   induction ws with
   | nil=>intro g _;exact ⟨[],KatTups.nil,rfl,fun v hv=>by cases hv⟩
   | cons v ws ih =>
    intro g hg
    obtain ⟨fs,k1,k2,k3⟩:=ih (fun i=>g (i+1)) fun i hi=>hg (i+1) (by simp;ac_rfl)
    obtain ⟨b,o,m,t,u,e,eo,c,d⟩:=hg 0 (by simp)
    have e':v=.ref b:=e
    subst e'
    exact ⟨.int (g 0).1 t::fs,KatTups.cons eo c d rfl k1,by simp[k2],fun v hv=>by
     rcases yak.mp hv with rfl | hv
     ·exact ⟨_,_,rfl⟩
     ·exact k3 v hv⟩
  obtain ⟨fs,k1,k2,k3⟩:=tups vs f hp'
  refine wpAny_bind (kat_kind (T:=.type "int") k1 (by ac_rfl) (fun v hv=>?_) (by decide) ?_)
  ·obtain ⟨m,t,rfl⟩:=k3 v hv
   exact Looks.now
  have ask:(kas_sort vs.length).kasWp (kas_ask prog w A (tuples' (Value.type "int" != Value.type "tuple")) vs) (fun p s''=>(In vs.length p/\p.Perm (ybj (ybb vs.length))/\Up (fun i j=>lex (f i) (f j)) p vs.length)/\s''={ s with heap:=((s.heap.update a (Obj.mapSeq fun _=>#[])).push (seqObj "tuple" vs.toArray 0)).push (seqObj "list" #[] 0) }) { s with heap:=((s.heap.update a (Obj.mapSeq fun _=>#[])).push (seqObj "tuple" vs.toArray 0)).push (seqObj "list" #[] 0) }:=by
   refine zpc (fun i j C hi hj hc=>?_) (fun p g=>⟨g,rfl⟩) _ (zr9 (zn2 f) (by ac_rfl))
   show wpAny (model prog w) A (keyLt' (tuples' true) (vs.getD i .none) (vs.getD j .none)) C _ _
   exact zrw (hp' i hi) (hp' j hj) hc
  refine wpAny_bind (wpAny_mono (kat_run (Q:=fun st' s'=>∃ p:Array Nat,p.size=vs.length/\arrOf st'=p.map (kas_item (vs.toArray.zip vs.toArray))/\failedOf st'=none/\(In vs.length p/\p.Perm (ybj (ybb vs.length))/\Up (fun i j=>lex (f i) (f j)) p vs.length)/\s'={ s with heap:=((s.heap.update a (Obj.mapSeq fun _=>#[])).push (seqObj "tuple" vs.toArray 0)).push (seqObj "list" #[] 0) })
   rfl (by ac_rfl) h64 (fun p' st' s' a1 a2 a3 a4=>⟨p',a1,a2,a3,a4⟩) ask) ?_ fun _ _ e=>e)
  rintro ⟨⟨⟩,st'⟩ s' ⟨p,hps,har,hf,⟨g1,g2,g3⟩,rfl⟩
  dsimp only
  have hout:=kat_snds rfl har
  rw[hout]
  refine wpAny_bind (seqEpoch_at ho6 rfl ?_)
  refine wpAny_bind (listUpdate_at ho6 rfl ?_ (ycy _) (ydh (outsz p hps)))
  rw[hf]
  simp only[bne_self_eq_false,Bool.false_eq_true,if_false]
  exact wpAny_pure (h p g1 g2 g3)
theorem zqG {l:Addr} {vs:List Value} {Q:Value->Shared->Prop} {f:Nat->Int × Int} (hl:s.heap.IsList l vs.toArray) (h64:vs.length<64) (hp:∀ i,i<vs.length->za4 s.heap (vs.getD i .none) (f i))
  (h:∀ p:Array Nat,In vs.length p->p.Perm (ybj (ybb vs.length))->Up (fun i j=>lex (f i) (f j)) p vs.length->Q (.ref (s.heap.objs.size+1)) { s with heap:=sortedAll s.heap vs (ybj (p.toList.map fun i=>vs.getD i Value.none)) }) :
  wpAny (model prog w) A (call (.builtin "sorted") [.ref l]) Q E s:=by
 refine Calls.call_function_entry kind_sorted plain_sorted entry_sorted (args_sorted1 _) ?_
 unfold Builtin.«sorted»
 refine wpAny_bind (m:=checkCount "sorted" 1 1 _) (wpAny_pure ?_)
 refine wpAny_bind (collect_list hl ?_ (by rw[sizeLine_eq];ac_rfl))
 refine wpAny_bind (wpAny_newList ?_ (by rw[sizeLine_eq];ac_rfl))
 have hsz:((s.heap.push (seqObj "list" #[] 0)).update s.heap.objs.size (Obj.mapSeq (·++vs.toArray))).objs.size=s.heap.objs.size+1:=by
  rw[Heap.size_update,size_push']
 have hoL:(((s.heap.push (seqObj "list" #[] 0)).update s.heap.objs.size (Obj.mapSeq (·++vs.toArray))).push (seqObj "list" vs.toArray 0)).get? (s.heap.objs.size+1)=some (seqObj "list" vs.toArray 0):=by
  rw[<-hsz];exact ydm _ rfl
 have keep:∀ b o,s.heap.get? b=some o->(((s.heap.push (seqObj "list" #[] 0)).update s.heap.objs.size (Obj.mapSeq (·++vs.toArray))).push (seqObj "list" vs.toArray 0)).get? b=some o:=fun b o q=>by
  have hlt:b<s.heap.objs.size:=ydl q
  rw[Heap.get?_push_ne _ _ _ (by rw[hsz];exact ycv (ydc hlt)),ydp _ _ _ _ (ycv hlt),Heap.get?_push_ne _ _ _ (ycv hlt)]
  exact q
 show wpAny _ _ _ _ _ { s with heap:=((s.heap.push (seqObj "list" #[] 0)).update s.heap.objs.size (Obj.mapSeq (·++vs.toArray))).push (seqObj "list" vs.toArray 0) }
 rw[hsz]
 refine wpAny_bind (wpAny_holding (wpAny_call_entry slot_list_sort ⟨_,hoL,rfl⟩ entry_list_sort (ziv hoL h64 (fun i hi=>(hp i hi).keep fun a o _ e=>keep a o e) fun p a1 a2 a3=>⟨_,rfl,?_⟩) (args_list_sort _)))
 exact wpAny_pure ⟨_,rfl,h p a1 a2 a3⟩
end
end SortT
namespace L2
open PySem PySem.Spec PyProof.Rows
section
variable {X:Cx} {e k:Expr} {te:TE} {p2 pos:Pos} {lo hi:Option Expr} {tl th:TO}
theorem map_getD {α:Type} (l:List α) (d:α):(ybb l.length).map (fun i=>l.getD i d)=l:=by
 apply ycc
 intro i
 rw[yam]
 by_cases h:i<l.length
 ·rw[ycg h,yaa h]
  simp[h]
 ·rw[yaq (by simp;ac_rfl),yaq (by ac_rfl)]
  rfl
theorem ziS {α:Type} {f:α->V} {g:α->Value}:∀ is:List α,(∀ i∈is,RelV (f i) (g i))->Vals (is.map f) (is.map g)
 | [],_=>.nil
 | i::is,h=>.cons (h i (yai ..)) (ziS is fun j hj=>h j (yaj _ hj))
theorem zhi (hex:X.ex=[]:=by rfl):zaT X (.builtin "sorted") (fun xs H Q=>∃ (p:Addr) (vs:List V) (l:List (Int × Int)),xs=[.ref p]/\SqL X.K H p vs/\zu X.K H vs l/\l.length<64 /\
  ∀ (q:Addr) (H':Hp) (ws:List V) (r:List (Int × Int)),H q=none->Same H H'->H' q=some (.lst ws)->zu X.K H' ws r->r.Perm l->(r.Pairwise fun s t=>s.1<=t.1)->Q (.ref q) H'):=by
 intro pins s σ H xs us Q I r h
 obtain ⟨p,vs,l,rfl,hp,hR,hl,q⟩:=h
 obtain ⟨u,rfl,rx⟩:=vals1 r
 cases rx
 obtain ⟨its,rv,pl,hz⟩:=I.list hp
 have vl:=hR.length
 have len:its.length=l.length:=by rw[<-rv.length,vl]
 have pair:∀ i,i<its.length->SortT.za4 s.heap (its.getD i .none) (l.getD i (0,0)):=fun i hi=>by
  have ev:vs[i]?=some (vs[i]'(by ac_rfl)):=yaa (by ac_rfl)
  obtain ⟨a,x,e1,e2,e3⟩:=hR.get ev
  obtain ⟨w,hw,rw'⟩:=rv.get ev
  rw[e1] at rw'
  cases rw'
  obtain ⟨ts,tv,tp,_⟩:=I.tuple (SqT.of e3)
  cases tv with
  | cons t1 tv =>
   cases tv with
   | cons t2 tv =>
    cases tv
    obtain ⟨t,rfl⟩:=t1
    obtain ⟨t',rfl⟩:=t2
    obtain ⟨o,eo,oc,n,od⟩:=(show s.heap.IsTuple a _ from tp)
    refine ⟨a,o,n,t,t',?_,eo,oc,?_⟩
    ·rw[yac,hw];rfl
    ·rw[od,show l.getD i (0,0)=x by rw[yac,e2];rfl]
 refine SortT.zqG pl.isList (by ac_rfl) pair fun P a1 a2 a3=>?_
 obtain ⟨n,at_⟩:=sortedAll_at s.heap its (ybj (P.toList.map fun i=>its.getD i Value.none))
 have pin:∀ i∈P.toList,i<its.length:=fun i hi=>by
  obtain ⟨j,hj,rfl⟩:=yaw.mp hi
  have hj':j<its.length:=by rw[<-a1.1];simpa using hj
  have:=a1.2 j hj'
  rw[ydx,ydw (by rw[a1.1];exact hj')] at this
  simpa using this
 have plen:P.toList.length=its.length:=by rw[ydv,a1.1]
 have vl':Vals (P.toList.map fun i=>vs.getD i .non) (P.toList.map fun i=>its.getD i Value.none):=ziS _ fun i hi=>by
  have hi':=pin i hi
  have ev:vs[i]?=some (vs[i]'(by ac_rfl)):=yaa (by ac_rfl)
  obtain ⟨w,hw,rw'⟩:=rv.get ev
  rw[yac,ev,yac,hw]
  exact rw'
 have new:s.heap.get? (s.heap.objs.size+1)=none:=ydr (ydf _)
 have nl:(P.toList.map fun i=>vs.getD i .non).length<=sizeLine:=by rw[yab,plen,sizeLine_eq];ac_rfl
 have I1:Inv X pins σ (upd H (s.heap.objs.size+1) (.lst (P.toList.map fun i=>vs.getD i .non))) { s with heap:=sortedAll s.heap its (ybj (P.toList.map fun i=>its.getD i Value.none)),toks:=s.toks } :=
  I.ziQ (fun b o e=>sortedAll_old e) new hex ⟨nl,_,n,vl',by simpa [seqObj] using at_⟩
 have sm:Same H (upd H (s.heap.objs.size+1) (.lst (P.toList.map fun i=>vs.getD i .non))):=zb (I.hok.gone new) _
 refine ⟨.ref (s.heap.objs.size+1),_,I1,rfl,q _ _ _ (P.toList.map fun i=>l.getD i (0,0)) (I.hok.gone new) sm ze (zku (by rw[yab,yab]) fun j v x h1 h2=>?_) ?_ ?_⟩
 ·rw[yam] at h1 h2
  obtain ⟨i,hi,rfl⟩:=Option.map_eq_some_iff.mp h1
  rw[hi] at h2
  have h2':l.getD i (0,0)=x:=Option.some.inj h2
  have hi':=pin i (yah hi)
  have ev:vs[i]?=some (vs[i]'(by ac_rfl)):=yaa (by ac_rfl)
  obtain ⟨b,y,e1,e2,e3⟩:=hR.get ev
  have ey:l.getD i (0,0)=y:=by rw[yac,e2];rfl
  refine ⟨b,by rw[yac,ev,<-e1];rfl,?_⟩
  rw[<-h2',ey]
  exact sm _ _ e3
 ·have pp:P.toList.Perm (ybb l.length):=by
   have:=Array.perm_iff_toList_perm.mp a2
   rw[len] at this
   exact this
  have:=pp.map fun i=>l.getD i (0,0)
  rw[map_getD] at this
  exact this
 ·refine yay.mpr fun i j hi hj lt=>?_
  rw[yab] at hi hj
  have up:=a3 i j (ydi lt) (by ac_rfl)
  have gi:∀ m (h:m<P.toList.length),P.getD m 0=P.toList[m]:=fun m h=>by
   rw[ydx,ydw (by simpa using h)]
   simp
  rw[gi i hi,gi j hj] at up
  have:=of_decide_eq_false up
  rw[ycq,ycq]
  ac_rfl
end
noncomputable def zai (l:List (Int × Int)) (k y:Int):List (Int × Int):=if l.any (fun p=>p.1=k) then l.map (fun p=>if p.1=k then (p.1,y) else p) else l++[(k,y)]
noncomputable def zcy (l:List (Int × Int)):List (Int × Int):=l.foldl (fun acc s=>zai acc s.1 s.2) []
inductive KR:List (Int × Value)->List (Int × Int)->Prop
 | nil:KR [] []
 | cons {k y:Int} {t:Tok} {r:List (Int × Value)} {l:List (Int × Int)}:KR r l->KR ((k,.int y t)::r) ((k,y)::l)
theorem KR.length {r:List (Int × Value)} {l:List (Int × Int)} (h:KR r l):r.length=l.length:=by
 induction h with
 | nil=>rfl
 | cons _ ih=>simp[ih]
theorem KR.any {r:List (Int × Value)} {l:List (Int × Int)} {k:Int} (h:KR r l):r.any (fun kv=>kv.1=k)=l.any (fun p=>p.1=k):=by
 induction h with
 | nil=>rfl
 | cons _ ih=>rw[yct,yct,ih]
theorem KR.snoc {r:List (Int × Value)} {l:List (Int × Int)} {k y:Int} {t:Tok} (h:KR r l):KR (r++[(k,.int y t)]) (l++[(k,y)]):=by
 induction h with
 | nil=>exact .cons .nil
 | cons _ ih=>exact .cons ih
theorem KR.map {r:List (Int × Value)} {l:List (Int × Int)} {k y:Int} {t:Tok} (h:KR r l):KR (r.map fun kv=>if kv.1=k then (kv.1,.int y t) else kv) (l.map fun p=>if p.1=k then (p.1,y) else p):=by
 induction h with
 | nil=>exact .nil
 | @cons k' y' t' r l _ ih =>
  rw[ybt,ybt]
  by_cases e:k'=k
  ·rw[if_pos e,if_pos e];exact .cons ih
  ·rw[if_neg e,if_neg e];exact .cons ih
theorem KR.stored {r:List (Int × Value)} {l:List (Int × Int)} {k y:Int} {t:Tok} (h:KR r l):KR (stored r k (.int y t)) (zai l k y):=by
 unfold PySem.stored zai
 rw[h.any]
 split
 ·exact h.map
 ·exact h.snoc
theorem KR.get {r:List (Int × Value)} {l:List (Int × Int)} (h:KR r l):∀ {i:Nat} {k:Int} {v:Value},r[i]?=some (k,v)->∃ y t,l[i]?=some (k,y)/\v=.int y t:=by
 induction h with
 | nil=>intro i k v e;simp at e
 | cons _ ih =>
  intro i k v e
  cases i with
  | zero=>cases e;exact ⟨_,_,rfl,rfl⟩
  | succ i=>exact ih e
theorem zj3 (l:List (Int × Int)) (k y:Int):(zai l k y).length<=l.length+1:=by
 unfold zai
 split
 ·rw[yab];ac_rfl
 ·simp
theorem zir (l acc:List (Int × Int)):(l.foldl (fun acc s=>zai acc s.1 s.2) acc).length<=acc.length+l.length:=by
 induction l generalizing acc with
 | nil=>simp
 | cons s l ih =>
  rw[yck]
  have:=ih (zai acc s.1 s.2)
  have:=zj3 acc s.1 s.2
  rw[ybd]
  ac_rfl
theorem znt (l:List (Int × Int)):(zcy l).length<=l.length:=by
 have:=zir l []
 simpa [zcy] using this
theorem zm1:typeLookup (.type "list") "keys" = pure none:=by rw[typeLookup_type,builtinLookup_eq_fast];kernel_rfl
theorem zmJ {prog:Program} {w:World} {A:Around} {E:Value->Shared->Prop} {s:Shared} {a:Addr} {xs:Array Value} {k:Nat} {Q:Option Value->Shared->Prop}
  (hx:s.heap.get? a=some { cls:=.type "list", dict:=none,data:=.seq xs k,slots:=#[] }) (hA:A.handled=none)
  (h:∀ h' tk,(∀ b o,s.heap.get? b=some o->h'.get? b=some o)->Q none { s with heap:=h',toks:=tk }) :
  wpAny (model prog w) A (getAttr? (.ref a) "keys") Q E s:=by
 obtain ⟨hp,g,d,tk,os⟩:=s
 have hT:∀ tk',(⟨hp,g,d,tk',os⟩:Shared).TypeIs (.ref a) "list" := fun _=>⟨_,hx,rfl⟩
 have f1:=sub_AttributeError
 have f3:=F.slot_list_getattribute.lookup
 have f4:=F.slot_list_getattribute.bind (.ref a)
 have f5:=am_list_getattr_none
 unfold getAttr? getAttrBy? getAttrBy
 repeat (any_goals (first | assumption | exact hT _ | ((with_reducible show wpAny _ _ (call (Value.builtin "list.__getattribute__") _ _) _ _ _);refine call_meets F.slot_list_getattribute (hT _) am_entry_list_getattribute (F.args_list_getattribute_2 _ _) (meets_getattribute_miss_list a xs k #[] "keys" _ zm1 (by decide +kernel) (by size_fits)) ⟨hx,hA,fun h' tk' e hx'=>?_⟩) | wp_step))
 obtain ⟨t',u',he⟩:=hx'.there
 show wpAny _ _ (getattributeRaised _ _ _ _ _ _ _) _ _ _
 unfold getattributeRaised
 repeat (any_goals (first | assumption | wp_step))
 exact h _ _ hx'.keeps
theorem zgk:entryFor table "dict.update.loop" = some Builtin.«dict.update.loop»:=entryFor_of_tree (by kernel_rfl)
theorem zb7:plainId "dict.update.loop" = true:=by decide +kernel
section
variable {prog:Program} {w:World} {A:Around} {s:Shared} {R:Result->Shared->Prop}
theorem zbM {h h':Heap} {d:Addr} {kvs:List (Int × Value)} (x:h.DictOf (intKind prog w) d kvs) (k:∀ o,h.get? d=some o->h'.get? d=some o):h'.DictOf (intKind prog w) d kvs:=by
 obtain ⟨o,es,ep,e,r⟩:=x
 exact ⟨o,es,ep,k o e,r⟩
theorem zqm {d it p:Addr} {its:List Value} {l:List (Int × Int)} {h₁:Heap} (hh:A.handled=none) (ndi:d≠it) (ndp:d≠p) (nip:it≠p) (len:its.length=l.length) (h64:its.length<64)
  (hR:∀ h' tk kvs,(∀ b o,b≠d->b≠it->h₁.get? b=some o->h'.get? b=some o)->h'.DictOf (intKind prog w) d kvs->KR kvs (zcy l)->R (.ok (.ret .none)) { s with heap:=h',toks:=tk }) :
  ∀ (k i:Nat) (h:Heap) (tk:Nat) (kvs:List (Int × Value)),its.length-i=k->i<=its.length->h.IsListIter it p i->h.IsList p its.toArray->(∀ j,j<its.length->SortT.za4 h (its.getD j .none) (l.getD j (0,0))) ->
   h.DictOf (intKind prog w) d kvs->KR kvs ((l.take i).foldl (fun acc s=>zai acc s.1 s.2) [])->(∀ b o,b≠d->b≠it->h₁.get? b=some o->h.get? b=some o) ->
   codeAny (model prog w) A (.builtin "dict.update.loop" ⟨[.ref d,.ref it,rawInt i,.none],[]⟩) R { s with heap:=h,toks:=tk }:=by
 intro k
 induction k with
 | zero =>
  intro i h tk kvs hk hi hit hl hp hd hkr hkeep
  have hin:i=its.length:=by ac_rfl
  refine codeAny_builtin zgk ?_
  rw[Around.under_plainId zb7 _]
  show wpAny _ A.in1 (pyNext (.ref it) >>= _) _ _ _
  refine wpAny_bind (wpAny_pyNext_list_end (s:={ s with heap:=h,toks:=tk }) (A:=A.in1) hh hit hl (by simp;ac_rfl) fun h' he=>?_)
  show wpAny _ _ (Builtin.Dict.addKeywords d [] >>= _) _ _ _
  refine wpAny_bind (wpAny_pure (wpAny_pure ?_))
  refine hR h' tk kvs (fun b o b1 b2 e=>he b o b2 (hkeep b o b1 b2 e)) (zbM hd fun o e=>he d o ndi e) ?_
  rw[hin,len,List.take_length] at hkr
  exact hkr
 | succ k ih =>
  intro i h tk kvs hk hi hit hl hp hd hkr hkeep
  have hlt:i<its.length:=by ac_rfl
  obtain ⟨a,oa,n,t,u,ea,eo,oc,odt⟩:=hp i hlt
  have hx:its[i]?=some (.ref a):=by
   rw[yac,yaa hlt] at ea
   rw[yaa hlt]
   exact congrArg some ea
  refine codeAny_builtin zgk ?_
  rw[Around.under_plainId zb7 _]
  show wpAny _ A.in1 (pyNext (.ref it) >>= _) _ _ _
  refine wpAny_bind (wpAny_pyNext_list_item (s:={ s with heap:=h,toks:=tk }) (A:=A.in1) hit hl (x:=.ref a) (by simpa using hx) fun h' hit' sb=>?_)
  have ait:a≠it:=fun z=>by
   obtain ⟨o,ho,hc,_⟩:=hit
   rw[z,ho] at eo
   cases eo
   rw[hc] at oc
   exact absurd oc (by decide)
  have ad:a≠d:=fun z=>by
   obtain ⟨o,es,ep,ho,hc,_⟩:=id hd
   rw[z,ho] at eo
   cases eo
   have:=hc.1
   rw[this] at oc
   exact absurd oc (by decide)
  have eo':h'.get? a=some oa:=(sb.2 a ait).trans eo
  have hT:({ s with heap:=h',toks:=tk }:Shared).TypeIs (.ref a) "tuple" := ⟨oa,eo',oc⟩
  have hd':h'.DictOf (intKind prog w) d kvs:=zbM hd fun o e=>(sb.2 d ndi).trans e
  show wpAny _ _ (holding [Value.ref a] _ >>= _) _ _ _
  refine wpAny_bind (wpAny_holding ?_)
  refine wpAny_bind (wpAny_tryCatch ?_)
  unfold Builtin.Dict.pairItems
  refine wpAny_bind (wpAny_typeOf hT ?_)
  rw[if_pos (by decide)]
  refine wpAny_bind (wpAny_seqItems eo' odt ?_)
  refine wpAny_pure ?_
  show wpAny _ _ (holding [Value.int (l.getD i (0,0)).1 t,Value.int (l.getD i (0,0)).2 u] (dictSet d (Value.int (l.getD i (0,0)).1 t) (Value.int (l.getD i (0,0)).2 u))) _ _ _
  refine wpAny_holding ?_
  have kl:=hkr.length
  have fl:=zir (l.take i) []
  rw[ybc] at fl
  refine wpAny_dictSet_pairs (knd:=intKind prog w) (k:=(l.getD i (0,0)).1) (by first | exact Value.isInt_int _ _ | (simp[intKind,Value.isInt];done) | exact beq_self_eq_true _) hd' (fun h2 hd2 sb2=>?_) (by rw[sizeLine_eq];simp at fl;ac_rfl)
  refine wpAny_pure ⟨plainId_quiet zb7 _,?_⟩
  have k2:∀ b o,b≠d->b≠it->h.get? b=some o->h2.get? b=some o:=fun b o b1 b2 e=>(sb2.2 b b1).trans ((sb.2 b b2).trans e)
  refine ih (i+1) h2 _ _ (by ac_rfl) (by ac_rfl) (hit'.at fun o e=>(sb2.2 it ndi.symm).trans e) ?_ (fun j hj=>(hp j hj).keep fun b o eb e=>k2 b o ?_ ?_ e) hd2 ?_ fun b o b1 b2 e=>k2 b o b1 b2 (hkeep b o b1 b2 e)
  ·obtain ⟨o,e,r⟩:=hl
   exact ⟨o,k2 p o ndp.symm nip.symm e,r⟩
  ·intro z
   obtain ⟨b',o',n',t',u',e1,e2,e3,_⟩:=hp j hj
   rw[eb] at e1
   cases e1
   obtain ⟨od,es,ep,ho,hc,_⟩:=id hd
   rw[z,ho] at e2
   cases e2
   rw[hc.1] at e3
   exact absurd e3 (by decide)
  ·intro z
   obtain ⟨b',o',n',t',u',e1,e2,e3,_⟩:=hp j hj
   rw[eb] at e1
   cases e1
   obtain ⟨oi,ho,hc,_⟩:=id hit
   rw[z,ho] at e2
   cases e2
   rw[hc] at e3
   exact absurd e3 (by decide)
  ·have tk:l.take (i+1)=l.take i++[l.getD i (0,0)]:=by
    rw[ybf,yaa (by ac_rfl),yac,yaa (by ac_rfl)]
    rfl
   rw[tk,List.foldl_append]
   exact hkr.stored
theorem zlf {E:Value->Shared->Prop} {p:Addr} {its:List Value} {n:Nat} {l:List (Int × Int)} {Q:Value->Shared->Prop} (hh:A.handled=none) (hl:s.heap.get? p=some { cls:=.type "list", dict:=none,data:=.seq its.toArray n,slots:=#[] }) (len:its.length=l.length) (h64:its.length<64)
  (hp:∀ j,j<its.length->SortT.za4 s.heap (its.getD j .none) (l.getD j (0,0)))
  (h:∀ h' tk kvs,(∀ b o,s.heap.get? b=some o->h'.get? b=some o)->h'.DictOf (intKind prog w) s.heap.objs.size kvs->KR kvs (zcy l)->Q (.ref s.heap.objs.size) { s with heap:=h',toks:=tk }) :
  wpAny (model prog w) A (call (.type "dict") [.ref p]) Q E s:=by
 have hlt:p<s.heap.objs.size:=ydl hl
 refine callType_codes (Q₁:=fun obj s₁=>obj=.ref s.heap.objs.size/\s₁={ s with heap:=s.heap.push { cls:=.type "dict", data:=.dict #[] } }) F.kt_called_dict (F.kt_typeCall_dict_1 _) F.entry_dict_init (kt_code_dict_new _ ⟨rfl,rfl⟩) ?_
 rintro obj s₁ ⟨rfl,rfl⟩
 have hnew:(s.heap.push { cls:=.type "dict", data:=.dict #[] }).DictOf (intKind prog w) s.heap.objs.size []:=Heap.DictOf.new s.heap
 have hl1:(s.heap.push { cls:=.type "dict", data:=.dict #[] }).get? p=some { cls:=.type "list", dict:=none,data:=.seq its.toArray n,slots:=#[] }:=ydk _ hl
 refine ⟨hnew.typeIs,F.args_dict_init_2 _ _,?_⟩
 unfold Builtin.«dict.__init__»
 refine wpAny_bind ?_
 unfold Builtin.Dict.selfAndRest
 refine wpAny_bind (wpAny_notOrdered_dict hnew.typeIs ?_)
 show wpAny _ _ (pure (s.heap.objs.size,[Value.ref p])) _ _ _
 refine wpAny_pure ?_
 show wpAny _ _ (Builtin.Dict.updateFrom "dict.__init__" s.heap.objs.size (.ref p) [] .none) _ _ _
 unfold Builtin.Dict.updateFrom
 refine wpAny_bind (wpAny_typeOf (T:="list") ⟨_,hl1,rfl⟩ ?_)
 rw[if_pos (by decide)]
 refine wpAny_bind (zmJ (s:={ s with heap:=s.heap.push { cls:=.type "dict", data:=.dict #[] } }) hl1 hh fun h2 tk2 k2=>?_)
 rw[if_pos (show (none:Option Value).isNone=true from rfl)]
 refine wpAny_bind (wpAny_rule ?_)
 have hl2:=k2 p _ hl1
 have hd2:=zbM (h':=h2) hnew fun o e=>k2 _ o e
 have lt2:s.heap.objs.size<h2.objs.size:=by
  obtain ⟨o,es,ep,e,_⟩:=hd2
  exact ydl e
 have hlL:h2.IsList p its.toArray:=⟨_,hl2,rfl,n,rfl⟩
 refine wpAny_bind (wpAny_pyIter_list hlL ?_)
 refine wpAny_pure ⟨plainId_quiet zb7 _,?_⟩
 refine zqm (s:=s) (A:=A.in1) (h₁:=h2) (d:=s.heap.objs.size) (it:=h2.objs.size) (p:=p) (its:=its) (l:=l) hh (ycv lt2) (ydd hlt) (ydd (yde hlt lt2)) len h64 (fun h' tk kvs kp hd' hkr=>?_)
  its.length 0 _ tk2 [] (Nat.sub_zero _) (ycy _) ⟨_,ydm _ rfl,rfl,rfl⟩ (hlL.push _) (fun j hj=>(hp j hj).keep fun a o _ e=>ydk _ (k2 a o (ydk _ e))) (zbM hd2 fun o e=>ydk _ e) .nil fun b o b1 b2 e=>ydk _ e
 refine ⟨rfl,h h' tk kvs (fun b o e=>kp b o (ycv (ydl e)) (ycv (yde (ydl e) lt2)) (k2 b o (ydk _ e))) hd' hkr⟩
end
noncomputable def zbn (P:Program) (w:World) (d:Addr) (l:List (Int × Int)):HO:=.ext fun h=>(d == sysModules)=false/\∃ kvs,h.DictOf (intKind P w) d kvs/\KR kvs l
noncomputable def zoM (v d:Addr):HO:=.ext fun h=>h.IsItemsView v d
section
variable {X:Cx} {pins:List (Addr × Obj)} {σ:St} {H:Hp} {s:Shared}
theorem zpt {vs:List V} {l:List (Int × Int)} {p:Addr} (I:Inv X pins σ H s) (hp:SqL X.K H p vs) (hR:zu X.K H vs l):∃ its,Vals vs its/\s.heap.IsList p its.toArray/\its.length=l.length/\∀ i,i<its.length->SortT.za4 s.heap (its.getD i .none) (l.getD i (0,0)):=by
 obtain ⟨its,rv,pl,hz⟩:=I.list hp
 have vl:=hR.length
 refine ⟨its,rv,pl.isList,by rw[<-rv.length,vl],fun i hi=>?_⟩
 have len:its.length=l.length:=by rw[<-rv.length,vl]
 have ev:vs[i]?=some (vs[i]'(by ac_rfl)):=yaa (by ac_rfl)
 obtain ⟨a,x,e1,e2,e3⟩:=hR.get ev
 obtain ⟨w,hw,rw'⟩:=rv.get ev
 rw[e1] at rw'
 cases rw'
 obtain ⟨ts,tv,tp,_⟩:=I.tuple (SqT.of e3)
 cases tv with
 | cons t1 tv =>
  cases tv with
  | cons t2 tv =>
   cases tv
   obtain ⟨t,rfl⟩:=t1
   obtain ⟨t',rfl⟩:=t2
   obtain ⟨o,eo,oc,n,od⟩:=(show s.heap.IsTuple a _ from tp)
   refine ⟨a,o,n,t,t',?_,eo,oc,?_⟩
   ·rw[yac,hw];rfl
   ·rw[od,show l.getD i (0,0)=x by rw[yac,e2];rfl]
theorem zjE (hc:X.calm=true):zaT X (.type "dict") (fun xs H Q=>∃ (p:Addr) (vs:List V) (l:List (Int × Int)),xs=[.ref p]/\H p=some (.lst vs)/\zu X.K H vs l/\l.length<64 /\
  ∀ (d:Addr) (H':Hp),H d=none->Same H H'->H' d=some (zbn X.prog X.w d (zcy l))->Q (.ref d) H'):=by
 intro pins s σ H xs us Q I r h
 obtain ⟨p,vs,l,rfl,hp,hR,hl,q⟩:=h
 obtain ⟨u,rfl,rx⟩:=vals1 r
 cases rx
 obtain ⟨its,rv,pl,len,pr⟩:=zpt I (SqL.of hp) hR
 obtain ⟨z,its',n',rv',e'⟩:=(show zad X.prog X.w H s.heap p (.lst vs) from I.hok p _ hp)
 obtain ⟨o,eo,oc,n,od⟩:=pl
 have ei:its=its':=by
  rw[e'] at eo
  cases eo
  have:=od
  simpa using (Data.seq.inj this).1.symm
 subst ei
 have big:sysModules<s.heap.objs.size:=yde (by decide) (show mainGlobals<s.heap.objs.size from (I.mod.glob.keeps I.bk).lt)
 have lo:(s.heap.objs.size == sysModules)=false:=beq_eq_false_iff_ne.mpr (Ne.symm (ycv big))
 refine zlf (I.ok.hd hc) e' len (by ac_rfl) pr fun h' tk kvs kp hd hkr=>?_
 refine ⟨.ref s.heap.objs.size,_,I.laid (o:=zbn X.prog X.w s.heap.objs.size (zcy l)) kp (ycu _) ⟨⟨lo,kvs,hd,hkr⟩,(let ⟨o,_,_,e,_⟩:=hd;⟨o,e⟩),fun h1 h2 ⟨lo',kv,x,y⟩ e=>⟨lo',kv,zbM x e,y⟩⟩,rfl,q _ _ (I.hok.fresh (ycu _)) (zb (I.hok.fresh (ycu _)) _) ze⟩
def zs4 (P:Program) (w:World) (to:TE):TE:=fun σ H Q=>to σ H fun x H1=>∃ (d:Addr) (l:List (Int × Int)),x=.ref d/\H1 d=some (zbn P w d l)/\∀ (v:Addr) (H':Hp),H1 v=none->Same H1 H'->H' v=some (zoM v d)->Q (.ref v) H'
theorem zmg {o:Expr} {to:TE} {apos cpos:Pos} (ho:PE X o to)
  (hbase:attributeBase o "items" X.env (eval o X.env)=eval o X.env:=by rfl) (hline:(apos.endLine == cpos.line)=true:=by rfl):PE X (.Call (.Attribute o "items" apos) [] [] cpos) (zs4 X.prog X.w to):=by
 intro pins s σ H Q I h
 refine wpAny_Call_method0_late hbase hline (thn (ho pins s σ H _ I h) fun v s1 ⟨x,H1,I1,r1,d,l,ex,hd,q1⟩=>?_)
 subst ex
 obtain rfl:v=Value.ref d:=r1
 obtain ⟨lo,kvs,hD,hkr⟩:=(I1.hok d _ hd).1
 refine ⟨"dict", "dict.items", F.plainAttrs_dict,F.slot_dict_items,F.type_dict_items,hD.typeIs,hD.mapOf.noDict,Calls.callWith_builtin rfl (PySem.evalArgs_none ?_)⟩
 refine call_meetsIn PySem.F.slot_dict_items hD.typeIs PySem.F.entry_dict_items (PySem.F.args_dict_items_1 _) (meets_dict_items (intKind X.prog X.w) d lo) ⟨⟨kvs,hD⟩,?_⟩
 exact ⟨.ref s1.heap.objs.size,_,I1.laid (t':=s1.toks) (o:=zoM s1.heap.objs.size d) (fun b ob q=>ydk _ q) (ycu _) ⟨⟨_,ydm _ rfl,rfl,rfl⟩,⟨_,ydm _ rfl⟩,fun h1 h2 ⟨o,e,r⟩ k=>⟨o,k o e,r⟩⟩,rfl,
  q1 _ _ (I1.hok.fresh (ycu _)) (zb (I1.hok.fresh (ycu _)) _) ze⟩
theorem zji {h':Heap} {tk:Nat} (hex:X.ex=[]) (I:Inv X pins σ H s) (k:∀ b o,s.heap.get? b=some o->h'.get? b=some o):∀ (bs:List (Addr × (Int × Int))),(bs.map (·.1)).Nodup->(∀ b∈bs,s.heap.get? b.1=none/\SortT.za4 h' (.ref b.1) b.2) ->
  ∃ H',Inv X pins σ H' { s with heap:=h',toks:=tk }/\Same H H'/\(∀ b∈bs,H' b.1=some (.tup [.int b.2.1,.int b.2.2]))/\∀ a,a ∉ bs.map (·.1)->H' a=H a
 | [],_,_=>⟨H,I.kept k,Same.refl _,(fun _ hb=>absurd hb (ybe)),fun _ _=>rfl⟩
 | b::bs,nd,hb=>by
  obtain ⟨H1,I1,s1,t1,o1⟩:=zji hex I k bs (ybm.mp nd).2 fun c hc=>hb c (yaj _ hc)
  obtain ⟨hn,a,o,n,t,u,ea,eo,oc,od⟩:=hb b (yai ..)
  cases ea
  obtain ⟨f1,f2,f3,f4⟩:=I.zjG hn hex
  have nb:b.1 ∉ bs.map (·.1):=(ybm.mp nd).1
  have gone:H1 b.1=none:=by rw[o1 _ nb];exact I.hok.gone hn
  refine ⟨_,I1.track (o:=.tup [.int b.2.1,.int b.2.2]) gone f1 f2 f3 f4 ⟨by show 2<=sizeLine;rw[sizeLine_eq];ac_rfl,[.int b.2.1 t,.int b.2.2 u],.cons ⟨t,rfl⟩ (.cons ⟨u,rfl⟩ .nil),⟨o,eo,oc,n,od⟩⟩,s1.trans (zb gone _),fun c hc=>?_,fun c hc=>?_⟩
  ·rcases yak.mp hc with rfl | hc
   ·exact ze
   ·rw[zi (fun z=>nb (by rw[<-z];exact yao.mpr ⟨c,hc,rfl⟩))]
    exact t1 c hc
  ·rw[ybt,yak,not_or] at hc
   rw[zi hc.1]
   exact o1 c hc.2
theorem zhD (hc:X.calm=true) (hex:X.ex=[]:=by rfl):zaT X (.builtin "sorted") (fun xs H Q=>∃ (v d:Addr) (l:List (Int × Int)),xs=[.ref v]/\H v=some (zoM v d)/\H d=some (zbn X.prog X.w d l)/\l.length<64 /\
  ∀ (q:Addr) (H':Hp) (ws:List V) (r:List (Int × Int)),H q=none->Same H H'->H' q=some (.lst ws)->zu X.K H' ws r->r.Perm l->(r.Pairwise fun s t=>s.1<=t.1)->Q (.ref q) H'):=by
 intro pins s σ H xs us Q I r h
 obtain ⟨v,d,l,rfl,hV,hD,hl,q⟩:=h
 obtain ⟨u,rfl,rx⟩:=vals1 r
 cases rx
 have hv:s.heap.IsItemsView v d:=(I.hok v _ hV).1
 obtain ⟨lo,kvs,hd,hkr⟩:=(I.hok d _ hD).1
 obtain ⟨od,es,ep,rd⟩:=hd
 have hat:s.heap.DictAt (intKind X.prog X.w) d kvs ep:=⟨od,es,rd⟩
 have kl:=hkr.length
 refine Calls.call_function_entry kind_sorted plain_sorted entry_sorted (args_sorted1 _) ?_
 unfold Builtin.«sorted»
 refine wpAny_bind (m:=checkCount "sorted" 1 1 _) (wpAny_pure ?_)
 refine wpAny_bind (PySem.W.kdx_collect (A:=X.A.in1) (knd:=intKind X.prog X.w) (kvs:=kvs) (ep:=ep) (I.ok.hd hc) hv hat (by rw[sizeLine_eq];ac_rfl) fun h1 tk as k1 al hG=>?_)
 refine wpAny_bind (wpAny_newList ?_ (by rw[yab,al,sizeLine_eq];ac_rfl))
 have an:as.length=l.length:=by ac_rfl
 have asl:∀ a∈as,a<h1.objs.size:=fun a ha=>hG.there ha
 have fresh:∀ a∈as,s.heap.get? a=none:=fun a ha=>ydr (ydi (hG.above a ha))
 have pr:∀ i,i<as.length->SortT.za4 h1 ((as.map Value.ref).getD i .none) (l.getD i (0,0)):=fun i hi=>by
  obtain ⟨key,k,x,e1,e2,e3⟩:=hG.pairs i as[i] (yaa hi)
  obtain ⟨y,t,e4,rfl⟩:=hkr.get e1
  obtain ⟨t',rfl⟩:=Value.isInt_shape e2
  refine ⟨as[i],_,0,t',t,?_,e3,rfl,?_⟩
  ·rw[yac,yam,yaa hi];rfl
  ·rw[yac,e4];rfl
 have hoL:(h1.push (seqObj "list" (as.map Value.ref).toArray 0)).get? h1.objs.size=some (seqObj "list" (as.map Value.ref).toArray 0):=ydm _ rfl
 show wpAny _ _ _ _ _ { s with heap:=h1.push (seqObj "list" (as.map Value.ref).toArray 0),toks:=tk }
 refine wpAny_bind (wpAny_holding (wpAny_call_entry slot_list_sort ⟨_,hoL,rfl⟩ entry_list_sort (SortT.ziv (f:=fun i=>l.getD i (0,0)) hoL (by rw[yab];ac_rfl) (fun i hi=>(pr i (by rw[yab] at hi;exact hi)).keep fun a o _ e=>ydk _ e) fun P a1 a2 a3=>⟨_,rfl,?_⟩) (args_list_sort _)))
 refine wpAny_pure ⟨_,rfl,?_⟩
 rw[yab] at a1 a2 a3
 obtain ⟨out,hout⟩:∃ out,out=(P.toList.map fun i=>(as.map Value.ref).getD i Value.none):=⟨_,rfl⟩
 show EP X pins σ Q (Value.ref h1.objs.size) { s with heap:=sortedHeap (h1.push (seqObj "list" (as.map Value.ref).toArray 0)) h1.objs.size (as.map Value.ref) (ybj (P.toList.map fun i=>(as.map Value.ref).getD i Value.none)),toks:=tk }
 rw[<-hout]
 have keep3:∀ b o,h1.get? b=some o->(sortedHeap (h1.push (seqObj "list" (as.map Value.ref).toArray 0)) h1.objs.size (as.map Value.ref) out.toArray).get? b=some o:=fun b o e =>
  (sortedHeap_old (ycv (ydl e)) (by rw[ydq];exact ydc (ydl e))).trans (ydk _ e)
 obtain ⟨n3,at3⟩:=sortedHeap_at (out:=out.toArray) hoL
 generalize sortedHeap (h1.push (seqObj "list" (as.map Value.ref).toArray 0)) h1.objs.size (as.map Value.ref) out.toArray=h3 at keep3 at3 ⊢
 have zm:(as.zip l).map (·.1)=as:=List.map_fst_zip (by ac_rfl)
 have nd:((as.zip l).map (·.1)).Nodup:=by
  rw[zm]
  exact hG.rise.imp fun {a b} z=>ycv z
 have zin:∀ i,i<as.length->(as.getD i 0,l.getD i (0,0))∈as.zip l:=fun i hi=>by
  refine yah (i:=i) ?_
  rw[List.getElem?_zip_eq_some]
  have hi2:i<l.length:=by ac_rfl
  have g1:as.getD i 0=as[i]:=by rw[yac,yaa hi];rfl
  have g2:l.getD i (0,0)=l[i]:=by rw[yac,yaa hi2];rfl
  rw[g1,g2]
  exact ⟨yaa hi,yaa hi2⟩
 obtain ⟨H1,I1,s1,t1,o1⟩:=zji (h':=h3) (tk:=tk) hex I (fun b o e=>keep3 b o (k1 b o e)) (as.zip l) nd fun b hb=>by
  obtain ⟨i,hi⟩:=ybq.mp hb
  rw[List.getElem?_zip_eq_some] at hi
  have hlt:i<as.length:=(yad.mp hi.1).1
  refine ⟨fresh _ (yah hi.1),?_⟩
  have:=(pr i hlt).keep (h':=h3) fun a o _ e=>keep3 a o e
  rw[yac,yam,hi.1,yac,hi.2] at this
  exact this
 have hnL:s.heap.get? h1.objs.size=none:=by
  cases e:s.heap.get? h1.objs.size with
  | none=>rfl
  | some o=>exact absurd (ydl (k1 _ o e)) (yda _)
 obtain ⟨f1,f2,f3,f4⟩:=I.zjG hnL hex
 have nLa:h1.objs.size ∉ (as.zip l).map (·.1):=by
  rw[zm]
  exact fun z=>yda _ (asl _ z)
 have goneL:H1 h1.objs.size=none:=by rw[o1 _ nLa];exact I.hok.gone hnL
 have pin:∀ i∈P.toList,i<as.length:=fun i hi=>by
  obtain ⟨j,hj,rfl⟩:=yaw.mp hi
  have hj':j<as.length:=by rw[<-a1.1];simpa using hj
  have:=a1.2 j hj'
  rw[ydx,ydw (by rw[a1.1];exact hj')] at this
  simpa using this
 have plen:P.toList.length=as.length:=by rw[ydv,a1.1]
 have vl':Vals (P.toList.map fun i=>V.ref (as.getD i 0)) out:=by
  rw[hout]
  refine ziS _ fun i hi=>?_
  have hi':=pin i hi
  rw[yac,yac,yam,yaa hi']
  rfl
 have I2:=I1.track (o:=.lst (P.toList.map fun i=>V.ref (as.getD i 0))) goneL f1 f2 f3 f4 ⟨by rw[yab,plen,sizeLine_eq];ac_rfl,out,n3,vl',by simpa [seqObj] using at3⟩
 have sm:Same H (upd H1 h1.objs.size (.lst (P.toList.map fun i=>V.ref (as.getD i 0)))):=s1.trans (zb goneL _)
 refine ⟨.ref h1.objs.size,_,I2,rfl,q _ _ _ (P.toList.map fun i=>l.getD i (0,0)) (I.hok.gone hnL) sm ze (zku (by rw[yab,yab]) fun j v x e1 e2=>?_) ?_ ?_⟩
 ·rw[yam] at e1 e2
  obtain ⟨i,hi,rfl⟩:=Option.map_eq_some_iff.mp e1
  rw[hi] at e2
  have e2':l.getD i (0,0)=x:=Option.some.inj e2
  have hi':=pin i (yah hi)
  refine ⟨_,rfl,?_⟩
  rw[<-e2',zi (fun z=>nLa (by rw[zm,<-z,yac,yaa hi'];exact yci hi'))]
  exact t1 _ (zin i hi')
 ·have pp:P.toList.Perm (ybb l.length):=by
   have:=Array.perm_iff_toList_perm.mp a2
   rw[an] at this
   exact this
  have:=pp.map fun i=>l.getD i (0,0)
  rw[map_getD] at this
  exact this
 ·refine yay.mpr fun i j hi hj lt=>?_
  rw[yab] at hi hj
  have up:=a3 i j (ydi lt) (by ac_rfl)
  have gi:∀ m (h:m<P.toList.length),P.getD m 0=P.toList[m]:=fun m h=>by
   rw[ydx,ydw (by simpa using h)]
   simp
  rw[gi i hi,gi j hj] at up
  have:=of_decide_eq_false up
  rw[ycq,ycq]
  ac_rfl
end
end L2
namespace Dbt
noncomputable def mx (a b:Int):Int:=if b > a then b else a
noncomputable def mn (a b:Int):Int:=if b<a then b else a
theorem zgE {a b:Int}:a<=mx a b/\b<=mx a b/\(mx a b=a\/mx a b=b):=by unfold mx;split <;> ac_rfl
theorem zoR {a b:Int}:mn a b<=a/\mn a b<=b/\(mn a b=a\/mn a b=b):=by unfold mn;split <;> ac_rfl
inductive Wd where
 | lend | fee | turn | take | grow
noncomputable def step (u:Int) (w:Wd) (x m n:Int):Int × Int :=
 match w with
 | .lend=>(mn (m+x) (mx 0 ((n+u*x) / u)),n+u*x)
 | .fee=>(mn m (mx 0 ((n+u*x) / u)),n+u*x)
 | .take=>(mn m (mx 0 ((n+u * -x) / u)),n+u * -x)
 | .turn=>(mx 0 (n / u),n)
 | .grow=>(m,n+x)
noncomputable def Okd:Wd->Int->Prop
 | .lend,x=>0<=x
 | .grow,x=>0<=x
 | _,_=>True
def Good (u m n:Int):Prop:=0<=m/\m<=mx 0 (n / u)
theorem good0 (u:Int):Good u 0 0:=⟨ydu _,zgE.1⟩
theorem zcD {u:Int} {w:Wd} {x m n:Int} (hu:0<u) (ok:Okd w x) (g:Good u m n):Good u (step u w x m n).1 (step u w x m n).2:=by
 obtain ⟨g0,g1⟩:=g
 cases w with
 | lend =>
  have h0:0<=x:=ok
  have:=zgE (a:=0) (b:=(n+u*x) / u)
  have:=zoR (a:=m+x) (b:=mx 0 ((n+u*x) / u))
  show 0<=mn (m+x) (mx 0 ((n+u*x) / u))/\mn (m+x) (mx 0 ((n+u*x) / u))<=mx 0 ((n+u*x) / u)
  ac_rfl
 | fee =>
  have:=zgE (a:=0) (b:=(n+u*x) / u)
  have:=zoR (a:=m) (b:=mx 0 ((n+u*x) / u))
  show 0<=mn m (mx 0 ((n+u*x) / u))/\mn m (mx 0 ((n+u*x) / u))<=mx 0 ((n+u*x) / u)
  ac_rfl
 | take =>
  have:=zgE (a:=0) (b:=(n+u * -x) / u)
  have:=zoR (a:=m) (b:=mx 0 ((n+u * -x) / u))
  show 0<=mn m (mx 0 ((n+u * -x) / u))/\mn m (mx 0 ((n+u * -x) / u))<=mx 0 ((n+u * -x) / u)
  ac_rfl
 | turn =>
  have:=zgE (a:=0) (b:=n / u)
  show 0<=mx 0 (n / u)/\mx 0 (n / u)<=mx 0 (n / u)
  ac_rfl
 | grow =>
  have h0:0<=x:=ok
  have h1:n / u<=(n+x) / u:=Int.ediv_le_ediv hu (by ac_rfl)
  have:=zgE (a:=0) (b:=n / u)
  have:=zgE (a:=0) (b:=(n+x) / u)
  show 0<=m/\m<=mx 0 ((n+x) / u)
  ac_rfl
variable {u s0 s1 m1 n1 m2 n2 x y:Int}
noncomputable def t1 (s1:Int):Option (Wd × Int)->Wd × Int->Int
 | some (.fee,x),(.fee,y)=>s1+y-x
 | _,_=>s1
end Dbt
namespace L2
open PySem PySem.Spec PyProof.Rows
def zq8 (i j:Int):Prop:=0<j/\j<1152921504606846976
section
variable {X:Cx}
theorem zqc:OpR X (binaryOp .FloorDiv) (rI zq8 fun i j=>.int (i / j)):=opI fun i j _ _ _ _ _ hc q=>by
 have h1:(0:Int)<j:=hc.1
 have h2:j<1152921504606846976:=hc.2
 refine floordiv_int (by ac_rfl) (by rw[Int.fdiv_eq_ediv_of_nonneg i (by ac_rfl)];exact q) (.inl (PyProof.noPylong_of_log2 ?_))
 have h0:j.natAbs≠0:=by ac_rfl
 have:j.natAbs.log2<60:=(Nat.log2_lt h0).mpr (show j.natAbs<1152921504606846976 by ac_rfl)
 ac_rfl
end
structure MkI (K:W.Frag) (C:Addr):Prop where
 makes:PySem.W.makesIn K C=true
 kp:PySem.W.keepIn K (.ref C)=true
def ztD (C:Addr) (f:Str) (ta:TE):TE:=fun σ H Q=>ta σ H fun x H1=>∃ a dx fs v,x=.ref a/\H1 a=some (.ins C dx fs)/\fs.lookup f=some v/\Q v H1
def ztm (C:Addr) (f:Str) (ta tv:TE):TS:=fun D σ H=>tv σ H fun y H1=>ta σ H1 fun x H2=>∃ a dx fs,x=.ref a/\H2 a=some (.ins C dx fs)/\fs.length<1000/\D.nx σ (upd H2 a (.ins C dx (zas f y fs)))
section
variable {X:Cx} {C:Addr} {x m f:Str} {p pos pos' apos:Pos} {e o value:Expr} {es:List Expr} {ta tv:TE} {t:TA} {j k:Nat} {ps:List Str} {sp:Sp}
theorem zao (hc:Cls X.K C) (hn:zX X.K C f) (he:PE X e ta) (hb:attributeBase e f X.env (eval e X.env)=eval e X.env:=by rfl):PE X (.Attribute e f pos) (ztD C f ta):=by
 intro pins s σ H Q I h
 refine znN hb (thn (he pins s σ H _ I h) fun u s1 ⟨x,H1,I1,rx,a,dx,fs,v,ex,ea,l,q⟩=>?_)
 subst ex
 obtain rfl:u=Value.ref a:=rx
 exact zjs I1 ea hc hn l fun u' s2 I2 ru=>⟨v,H1,I2,ru,q⟩
theorem zbw (hc:Cls X.K C) (hn:zX X.K C f) (ha:PE X o ta) (hv:PE X value tv) (hs:swapsWith value (some (.Attribute o f pos')) pos.line X.env=pure false:=by rfl):PS X (.Assign [.Attribute o f pos'] value pos) (ztm C f ta tv):=by
 intro pins s σ H D I h
 refine plainObj_wpAny_Assign_Attribute (thn (hv pins s σ H _ I h) fun u s1 ⟨y,H1,I1,ry,q⟩=>thn (ha pins s1 σ H1 _ I1 q) fun ov s2 ⟨x,H2,I2,rx,a,dx,fs,ex,ea,l,q2⟩=>?_) hs
 subst ex
 obtain rfl:ov=Value.ref a:=rx
 exact zjt I2 ea hc hn l ry fun s3 I3=>⟨σ,_,I3,q2⟩
theorem zal {pl:Sem Bool} (D:zB X.prog X.w X.K X.mg X.base j C m ps sp) (hc:Cls X.K C) (hr:Room k X.A) (he:PE X o ta) (hj:j<=k:=by decide)
  (ht:eval (.Call (.Attribute o m apos) [] [] pos) X.env=(do
   let ov <-eval o X.env
   standAt apos.atName
   let (f,first) <-holding [ov] (getMethod ov m pl)
   callWith pos f first (backTo pos (starEach [] X.env)) (backToKw pos (keywordEach [] X.env))):=by rfl) :
  PE X (.Call (.Attribute o m apos) [] [] pos) (zlo C m sp [] E0 ta zkj):=by
 obtain ⟨f,fd,F,hm,hb⟩:=D.ex
 exact zp5 (pl:=pl) he hc hm F (hr.mono hj) (.all hb) .nil zie ht
theorem zaH (M:MkI X.K C) (D:zB X.prog X.w X.K X.mg X.base j C "__init__" ps sp) (hr:Room k X.A) (hm:X.mg x=some (.ref C)) (ha:PA X (e::es) t) (hj:j+1<=k:=by decide) (hg:Gl X x:=by rfl)
  (hdb:(x == ("__debug__" : Str))=false:=by decide) (he:starEach (e::es) X.env=(false,eval e X.env)::starEach es X.env:=by rfl) (hpl:(backTo pos (starEach es X.env)).any (·.1)=false:=by rfl) :
  PE X (.Call (.Name x p) (e::es) [] pos) (zoo C sp [] E0 t):=by
 obtain ⟨f,fd,F,hme,hb⟩:=D.ex
 exact znT ⟨M.makes,hme.at_,hme.fn,M.kp⟩ F (hr.mono hj) hg hm (.all hb) .nil zie ha hdb he hpl
end
section
variable {K:W.Frag} {x:Str} {C f:Addr}
theorem zcN (a:PySem.W.nsIn K mainGlobals x=some (some (.ref C))) (h1:PySem.W.makesIn K C=true) (h3:PySem.W.keepIn K (.ref C)=true):MkI K (cA K x):=by
 rw[zba a];exact ⟨h1,h3⟩
end
theorem zq {H:Hp} {p:Addr} (o:HO) (_h:H p=none):(upd H p o) p=some o:=ze
section
variable {H H':Hp} {xs ys zs:List V} {l r:List (Dbt.Wd × Int)} {p:Addr} {d:Dbt.Wd × Int}
end
theorem zpR {X:Cx}:zaT X (.type "int") (fun xs H Q=>∃ k,xs=[.bl k]/\∀ t:Int,t=(if k then 1 else 0)->(0<=t/\t<=1)->Q (.int t) H):=by
 intro pins s σ H xs us Q I r h
 obtain ⟨k,e,q⟩:=h
 exact zp2 pins s σ H xs us Q I r (.inr ⟨k,e,q _ rfl (by cases k <;> decide)⟩)
structure zqH (K:W.Frag) (C:Addr):Prop where
 ha:PySem.W.findIn K (.ref C) "__class__" = some (some (.builtin "object.__class__"))
 hn:PySem.W.specialIn K (.builtin "object.__class__") "__get__" = some (some (.builtin "getset_descriptor.__get__"))
 htk:PySem.W.takesIn K (.builtin "object.__class__")=some true
 hm:PySem.W.mroIn K C (.type "object")=some true
theorem zh9 {K:W.Frag} {x:Str} {C:Addr} (a:PySem.W.nsIn K mainGlobals x=some (some (.ref C))) (h1:PySem.W.findIn K (.ref C) "__class__" = some (some (.builtin "object.__class__")))
  (h2:PySem.W.specialIn K (.builtin "object.__class__") "__get__" = some (some (.builtin "getset_descriptor.__get__"))) (h3:PySem.W.takesIn K (.builtin "object.__class__")=some true) (h4:PySem.W.mroIn K C (.type "object")=some true):zqH K (cA K x):=by
 rw[zba a];exact ⟨h1,h2,h3,h4⟩
theorem zpp {X:Cx}:zaT X (.builtin "isinstance") (fun xs H Q=>∃ x t D b,xs=[x,.ref D]/\zbc X.K H x t/\PySem.W.kitOne X.K t (.ref D)=some b/\Q (.bl b) H):=by
 intro pins s σ H xs us Q I r h
 obtain ⟨x,t,D,b,rfl,ty,e,q⟩:=h
 obtain ⟨u,w',rfl,rx,rn⟩:=vals2 r
 cases rn
 exact zkx I rx ty e fun tk=>⟨.bl b,H,I.tok tk,rfl,q⟩
theorem ztX {s:Str} {A B:Prop} (h:A):if decide (V.str s=V.str s)=true then A else B:=by rw[if_pos (by simp)];exact h
theorem zt3 {s t:Str} {A B:Prop} (ne:s≠t) (h:B):if decide (V.str s=V.str t)=true then A else B:=by rw[if_neg (by simpa using ne)];exact h
structure zma (K:W.Frag) (C:Addr) (m qual:Str) (st:Stmt) (ps:List Str):Prop where
 ex:∃ (f:Addr) (fd:FuncData),Fun K m qual st f fd/\(PySem.W.specialIn K (.ref C) "__getattribute__" = some (some (.builtin "type.__getattribute__"))/\PySem.W.readsIn K C (.type "type")=true /\
  PySem.W.findCls K (.ref C) (.type "type") m=some (.val (.ref f))/\PySem.W.handedIn (.ref f)=true)/\∀ us:List Value,us.length=ps.length->bindArgs fd ⟨us,[]⟩=pure (ps.zip us)
structure zj0 (P:Program) (w:World) (K:W.Frag) (mg:Str->Option Value) (base:Heap) (k:Nat) (C:Addr) (m:Str) (ps:List Str) (sp:Sp):Prop where
 ex:∃ (f:Addr) (fd:FuncData),zbO P w K mg base CX0 k f fd ps sp/\(PySem.W.specialIn K (.ref C) "__getattribute__" = some (some (.builtin "type.__getattribute__"))/\PySem.W.readsIn K C (.type "type")=true /\
  PySem.W.findCls K (.ref C) (.type "type") m=some (.val (.ref f))/\PySem.W.handedIn (.ref f)=true)/\PySem.W.keepIn K (.ref f)=true/\∀ us:List Value,us.length=ps.length->bindArgs fd ⟨us,[]⟩=pure (ps.zip us)
theorem zma.ok {P:Program} {w:World} {K:W.Frag} {mg:Str->Option Value} {base:Heap} {C:Addr} {m qual:Str} {st:Stmt} {N ps:List Str} {k:Nat} {sp:Sp} (S:zma K C m qual st ps) (sc:zj N ps (zh st)) (len:∀ vs H Q E,sp vs H Q E->vs.length=ps.length)
  (hbody:∀ (f:Addr) (cdv:Value) (A:Around) (outer:List Env) (s:Shared) (H:Hp) (vs:List V) (Q:VK) (E:XK),Room k (A.deeper (envOfC qual (zh st) s.heap.objs.size f cdv))->sp vs H Q E ->
   ∃ t,PSs (zaK CX0 P w K mg base N qual (zh st) f cdv A outer s H E).nox (zaz st) t/\t { nx:=fun _ H'=>Q .non H',rt:=Q } (start N vs) H):zj0 P w K mg base (k+1) C m ps sp:=by
 obtain ⟨f,fd,F,hm,hb⟩:=S.ex
 exact ⟨f,fd,F.ok sc len (fun cdv=>hbody f cdv),hm,F.kp,hb⟩
section
variable {X:Cx} {C:Addr} {x m:Str} {p pos apos:Pos} {e o:Expr} {es:List Expr} {t:TA} {j k:Nat} {ps:List Str} {sp:Sp}
theorem zmK {pl:Sem Bool} (D:zj0 X.prog X.w X.K X.mg X.base j C m ps sp) (he:PE X o (tC (.ref C))) (hr:Room k X.A) (ha:PA X (e::es) t) (hj:j<=k:=by decide)
  (hst:starEach (e::es) X.env=(false,eval e X.env)::starEach es X.env:=by rfl) (hpl:(backTo pos (starEach es X.env)).any (·.1)=false:=by rfl)
  (ht:eval (.Call (.Attribute o m apos) (e::es) [] pos) X.env=(do
   let ov <-eval o X.env
   standAt apos.atName
   let (f,first) <-holding [ov] (getMethod ov m pl)
   callWith pos f first (backTo pos (starEach (e::es) X.env)) (backToKw pos (keywordEach [] X.env))):=by rfl) :
  PE X (.Call (.Attribute o m apos) (e::es) [] pos) (zlm sp [] E0 t):=by
 intro pins s σ H Q I h
 obtain ⟨f,fd,F,⟨h1,h2,h3,h4⟩,kp,hb⟩:=D.ex
 refine PySem.W.methodCall_KW (pl:=pl) (thn (he pins s σ H (fun v H1=>v=.ref C/\H1=H) I ⟨rfl,rfl⟩) fun u s1 ⟨y,H1,I1,ry,e1,e2⟩=>?_) ht
 subst e1 e2
 obtain rfl:u=Value.ref C:=ry
 refine PySem.W.method_cls I1.kIn h1 (PySem.W.cls_value I1.kIn h2 h3 h4 ?_)
 have I2:=I1.tok (s1.toks+1)
 refine PySem.W.callWith_K (first:=[]) (h₀:=X.base) I.ok.mod.kin kp (thn (ha pos pins _ σ _ _ I2 h) fun us s2 ⟨vs,H2,I3,r,q2⟩=>⟨I3.kIn,?_⟩) hst hpl
 exact zgq (us:=us) (vs:=vs) (dvs:=[]) (ds:=[]) F (hr.mono hj) (.all hb) .nil zie I3 r q2
end
inductive Ek where
 | out | fee | pay | due | turn | rate | late | still | base
noncomputable def Ek.cls:Ek->Str
 | .out => "Out"
 | .fee => "Fee"
 | .pay => "Pay"
 | .due => "Due"
 | .turn => "Turn"
 | .rate => "Rate"
 | .late => "Late"
 | .still => "Still"
 | .base => "Entry"
noncomputable def Ek.word:Ek->Str
 | .out => "out"
 | .fee => "fee"
 | .pay => "pay"
 | .due => "due"
 | .turn => "turn"
 | .rate => "rate"
 | .late => "late"
 | .still => "still"
 | .base => ""
noncomputable def ziX:Ek->Int->Int->List (Str × V)
 | .turn,d,_=>[("day", .int d)]
 | .base,d,_=>[("day", .int d)]
 | .rate,d,x=>[("day", .int d),("rate", .int x)]
 | .late,d,x=>[("day", .int d),("rate", .int x)]
 | .still,d,x=>[("day", .int d),("until", .int x)]
 | .out,d,x=>[("day", .int d),("amount", .int x)]
 | .fee,d,x=>[("day", .int d),("amount", .int x)]
 | .pay,d,x=>[("day", .int d),("amount", .int x)]
 | .due,d,x=>[("day", .int d),("amount", .int x)]
noncomputable def zhA:Ek->Int->Int->List V
 | .turn,d,_=>[.str "turn", .int d]
 | .base,d,_=>[.str "", .int d]
 | k,d,x=>[.str k.word,.int d,.int x]
abbrev zZ (K:W.Frag) (H:Hp) (a dx:Addr) (k:Ek) (d x:Int):Prop:=H a=some (.ins (cA K k.cls) dx (ziX k d x))
theorem zff (k:Ek) (d x:Int):ybx ("day" : Str) (ziX k d x)=some (V.int d):=by cases k <;> rfl
theorem zay (k:Ek) (d x:Int):ybx ("word" : Str) (ziX k d x)=none:=by cases k <;> rfl
theorem zqW (k:Ek) (d x:Int):ybx ("row" : Str) (ziX k d x)=none:=by cases k <;> rfl
noncomputable def zrs:Ek->Int->Int->Prop
 | .fee,_,x => -1000000000000<=x/\x<=1000000000000
 | .rate,_,x=>0<=x/\x<=1000000
 | .late,_,x=>0<=x/\x<=1000000
 | .still,d,x=>d+1<=x/\x<=1000000
 | .turn,_,_=>True
 | .base,_,_=>False
 | .out,_,x=>1<=x/\x<=1000000000000
 | .pay,_,x=>1<=x/\x<=1000000000000
 | .due,_,x=>1<=x/\x<=1000000000000
noncomputable def zc6:Ek->Int->Int->List PyData
 | .turn,d,_=>[.str "turn", .int d]
 | .base,d,_=>[.str "", .int d]
 | k,d,x=>[.str k.word,.int d,.int x]
theorem zsu {K:W.Frag} {H:Hp} (k:Ek) (d x:Int):zbD K H (zhA k d x) (zc6 k d x):=by
 cases k with
 | turn=>exact .cons (.str _) (.cons (.int _) .nil)
 | base=>exact .cons (.str _) (.cons (.int _) .nil)
 | _=>exact .cons (.str _) (.cons (.int _) (.cons (.int _) .nil))
theorem zrQ (k:Ek) (d x:Int):PyData.eqv (.tuple (zc6 k d x)) (.tuple (zc6 k d x))=true:=by
 cases k <;> simp[zc6,PyData.eqv,PyData.eqvAll]
def zps (K:W.Frag) (m:Str) (sp:Ek->Sp) (ta:TE) (t:TA):TE:=fun σ H Q=>ta σ H fun x H1=>∃ (k:Ek) (a dx:Addr) (fs:List (Str × V)),x=.ref a/\H1 a=some (.ins (cA K k.cls) dx fs)/\fs.lookup m=none/\t σ H1 fun vs H2=>sp k (x::vs) H2 Q E0
section
variable {X:Cx} {C:Addr} {x m:Str} {p pos apos:Pos} {e o:Expr} {es:List Expr} {ta:TE} {t:TA} {j k:Nat} {ps:List Str}
theorem zdU {pl:Sem Bool} {sp:Ek->Sp} (D:∀ k:Ek,zB X.prog X.w X.K X.mg X.base j (cA X.K k.cls) m ps (sp k)) (hc:∀ k:Ek,Cls X.K (cA X.K k.cls)) (hr:Room k X.A) (he:PE X o ta) (hj:j<=k:=by decide)
  (ht:eval (.Call (.Attribute o m apos) [] [] pos) X.env=(do
   let ov <-eval o X.env
   standAt apos.atName
   let (f,first) <-holding [ov] (getMethod ov m pl)
   callWith pos f first (backTo pos (starEach [] X.env)) (backToKw pos (keywordEach [] X.env))):=by rfl) :
  PE X (.Call (.Attribute o m apos) [] [] pos) (zps X.K m sp ta zkj):=by
 intro pins s σ H Q I h
 refine PySem.W.methodCall_KW (pl:=pl) (thn (he pins s σ H _ I h) fun u s1 ⟨x,H1,I1,rx,kd,a,dx,fs,ex,ea,l,q⟩=>?_) ht
 subst ex
 obtain rfl:u=Value.ref a:=rx
 obtain ⟨f,fd,F,hm,hb⟩:=(D kd).ex
 refine zek I1 ea (hc kd) hm l ?_
 exact PySem.W.callWith_K0 (first:=[.ref a]) I1.kIn hm.kp (zgq (us:=[.ref a]) (vs:=[.ref a]) (dvs:=[]) (ds:=[]) F (hr.mono hj) (.all hb) .nil zie I1 (.cons rfl .nil) q)
end
section
variable {K:W.Frag} {x:Str} {C f:Addr}
theorem zsq {m qual:Str} {st:Stmt} {ps:List Str} {oc:Value} {od an:Option Addr} {osl:Array (Option Value)} {kV doc pm cdv ct:Value} (a:PySem.W.nsIn K mainGlobals x=some (some (.ref C))) (h1:PySem.W.specialIn K (.ref C) "__getattribute__" = some (some (.builtin "type.__getattribute__")))
  (h2:PySem.W.readsIn K C (.type "type")=true) (h3:PySem.W.findCls K (.ref C) (.type "type") m=some (.val (.ref f))) (h4:PySem.W.handedIn (.ref f)=true)
  (fk:PySem.W.keepIn K (.ref f)=true) (fl:K.lookup f=some ⟨oc,od,.func (PySem.W.fnOf m qual (zcf st) (zaz st) (zh st) .none kV doc pm an cdv ct),osl⟩) (fc:PySem.W.codeIn K cdv qual=true)
  (hb:∀ us:List Value,us.length=ps.length->bindArgs (PySem.W.fnOf m qual (zcf st) (zaz st) (zh st) .none kV doc pm an cdv ct) ⟨us,[]⟩=pure (ps.zip us)):zma K (cA K x) m qual st ps:=by
 rw[zba a];exact ⟨f,_,zmp fl fc fk,⟨h1,h2,h3,h4⟩,hb⟩
end
structure zdE (P:Program) (w:World) (K:W.Frag) (mg:Str->Option Value) (base:Heap) (k:Nat) (C:Addr) (m:Str) (ps:List Str) (sp:Sp):Prop where
 ex:∃ (f:Addr) (fd:FuncData),zbO P w K mg base (CXX P w) k f fd ps sp/\Meth K C m f/\∀ us:List Value,us.length=ps.length->bindArgs fd ⟨us,[]⟩=pure (ps.zip us)
section
variable {P:Program} {w:World} {K:W.Frag} {mg:Str->Option Value} {base:Heap} {C:Addr} {m qual:Str} {st:Stmt} {N ps:List Str} {k:Nat} {sp:Sp}
theorem zr.okX (S:zr K C m qual st ps) (sc:zj N ps (zh st)) (len:∀ vs H Q E,sp vs H Q E->vs.length=ps.length)
  (hbody:∀ (f:Addr) (cdv:Value) (A:Around) (outer:List Env) (s:Shared) (H:Hp) (vs:List V) (Q:VK) (E:XK),Room k (A.deeper (envOfC qual (zh st) s.heap.objs.size f cdv))->sp vs H Q E ->
   ∃ t,PSs (zaK (CXX P w) P w K mg base N qual (zh st) f cdv A outer s H E) (zaz st) t/\t { nx:=fun _ H'=>Q .non H',rt:=Q } (start N vs) H):zdE P w K mg base (k+1) C m ps sp:=by
 obtain ⟨f,fd,F,hm,hb⟩:=S.ex
 obtain ⟨oc,od,kV,doc,pm,an,cdv,ct,osl,rfl,lk,hcd⟩:=F.ex
 exact ⟨f,_,zll lk hcd sc len (hbody f cdv),hm,hb⟩
end
section
variable {X:Cx} {C:Addr} {x m:Str} {p pos apos:Pos} {e o:Expr} {es:List Expr} {ta:TE} {t:TA} {j k:Nat} {ps:List Str} {sp:Sp}
theorem zhs {pl:Sem Bool} {E:XK} (D:zdE X.prog X.w X.K X.mg X.base j C m ps sp) (hc:Cls X.K C) (hr:Room k X.A) (hx:Passes (CXX X.prog X.w) X E) (he:PE X o ta) (ha:PA X (e::es) t) (hj:j<=k:=by decide)
  (hst:starEach (e::es) X.env=(false,eval e X.env)::starEach es X.env:=by rfl) (hpl:(backTo pos (starEach es X.env)).any (·.1)=false:=by rfl)
  (ht:eval (.Call (.Attribute o m apos) (e::es) [] pos) X.env=(do
   let ov <-eval o X.env
   standAt apos.atName
   let (f,first) <-holding [ov] (getMethod ov m pl)
   callWith pos f first (backTo pos (starEach (e::es) X.env)) (backToKw pos (keywordEach [] X.env))):=by rfl) :
  PE X (.Call (.Attribute o m apos) (e::es) [] pos) (zlo C m sp [] E ta t):=by
 obtain ⟨f,fd,F,hm,hb⟩:=D.ex
 exact zr5 (pl:=pl) he hc hm F (hr.mono hj) (.all hb) .nil hx ha hst hpl ht
theorem zfr {E:XK} (M:MkI X.K C) (D:zdE X.prog X.w X.K X.mg X.base j C "__init__" ps sp) (hr:Room k X.A) (hx:Passes (CXX X.prog X.w) X E) (hm:X.mg x=some (.ref C)) (ha:PA X (e::es) t) (hj:j+1<=k:=by decide) (hg:Gl X x:=by rfl)
  (hdb:(x == ("__debug__" : Str))=false:=by decide) (he:starEach (e::es) X.env=(false,eval e X.env)::starEach es X.env:=by rfl) (hpl:(backTo pos (starEach es X.env)).any (·.1)=false:=by rfl) :
  PE X (.Call (.Name x p) (e::es) [] pos) (zoo C sp [] E t):=by
 obtain ⟨f,fd,F,hme,hb⟩:=D.ex
 exact znT ⟨M.makes,hme.at_,hme.fn,M.kp⟩ F (hr.mono hj) hg hm (.all hb) .nil hx ha hdb he hpl
end
section
variable {X:Cx}
end
end L2
namespace L2
open PySem
end L2
namespace L2
noncomputable def eqK:Kd->Kd->Bool
 | .plain,.plain=>true
 | .bank,.bank=>true
 | .thirty,.thirty=>true
 | .exact,.exact=>true
 | _,_=>false
noncomputable def zqk (k:Kd):Kd->Bool
 | .plain=>true
 | .bank=>eqK k .bank
 | .thirty=>eqK k .thirty
 | .exact=>eqK k .exact
end L2
namespace L2
open PySem PySem.Spec PyProof.Rows
noncomputable abbrev Cx.tried (X:Cx) (xe:Value->Shared->Prop) (pn:List (Addr × Obj)):Cx:={ X with xe:=xe,pn:=X.pn++pn }
section
variable {X:Cx} {pins pins':List (Addr × Obj)} {σ:St} {H:Hp} {s:Shared} {xe:Value->Shared->Prop}
theorem Cx.Ok.tried (ok:X.Ok) (xe:Value->Shared->Prop) (pn:List (Addr × Obj)):(X.tried xe pn).Ok:=⟨ok.mod,ok.kind,ok.glob,ok.blt,ok.above,ok.inj,ok.has,ok.cab,ok.hd,ok.frames,ok.stk,ok.exf,ok.bs,ok.bsz,ok.noex,ok.exfs,ok.funs,ok.frf⟩
theorem Cx.Ok.untried {pn:List (Addr × Obj)} (ok:(X.tried xe pn).Ok):X.Ok:=⟨ok.mod,ok.kind,ok.glob,ok.blt,ok.above,ok.inj,ok.has,ok.cab,ok.hd,ok.frames,ok.stk,ok.exf,ok.bs,ok.bsz,ok.noex,ok.exfs,ok.funs,ok.frf⟩
theorem Inv.tried (I:Inv X pins σ H s) (xe:Value->Shared->Prop):Inv (X.tried xe pins) [] σ H s:=⟨I.ok.tried xe pins,I.os,I.bare,I.base,I.loc,I.cell,I.free,I.freeC,fun p hp=>I.pin p (by rw[List.append_nil] at hp;exact hp),I.hok,I.len⟩
theorem Inv.untried (I:Inv (X.tried xe pins) pins' σ H s):Inv X pins σ H s:=⟨I.ok.untried,I.os,I.bare,I.base,I.loc,I.cell,I.free,I.freeC,fun p hp=>I.pin p (yav _ hp),I.hok,I.len⟩
theorem Inv.blank (I:Inv X pins σ H s) {σn:St} (hl:σn.length=X.N.length) (hn:∀ (i:Nat) (v:V),σn[i]?≠some (some v)):Inv X pins σn H s:=⟨I.ok,I.os,I.bare,I.base,(let ⟨m,a,_⟩:=I.loc;⟨m,a,fun i x v _ h=>absurd h (hn i v)⟩),I.cell,I.free,I.freeC,I.pin,I.hok,hl⟩
theorem SP.untried {D:Ends} {f:Flow} {s':Shared} (h:SP (X.tried xe pins) [] D f s'):SP X pins D f s':=by
 cases f with
 | next=>obtain ⟨σ',H',I,q⟩:=h;exact ⟨σ',H',I.untried,q⟩
 | brk=>obtain ⟨σ',H',I,q⟩:=h;exact ⟨σ',H',I.untried,q⟩
 | cont=>obtain ⟨σ',H',I,q⟩:=h;exact ⟨σ',H',I.untried,q⟩
 | ret u=>obtain ⟨v,σ',H',I,r,q⟩:=h;exact ⟨v,σ',H',I.untried,r,q⟩
end
theorem zh1 {K:W.Frag} {x:Str} {C:Addr} {n:String} {v:Bool} (a:PySem.W.nsIn K mainGlobals x=some (some (.ref C))) (q:PySem.W.kitOne K (.type n) (.ref C)=some v):PySem.W.kitOne K (.type n) (.ref (cA K x))=some v:=by
 rw[zba a]
 exact q
section
variable {M:Model} {A:Around} {E:Value->Shared->Prop} {s:Shared} {B:Heap} {v:Env} {out:List Env} {L e d:Addr} {Q:Unit->Shared->Prop}
end
section
variable {X:Cx} {pins:List (Addr × Obj)} {σ:St} {H:Hp} {s:Shared} {e:Addr} {φ:Heap->Prop}
end
section
variable {P:Program} {w:World} {K:W.Frag} {mg:Str->Option Value} {base:Heap} {N:List Str} {qual:Str} {scope:Scope} {f:Addr} {cd:Value} {A:Around} {outer:List Env} {s₀:Shared} {H₀:Hp} {E:XK}
end
section
variable {M:Model} {A:Around} {E:Value->Shared->Prop} {env:Env} {nm q:Str} {C N:Addr} {bs bm:List Value} {hdct:Bool} {sn:List Str} {sub:List Value} {ab:Bool} {col:Option Bool} {dd:Option Addr} {k0 k1 k2 k3 k5:Option Value} {newId:String}
end
section
variable {X:Cx} {x:Str} {np pos:Pos} {e0:Expr} {t:TA} {C f:Addr} {fd:FuncData} {ps:List Str} {name:Str} {j k:Nat}
end
section
variable {X:Cx} {x:Str} {np cpos pos:Pos} {e0:Expr} {t:TA} {name:Str} {j k:Nat} {E:XK}
end
section
variable {X:Cx} {o value:Expr} {name:Str} {pos pos':Pos} {ta tv:TE} {C:Addr}
end
section
variable {M:Model} {A:Around} {E:Value->Shared->Prop} {s:Shared} {B:Heap} {v:Env} {out:List Env} {L e:Addr} {Q:Unit->Shared->Prop}
theorem zri {c x0 fl:Value} {l:List Env} {to:Option Addr} (st:B.StaysIn s.heap) (ff:s.heap.FunFrames B l) (tr:s.heap.TracedAtW B e c x0 fl)
  (k:∀ h',B.StaysIn h'->h'.FunFrames B l->h'.TracedAtW B e c x0 (to.elim .none fun f=>rawInt f)->h'.get? e=s.heap.get? e->s.heap.UpToSlots h'->Q () { s with heap:=h' }):wpAny M A (setFlight (.ref e) to) Q E s:=by
 obtain ⟨oe,fs,T,oT,ts,ge,cx,od,o1,bT,Te,gT,dT,t3⟩:=tr
 have z3:3<ts.size:=(Array.getElem?_eq_some_iff.mp t3).1
 have rest:∀ b,b≠T->(s.heap.update T (Obj.mapFields (·.setIfInBounds 3 (to.elim Value.none fun f=>rawInt f)))).get? b=s.heap.get? b:=fun b ne=>ydn _ _ ne.symm
 have none_of:∀ b o,s.heap.get? b=some o->(∀ w,o.data≠.fields w)->b≠T:=fun b o hb nf z=>by
  rw[z] at hb
  cases hb.symm.trans gT
  exact nf ts dT
 unfold setFlight
 refine wpAny_bind (wpAny_field ge od o1 ?_)
 rw[if_pos (show (Value.ref T != Value.none)=true from by simp)]
 refine wpAny_setField gT dT z3 (k _ (fun b o hb=>(rest b fun z=>by rw[z,bT] at hb;cases hb).trans (st b o hb)) (ff.of_keeps fun b o hb nf=>⟨o,(rest b (none_of b o hb nf)).trans hb,rfl⟩) ?_ (rest e Te.symm) fun b o hb nf=>⟨o.slots,(rest b (none_of b o hb nf)).trans hb⟩)
 exact ⟨oe,fs,T,_,_,(rest e Te.symm).trans ge,cx,od,o1,bT,Te,ydo _ gT (Obj.isFreed_of_fields (Obj.data_mapFields dT _)),Obj.data_mapFields dT _,by simp[z3]⟩
end
section
variable {P:Program} {w:World} {K:W.Frag} {mg:Str->Option Value} {base:Heap} {N:List Str} {qual:Str} {scope:Scope} {f:Addr} {cd:Value} {A:Around} {outer:List Env} {s₀:Shared} {H₀:Hp} {E:XK}
end
section
variable {prog:Program} {w:World} {A:Around} {E:Value->Shared->Prop} {env:Env} {nm q:Str} {C N:Addr} {bs bm:List Value} {hdct:Bool} {sn:List Str} {sub:List Value} {ab:Bool} {col:Option Bool} {dd:Option Addr} {k0 k1 k2 k3 k5:Option Value} {newId:String}
end
section
variable {M:Model} {A:Around} {E:Value->Shared->Prop} {s:Shared} {B:Heap} {v:Env} {out:List Env} {L e:Addr} {Q:Unit->Shared->Prop}
end
def Lets (X:Cx) (E:XK):Prop:=∀ (pins:List (Addr × Obj)) (σ:St) (H:Hp) (s:Shared) (h':Heap) (e T:Addr) (c x0 fl:Value),Inv X pins σ H s->(∀ b∈[e,T],X.s₀.heap.get? b=none/\H b=none) ->
 (PySem.W.hideAll s.heap (e::T::frs X.stack)).StaysIn h'->h'.FunFrames (PySem.W.hideAll s.heap (e::T::frs X.stack)) X.stack->h'.TracedAtW (PySem.W.hideAll s.heap (e::T::frs X.stack)) e c x0 fl->s.heap.UpToSlots h'->E c none H->X.xe (.ref e) { s with heap:=h' }
section
variable {P:Program} {w:World} {K:W.Frag} {mg:Str->Option Value} {base:Heap} {N:List Str} {qual:Str} {scope:Scope} {f:Addr} {cd:Value} {A:Around} {outer:List Env} {s₀:Shared} {H₀:Hp} {E:XK}
end
section
variable {prog:Program} {w:World} {A:Around} {R:Result->Shared->Prop} {s:Shared}
end
section
variable {X:Cx} {pins:List (Addr × Obj)} {σ:St} {H:Hp} {s:Shared} {sc:Scope} {x:Str} {ix:List Nat} {fp:List Addr} {elt iter:Expr} {te:TE} {wi:TI} {px pos:Pos} {EK:XK}
end
section
variable {P:Program} {w:World} {K:W.Frag} {mg:Str->Option Value} {base:Heap} {N:List Str} {qual:Str} {scope:Scope} {f:Addr} {cd:Value} {A:Around} {outer:List Env} {s₀:Shared} {H₀:Hp} {E:XK}
end
section
variable {P:Program} {w:World} {K:W.Frag} {mg:Str->Option Value} {base:Heap} {x:Str} {st:Stmt} {N ps:List Str} {k:Nat} {sp:Sp}
end
noncomputable abbrev Ends.gone (D:Ends) (j:Nat):Ends:={ nx:=fun σ H=>D.nx (σ.set j none) H,rt:=D.rt }
section
variable {X:Cx} {pins:List (Addr × Obj)} {σ:St} {H:Hp} {s:Shared}
theorem Inv.zru {h':Heap} {m:Str->Option Value} {n:Str} {j t':Nat} {v0:Option Value} (I:Inv X pins σ H s) (hl:∀ (i:Nat) (x:Str) (v:V),X.N[i]?=some x->σ[i]?=some (some v)->Vis X.env.scope x->∃ u,RelV v u/\Look X.env s.heap m x u)
  (hN:X.N.Nodup) (hj:X.N[j]?=some n) (hn:h'.Ns X.env.locals (fun x=>if x=n then v0 else m x)) (hs:Heap.SameBut X.env.locals s.heap h'):Inv X pins (σ.set j none) H { s with heap:=h',toks:=t' }:=by
 have neL:∀ b o,X.s₀.heap.get? b=some o->b≠X.env.locals:=fun b o q=>ycv (ycw (ydl q) I.ok.above)
 refine ⟨I.ok,I.os,I.bare,⟨fun b o q n hb hx=>(hs.2 b (neL b o q)).trans (I.base.keep b o q n hb hx),fun b o q n hb hx=>?_,I.base.free,fun b o q hx=>?_,I.base.tups,I.base.frzs,I.base.tbls⟩,⟨_,hn,fun i x v e1 e2 e3=>?_⟩,fun x c q=>?_,I.free,I.freeC,fun p hp=>?_,fun a o q=>?_,by rw[List.length_set];exact I.len⟩
 ·obtain ⟨sl,e1⟩:=I.base.slot b o q n hb hx
  exact ⟨sl,(hs.2 b (neL b o q)).trans e1⟩
 ·obtain ⟨o',e1⟩:=I.base.there b o q hx
  exact ⟨o',(hs.2 b (neL b o q)).trans e1⟩
 ·by_cases hij:j=i
  ·subst hij
   rw[List.getElem?_set] at e2
   simp only[if_true] at e2
   split at e2 <;> cases e2
  ·rw[ycn hij] at e2
   obtain ⟨u,r,q⟩:=hl i x v e1 e2 e3
   refine ⟨u,r,?_⟩
   rcases q with ⟨k,q⟩ | ⟨k,c,q1,o,q2,q3⟩
   ·refine .inl ⟨k,?_⟩
    have ne:x≠n:=fun z=>hij (by
     subst z
     exact (List.getElem?_inj (yad.mp hj).1 hN).mp (hj.trans e1.symm))
    show (if x=n then v0 else m x)=some u
    rw[if_neg ne];exact q
   ·exact .inr ⟨k,c,q1,o,(hs.2 c (I.cne x c q1)).trans q2,q3⟩
 ·obtain ⟨v,o,ho,hd⟩:=I.cell x c q
  exact ⟨v,o,(hs.2 c (I.cne x c q)).trans ho,hd⟩
 ·obtain ⟨a,b,c,d,f⟩:=I.pin p hp
  exact ⟨(hs.2 p.1 c).trans a,b,c,d,f⟩
 ·refine (I.hok a o q).stay (fun b u hb r=>(hs.2 b ?_).trans r) (fun _ z=>z) fun _ _ z=>z
  intro z
  have t:H b≠none:=by
   rcases hb with rfl | hb
   ·rw[q];exact fun z=>nomatch z
   ·rw[hb];exact fun z=>nomatch z
  exact t (by rw[z];exact I.free)
structure Fly (X:Cx) (pins:List (Addr × Obj)) (σ:St) (H:Hp) (s:Shared) (e T:Addr) (c a0:Value) (h:Heap):Prop where
 I:Inv X pins σ H s
 fly:Heap.FlyingW (PySem.W.hideAll s.heap (e::T::frs X.stack)) (X.env::X.outer) e c a0 h
 up:s.heap.UpToSlots h
 hh:∀ b∈[e,T],X.s₀.heap.get? b=none/\H b=none/\∀ p∈X.pn++pins,p.1≠b
theorem Fly.flew {e T:Addr} {c a0:Value} {h:Heap} (Y:Fly X pins σ H s e T c a0 h):Flew X [e,T] s.heap h:=by
 refine ⟨fun b o q n m=>Y.fly.1 b o (PySem.W.hideAll_get _ q fun z=>?_),Y.up⟩
 rcases yak.mp z with z | z
 ·exact m (by rw[z];simp)
 ·rcases yak.mp z with z | z
  ·exact m (by rw[z];simp)
  ·exact n z
theorem Fly.inv {e T:Addr} {c a0:Value} {h:Heap} (Y:Fly X pins σ H s e T c a0 h):Inv X pins σ H { s with heap:=h }:=Y.I.flew Y.flew Y.hh
theorem Fly.miss {e T c:Addr} {a0:Value} {h:Heap} {x:Str} {n:Option Str} {np hpos:Pos} {suite:List Stmt} {rest:List ExceptHandler} {D:Ends} (Y:Fly X pins σ H s e T (.ref c) a0 h) (hgx:Gl X x) (hcx:X.mg x=some (.ref (cA X.K x))) (hdx:(x == ("__debug__" : Str))=false)
  (hsub:PySem.W.exmOne X.K (.ref c) (.ref (cA X.K x))=some false) (k:wpAny (model X.prog X.w) X.A (handleBy (.ref e) X.env rest) (SP X pins D) X.xe { s with heap:=h }) :
  wpAny (model X.prog X.w) X.A (handleBy (.ref e) X.env (.ExceptHandler (some (.Name x np)) n suite hpos::rest)) (SP X pins D) X.xe { s with heap:=h }:=by
 have I5:=Y.inv
 obtain ⟨ob,hob,hobc⟩:=Y.fly.there
 refine wpAny_handleBy_cons (codeAny_handlers_test (zcF (I5.held e) hgx hcx ?_ hdx)) (by intro q;cases q)
 exact (PySem.W.exm_one (K:=X.K) I5.kIn (xtype hob hobc) hsub).here k
theorem Fly.hit {e T c:Addr} {a0:Value} {h:Heap} {x n:Str} {j:Nat} {np hpos:Pos} {b₀:Stmt} {suite:List Stmt} {rest:List ExceptHandler} {D:Ends} {th:TS} (Y:Fly X pins σ H s e T (.ref c) a0 h) (hgx:Gl X x) (hcx:X.mg x=some (.ref (cA X.K x))) (hdx:(x == ("__debug__" : Str))=false)
  (hN:X.N.Nodup) (hj:X.N[j]?=some n) (hn:X.env.scope.names.lookup n=some .local) (hsub:PySem.W.exmOne X.K (.ref c) (.ref (cA X.K x))=some true) (hs:PSs (X.held e) (b₀::suite) th) (hth:th (D.gone j) (σ.set j (some (.ref e))) (upd H e (zdp e (.ref c)))) :
  wpAny (model X.prog X.w) X.A (handleBy (.ref e) X.env (.ExceptHandler (some (.Name x np)) (some n) (b₀::suite) hpos::rest)) (SP X pins D) X.xe { s with heap:=h }:=by
 have I5:=Y.inv
 obtain ⟨ob,hob,hobc⟩:=Y.fly.there
 refine wpAny_handleBy_cons (codeAny_handlers_test (zcF (I5.held e) hgx hcx ?_ hdx)) (by intro q;cases q)
 refine (PySem.W.exm_one (K:=X.K) I5.kIn (xtype hob hobc) hsub).here ?_
 refine codeAny_handlers_suite_as (lands_againW Y.fly fun h₆ fly6 u6=>?_)
 have Y6:Fly X pins σ H s e T (.ref c) a0 h₆:=⟨Y.I,fly6,Y.up.trans u6,Y.hh⟩
 have I6:=Y6.inv
 obtain ⟨oe6,vs6,he6,hc6,hd6,_⟩:=fly6.first
 obtain ⟨fr,free,pnn⟩:=Y.hh e (by simp)
 have I7:Inv X pins σ (upd H e (zdp e (.ref c))) { s with heap:=h₆ }:=by
  refine I6.track free fr (fun z=>?_) (fun x c' q z=>?_) pnn ⟨⟨oe6,vs6,he6,hc6,hd6⟩,⟨oe6,he6⟩,fun g1 g2 p k=>?_⟩
  ·obtain ⟨m,⟨o,es,ep,ho,hd,_⟩,_⟩:=I6.loc
   rw[<-z] at ho
   have y:=ho.symm.trans he6
   cases y
   rw[hd6] at hd;cases hd
  ·obtain ⟨v,o,ho,hd⟩:=I6.cell x c' q
   rw[z] at ho
   have y:=ho.symm.trans he6
   cases y
   rw[hd6] at hd;cases hd
  ·obtain ⟨o,vs,a,b,d⟩:=p
   exact ⟨o,vs,k o a,b,d⟩
 refine ziG I7 hN hj (.inl hn) (v:=.ref e) rfl (fun s7 I8=>?_) (.inr hn)
 refine wpAny_mono (hs pins s7 _ _ _ (I8.held e) hth) (fun fl s8 q8=>?_) fun _ _ z=>False.elim z
 cases fl with
 | ret u =>
  obtain ⟨v,σ',H8,I9,rv,qv⟩:=q8
  have I9:=I9.unheld Y.I.ok
  obtain ⟨m,hm',_⟩:=id I9.loc
  exact wpAny_nameGoes hn hm' (by rw[Y.I.ok.kind];rfl) fun h₉ m₉ hn₉ hs₉=>⟨v,_,H8,I9.zpS hn₉ hs₉,rv,qv⟩
 | next =>
  obtain ⟨σ',H8,I9,qv⟩:=q8
  have I9:=I9.unheld Y.I.ok
  obtain ⟨m,hm',hl⟩:=id I9.loc
  exact wpAny_nameGoes_keeps hn hm' (by rw[Y.I.ok.kind];rfl) fun h₉ v₉ hn₉ hs₉=>⟨_,H8,I9.zru hl hN hj hn₉ hs₉,qv⟩
 | brk=>obtain ⟨_,_,_,z⟩:=q8;exact False.elim z
 | cont=>obtain ⟨_,_,_,z⟩:=q8;exact False.elim z
theorem Fly.ztL {e T c:Addr} {a0:Value} {h:Heap} {x:Str} {np hpos:Pos} {b₀:Stmt} {suite:List Stmt} {rest:List ExceptHandler} {D:Ends} {th:TS} (Y:Fly X pins σ H s e T (.ref c) a0 h) (hgx:Gl X x) (hcx:X.mg x=some (.ref (cA X.K x))) (hdx:(x == ("__debug__" : Str))=false)
  (hsub:PySem.W.exmOne X.K (.ref c) (.ref (cA X.K x))=some true) (hs:PSs (X.held e) (b₀::suite) th) (hth:th { nx:=D.nx,rt:=D.rt } σ H) :
  wpAny (model X.prog X.w) X.A (handleBy (.ref e) X.env (.ExceptHandler (some (.Name x np)) none (b₀::suite) hpos::rest)) (SP X pins D) X.xe { s with heap:=h }:=by
 have I5:=Y.inv
 obtain ⟨ob,hob,hobc⟩:=Y.fly.there
 refine wpAny_handleBy_cons (codeAny_handlers_test (zcF (I5.held e) hgx hcx ?_ hdx)) (by intro q;cases q)
 refine (PySem.W.exm_one (K:=X.K) I5.kIn (xtype hob hobc) hsub).here ?_
 refine codeAny_handlers_suite (lands_againW Y.fly fun h₆ fly6 u6=>?_)
 have Y6:Fly X pins σ H s e T (.ref c) a0 h₆:=⟨Y.I,fly6,Y.up.trans u6,Y.hh⟩
 refine wpAny_mono (hs pins _ _ _ _ (Y6.inv.held e) hth) (fun fl s8 q8=>?_) fun _ _ z=>False.elim z
 cases fl with
 | ret u =>
  obtain ⟨v,σ',H8,I9,rv,qv⟩:=q8
  exact ⟨v,_,H8,I9.unheld Y.I.ok,rv,qv⟩
 | next =>
  obtain ⟨σ',H8,I9,qv⟩:=q8
  exact ⟨_,H8,I9.unheld Y.I.ok,qv⟩
 | brk=>obtain ⟨_,_,_,z⟩:=q8;exact False.elim z
 | cont=>obtain ⟨_,_,_,z⟩:=q8;exact False.elim z
theorem Fly.out {e T:Addr} {c a0:Value} {h:Heap} {D:Ends} {E:XK} (Y:Fly X pins σ H s e T c a0 h) (hst:X.stack=X.env::X.outer) (hlt:Lets X E) (hE:E c none H):wpAny (model X.prog X.w) X.A (handleBy (.ref e) X.env []) (SP X pins D) X.xe { s with heap:=h }:=by
 refine wpAny_handleBy_nil ?_
 obtain ⟨d1,d2,d3,oe,vs,T',oT,ts,k1,k2,k3,k4,k5,k6,k7,k8,k9⟩:=Y.fly
 unfold PySem.passOn
 refine wpAny_bind (wpAny_field k1 k3 k4 ?_)
 rw[if_neg (by simp)]
 refine wpAny_bind (zri (s:={ s with heap:=h }) d1 d3 ⟨oe,vs,T',oT,ts,k1,k2,k3,k4,k5,k6,k7,k8,k9⟩ fun g9 p1 p2 p3 p4 p5=>wpAny_throw ?_)
 rw[<-hst] at p2
 exact hlt pins σ H s g9 e T c a0 _ Y.I (fun b hb=>⟨(Y.hh b hb).1,(Y.hh b hb).2.1⟩) p1 p2 p3 (Y.up.trans p5) hE
theorem zpb {σ':St} {H1:Hp} {s1 s2:Shared} {xe:Value->Shared->Prop} {pins':List (Addr × Obj)} {ev:Value} {Ex:XK} {hs:List ExceptHandler} {Q':Flow->Shared->Prop} (σn:St) (hσl:σn.length=X.N.length) (hσn:σn=yae σn.length none)
  (hst:X.stack=X.env::X.outer) (hfr:X.env.frame=some X.env.locals) (hex:X.ex=[]) (J1:Inv (X.tried xe pins) pins' σ' H1 s1) (hq:CXX X.prog X.w X.stack H1 s1 Ex ev s2)
  (k:∀ e T c a0 H2 s2 h5,Ex c none H2->Fly X pins σn H2 s2 e T c a0 h5->wpAny (model X.prog X.w) X.A (handleBy (.ref e) X.env hs) Q' X.xe { s2 with heap:=h5 }) :
  wpAny (model X.prog X.w) X.A (noteFrame ev X.env) (fun _ s3=>wpAny (model X.prog X.w) X.A (setFlight ev none) (fun _ s4=>wpAny (model X.prog X.w) X.A (handleBy ev X.env hs) Q' X.xe s4) X.xe s3) X.xe s2:=by
 have I1:Inv X pins σ' H1 s1:=J1.untried
 obtain ⟨e,C,H2,rfl,hE,os,bare,un,hok,new,free,oe,vs',T,oT,ts,a0,h1,h2,h3,h4,h5,h6,h7,h8,h9⟩:=hq
 have hσv:∀ (i:Nat) (v:V),σn[i]?≠some (some v):=fun i v z=>by
  rw[hσn,ybz] at z
  split at z <;> cases z
 have I2:Inv X pins σn H2 s2:=Inv.blank (I1.call' os un hok bare (fun b z=>absurd z (by simp))) hσl hσv
 have fresh:∀ b,s1.heap.get? b=none->X.s₀.heap.get? b=none:=fun b z=>by
  cases q:X.s₀.heap.get? b with
  | none=>rfl
  | some o =>
   obtain ⟨o',e1⟩:=I1.base.there b o q (by rw[hex];simp)
   rw[z] at e1;cases e1
 have pnn:∀ b,s1.heap.get? b=none->∀ p∈X.pn++pins,p.1≠b:=fun b z p hp y=>by
  have:=(I1.pin p hp).1
  rw[y,z] at this;cases this
 have me:e∈e::T::frs X.stack:=yai
 have mT:T∈e::T::frs X.stack:=yaj _ yai
 have hh:∀ b∈[e,T],X.s₀.heap.get? b=none/\H2 b=none/\∀ p∈X.pn++pins,p.1≠b:=fun b z=>by
  rcases yak.mp z with z | z
  ·subst z;exact ⟨fresh _ new,free,pnn _ new⟩
  ·have z':b=T:=by simpa using z
   subst z';exact ⟨fresh _ h5.1,h5.2,pnn _ h5.1⟩
 refine wpAny_looks_onW (base:=PySem.W.hideAll s2.heap (e::T::frs X.stack)) (outer:=X.outer) (L:=X.env.locals) (cls:=C) (a0:=a0) (by rw[I1.ok.frames,hst]) hfr
  ⟨fun b o q=>PySem.W.of_hideAll _ q,PySem.W.hideAll_none _ me,by rw[<-hst];exact PySem.W.funFrames_hide I2.stack (fun env he a ha=>yaj _ (yaj _ (ybw.mpr ⟨env,he,ha⟩))),
   oe,vs',T,oT,ts,h1,h2,h3,h4,PySem.W.hideAll_none _ mT,h6,h7,h8,h9⟩ fun h₄ held u4=>?_
 exact wpAny_landsW held fun h₅ fly u5=>k e T C a0 H2 s2 h₅ hE ⟨I2,fly,u4.trans u5,hh⟩
end
def zra (K:W.Frag) (C1 C2:Addr) (j:Nat) (σn:St) (tb:XK->TS) (t1 t2:TS):TS:=fun D σ H=>tb (fun C _ H2 =>
 ∃ c,C=.ref c/\((PySem.W.exmOne K (.ref c) (.ref C1)=some true/\∀ e,H2 e=none->t1 (D.gone j) (σn.set j (some (.ref e))) (upd H2 e (zdp e (.ref c)))) \/
  (PySem.W.exmOne K (.ref c) (.ref C1)=some false/\PySem.W.exmOne K (.ref c) (.ref C2)=some true/\∀ e,H2 e=none->t2 (D.gone j) (σn.set j (some (.ref e))) (upd H2 e (zdp e (.ref c)))))) D σ H
theorem zr7 {X:Cx} {n x y:Str} {j:Nat} {tb:XK->TS} {np nq hp hq pos:Pos} {b1 b2:Stmt} {u1 u2 body:List Stmt} {t1 t2:TS} (σn:St)
  (hN:X.N.Nodup) (hj:X.N[j]?=some n) (hn:X.env.scope.names.lookup n=some .local) (hcx:X.mg x=some (.ref (cA X.K x))) (hcy:X.mg y=some (.ref (cA X.K y)))
  (hb:∀ (E:XK) (xe:Value->Shared->Prop) (pn:List (Addr × Obj)),Passes (CXX X.prog X.w) (X.tried xe pn) E->PSs (X.tried xe pn) body (tb E)) (h1:∀ e,PSs (X.held e) (b1::u1) t1) (h2:∀ e,PSs (X.held e) (b2::u2) t2)
  (hσl:σn.length=X.N.length:=by rfl) (hσn:σn=yae σn.length none:=by rfl) (hgx:Gl X x:=by rfl) (hgy:Gl X y:=by rfl) (hst:X.stack=X.env::X.outer:=by rfl) (hfr:X.env.frame=some X.env.locals:=by rfl) (hex:X.ex=[]:=by rfl)
  (hdx:(x == ("__debug__" : Str))=false:=by decide) (hdy:(y == ("__debug__" : Str))=false:=by decide) :
  PS X (.Try body [.ExceptHandler (some (.Name x np)) (some n) (b1::u1) hp,.ExceptHandler (some (.Name y nq)) (some n) (b2::u2) hq] [] [] pos) (zra X.K (cA X.K x) (cA X.K y) j σn tb t1 t2):=by
 intro pins s σ H D I h
 refine wpAny_Try_except ?_
 refine wpAny_mono (hb _ _ pins (fun pins' σ' H1 s1 ev s2 J1 hq=>?_) [] s σ H D (I.tried _) h) (fun fl s' q=>?_) fun ev s' z=>z
 rotate_left
 ·have q':=SP.untried q
  cases fl with
  | next=>exact wpAny_execs_nil q'
  | brk=>exact q'
  | cont=>exact q'
  | ret u=>exact q'
 refine zpb σn hσl hσn hst hfr hex J1 hq fun e T C a0 H2 s2 h5 hE Y=>?_
 obtain ⟨c,rfl,hE⟩:=hE
 have free:=(Y.hh e (by simp)).2.1
 rcases hE with ⟨q1,hE⟩ | ⟨q1,q2,hE⟩
 ·exact Y.hit hgx hcx hdx hN hj hn q1 (h1 e) (hE e free)
 ·exact Y.miss hgx hcx hdx q1 (Y.hit hgy hcy hdy hN hj hn q2 (h2 e) (hE e free))
def zs9 (K:W.Frag) (Cx:Addr) (σn:St) (E:XK) (tb:XK->TS) (th:TS):TS:=fun D σ H=>tb (fun C _ H2 =>
 ∃ c,C=.ref c/\((PySem.W.exmOne K (.ref c) (.ref Cx)=some true/\th { nx:=D.nx,rt:=D.rt } σn H2)\/(PySem.W.exmOne K (.ref c) (.ref Cx)=some false/\E C none H2))) D σ H
theorem zrX {X:Cx} {x:Str} {tb:XK->TS} {np hpos pos:Pos} {b₀:Stmt} {suite body:List Stmt} {th:TS} {E:XK} (σn:St) (hlt:Lets X E) (hcx:X.mg x=some (.ref (cA X.K x)))
  (hb:∀ (E:XK) (xe:Value->Shared->Prop) (pn:List (Addr × Obj)),Passes (CXX X.prog X.w) (X.tried xe pn) E->PSs (X.tried xe pn) body (tb E)) (hs:∀ e,PSs (X.held e) (b₀::suite) th)
  (hσl:σn.length=X.N.length:=by rfl) (hσn:σn=yae σn.length none:=by rfl) (hgx:Gl X x:=by rfl) (hst:X.stack=X.env::X.outer:=by rfl) (hfr:X.env.frame=some X.env.locals:=by rfl) (hex:X.ex=[]:=by rfl) (hdx:(x == ("__debug__" : Str))=false:=by decide) :
  PS X (.Try body [.ExceptHandler (some (.Name x np)) none (b₀::suite) hpos] [] [] pos) (zs9 X.K (cA X.K x) σn E tb th):=by
 intro pins s σ H D I h
 refine wpAny_Try_except ?_
 refine wpAny_mono (hb _ _ pins (fun pins' σ' H1 s1 ev s2 J1 hq=>?_) [] s σ H D (I.tried _) h) (fun fl s' q=>?_) fun ev s' z=>z
 rotate_left
 ·have q':=SP.untried q
  cases fl with
  | next=>exact wpAny_execs_nil q'
  | brk=>exact q'
  | cont=>exact q'
  | ret u=>exact q'
 refine zpb σn hσl hσn hst hfr hex J1 hq fun e T C a0 H2 s2 h5 hE Y=>?_
 obtain ⟨c,rfl,hE⟩:=hE
 rcases hE with ⟨q1,hE⟩ | ⟨q1,hE⟩
 ·exact Y.ztL hgx hcx hdx q1 (hs e) hE
 ·exact Y.miss hgx hcx hdx q1 (Y.out hst hlt hE)
theorem zre {K:W.Frag} {x y:Str} {C D:Addr} (a:PySem.W.nsIn K mainGlobals x=some (some (.ref C))) (b:PySem.W.nsIn K mainGlobals y=some (some (.ref D))) (q1:PySem.W.subIn K (.ref D) (.type "BaseException")=some true)
  (q2:PySem.W.isClsIn K D=true) (q3:PySem.W.typeIn K (.ref D)=some (.type "type")) (q4:PySem.W.subIn K (.ref C) (.ref D)=some false):PySem.W.exmOne K (.ref (cA K x)) (.ref (cA K y))=some false:=by
 rw[zba a,zba b]
 unfold PySem.W.exmOne PySem.W.kitCls
 unfold PySem.W.isClsIn at q2
 rw[q1,if_pos (by decide)]
 dsimp only
 rw[q2,q3,if_pos (by decide)]
 exact q4
end L2
namespace L2
open PySem
theorem zry {K:W.Frag} {C1 C2:Addr} {j:Nat} {σn:St} {tb:XK->TS} {t1 t2 u:TS} {D:Ends} {σ:St} {H:Hp}
  (h:∀ Ex:XK,(∀ C dO H2,(∃ c,C=.ref c/\((PySem.W.exmOne K (.ref c) (.ref C1)=some true/\∀ e,H2 e=none->t1 { nx:=fun σ H=>u D (σ.set j none) H,rt:=D.rt } (σn.set j (some (.ref e))) (upd H2 e (zdp e (.ref c)))) \/
   (PySem.W.exmOne K (.ref c) (.ref C1)=some false/\PySem.W.exmOne K (.ref c) (.ref C2)=some true/\∀ e,H2 e=none->t2 { nx:=fun σ H=>u D (σ.set j none) H,rt:=D.rt } (σn.set j (some (.ref e))) (upd H2 e (zdp e (.ref c))))))->Ex C dO H2)->zP (tb Ex) u D σ H):zP (zra K C1 C2 j σn tb t1 t2) u D σ H:=h _ fun _ _ _ z=>z
end L2
namespace L2
open PySem PySem.Spec PyProof.Rows
open PySem.Builtin
noncomputable def zgQ:V->Int->Int->Bool
 | .int i,a,b=>decide (a<=i) && decide (i<=b)
 | _,_,_=>false
section
variable {K:W.Frag} {H H':Hp} {x:V} {p:Int}
end
end L2
namespace L2
open PySem PySem.Spec PyProof.Rows
inductive LL {α:Type} (R:V->α->Prop):List V->List α->Prop
 | nil:LL R [] []
 | cons {v:V} {e:α} {vs:List V} {es:List α}:R v e->LL R vs es->LL R (v::vs) (e::es)
section
variable {α:Type} {R S:V->α->Prop} {vs ws:List V} {es fs:List α}
theorem LL.length (h:LL R vs es):vs.length=es.length:=by
 induction h with
 | nil=>rfl
 | cons _ _ ih=>simp[ih]
theorem LL.imp (f:∀ v e,R v e->S v e) (h:LL R vs es):LL S vs es:=by
 induction h with
 | nil=>exact .nil
 | cons h _ ih=>exact .cons (f _ _ h) ih
theorem LL.append (h:LL R vs es) (k:LL R ws fs):LL R (vs++ws) (es++fs):=by
 induction h with
 | nil=>exact k
 | cons h _ ih=>exact .cons h ih
theorem LL.push {v:V} {e:α} (h:LL R vs es) (k:R v e):LL R (vs++[v]) (es++[e]):=h.append (.cons k .nil)
theorem LL.take (h:LL R vs es):∀ n,LL R (vs.take n) (es.take n):=by
 induction h with
 | nil=>intro n;simp;exact .nil
 | cons h _ ih =>
  intro n
  cases n with
  | zero=>exact .nil
  | succ n=>exact .cons h (ih n)
theorem LL.get (h:LL R vs es):∀ {i:Nat} {v:V},vs[i]?=some v->∃ e,es[i]?=some e/\R v e:=by
 induction h with
 | nil=>intro i v e;simp at e
 | cons h _ ih =>
  intro i v e
  cases i with
  | zero=>cases e;exact ⟨_,rfl,h⟩
  | succ i=>exact ih e
theorem LL.eqm {g:α->V} (h:LL (fun v e=>v=g e) vs es):vs=es.map g:=by
 induction h with
 | nil=>rfl
 | cons h _ ih=>rw[h,ih];rfl
end
theorem zdm {α:Type} {J:It} {ix:List Nat} {tt:TT} {te:TE} {σ:St} {l:Addr} {xs:List V} {H:Hp} {R:Hp->Prop} (Y:zdS J H xs) (hl:H l=none) (hz:xs.length<=sizeLine) (es:List α) (len:es.length=xs.length)
  (f:α->Bool) (P:Hp->V->α->Prop) (mono:∀ v e H1 H2,Same H1 H2->P H1 v e->P H2 v e) (put:∀ v e H1 ys zs,H1 l=some (.lst ys)->P H1 v e->P (upd H1 l (.lst zs)) v e)
  (ht:∀ (i:Nat) x e H' Q',xs[i]?=some x->es[i]?=some e->Same H H'->Q' (f e) H'->tt (some x::capts σ ix) H' Q')
  (he:∀ (i:Nat) x e H' Q',xs[i]?=some x->es[i]?=some e->f e=true->Same H H'->(∀ v H2,Same H' H2->P H2 v e->Q' v H2)->te (some x::capts σ ix) H' Q')
  (fin:∀ ys H',Same H H'->H' l=some (.lst ys)->LL (P H') ys (es.filter f)->R H') :
  ∃ W:Nat->Nat->List V->Hp->Prop,(∃ m,W 0 m [] (upd H l (.lst [])))/\zh6 ix tt te σ J l R W:=by
 refine ⟨fun i m ys H'=>m=xs.length-i/\i<=xs.length/\LL (P H') ys ((es.take i).filter f)/\Same H H'/\H' l=some (.lst ys),⟨xs.length,by simp,ycy _,by simp;exact .nil,zb hl _,ze⟩,?_⟩
 rintro i m ys H' ⟨rfl,hi,hy,sH,hL⟩
 refine ⟨hL,?_⟩
 by_cases hlt:i<xs.length
 ·have yl:ys.length<=i:=by
   rw[hy.length]
   exact ycz (yat _ _) (by rw[ybc];ac_rfl)
  have eP:es[i]?=some (es[i]'(by ac_rfl)):=yaa (by ac_rfl)
  generalize es[i]'(by ac_rfl)=e at eP
  have tk:es.take (i+1)=es.take i++[e]:=by rw[ybf,eP];rfl
  refine .inr ⟨Y.go i H' sH hlt,by ac_rfl,fun x H2 y=>?_⟩
  obtain ⟨rfl,e2⟩:=Y.yld i H' x H2 sH y
  refine ht i x e _ _ e2 eP sH ?_
  cases b:f e with
  | true =>
   rw[if_pos rfl]
   refine he i x e _ _ e2 eP b sH fun v H3 s3 pv=>?_
   have hL3:=s3 _ _ hL
   refine ⟨hL3,xs.length-(i+1),by ac_rfl,rfl,hlt,?_,zD (sH.trans s3) hl,ze⟩
   rw[tk,yaz,yar b]
   exact ((hy.imp fun v e q=>put v e H3 ys _ hL3 (mono v e _ _ s3 q)).push (put v e H3 ys _ hL3 pv))
  | false =>
   rw[if_neg Bool.false_ne_true]
   refine ⟨xs.length-(i+1),by ac_rfl,rfl,hlt,?_,sH,hL⟩
   rw[tk,yaz,yas (by rw[b];decide)]
   simpa using hy
 ·rw[yau (by ac_rfl)] at hy
  exact .inl ⟨Y.stop i H' sH (by ac_rfl),fin ys H' sH hL hy⟩
theorem isI {P:Program} {w:World} {k:Int} {t:Tok}:(intKind P w).is k (.int k t)=true:=by first | (simp[intKind,Value.isInt];done) | exact beq_self_eq_true _
noncomputable def lkI (l:List (Int × Int)) (k:Int):Option Int:=(l.find? fun p=>p.1=k).map (·.2)
theorem KR.look {r:List (Int × Value)} {l:List (Int × Int)} {k:Int} {v:V} {u:Value} (rv:RelV v u) (h:KR r l):RelV (((lkI l k).map V.int).getD v) ((valueAt r k).getD u):=by
 induction h with
 | nil=>exact rv
 | @cons k' y t r l _ ih =>
  unfold lkI PySem.valueAt at *
  by_cases e:k'=k
  ·rw[yce (by simpa using e),yce (by simpa using e)]
   exact ⟨t,rfl⟩
  ·rw[ycf (by simpa using e),ycf (by simpa using e)]
   exact ih
section
variable {X:Cx} {pins:List (Addr × Obj)} {σ:St} {H:Hp} {s:Shared} {o i e f value:Expr} {pos pos' apos cpos:Pos} {td ty tx tv:TE}
theorem zlS {P:Program} {w:World} {H:Hp} {h:Heap} {d:Addr} {kvs:List (Int × Value)} {l:List (Int × Int)} (lo:(d == sysModules)=false) (hd:h.DictOf (intKind P w) d kvs) (hk:KR kvs l):zad P w H h d (zbn P w d l) :=
 ⟨⟨lo,kvs,hd,hk⟩,(let ⟨o,_,_,e,_⟩:=hd;⟨o,e⟩),fun h1 h2 ⟨lo',kv,x,y⟩ e=>⟨lo',kv,zbM x e,y⟩⟩
def zso (P:Program) (w:World):TE:=fun _ H Q=>∀ p,H p=none->Q (.ref p) (upd H p (zbn P w p []))
theorem zqQ:PE X (.Dict [] [] pos) (zso X.prog X.w):=fun pins s σ H Q I h=>by
 have big:sysModules<s.heap.objs.size:=yde (by decide) (show mainGlobals<s.heap.objs.size from (I.mod.glob.keeps I.bk).lt)
 have new:zad X.prog X.w (upd H s.heap.objs.size (zbn X.prog X.w s.heap.objs.size [])) (s.heap.push { cls:=.type "dict", data:=.dict #[] }) s.heap.objs.size (zbn X.prog X.w s.heap.objs.size []) :=
  zlS (beq_eq_false_iff_ne.mpr (Ne.symm (ycv big))) (Heap.DictOf.new s.heap) .nil
 exact wpAny_Dict_empty ⟨.ref s.heap.objs.size,_,I.laid (t':=s.toks) (fun _ _ q=>ydk _ q) (ycu _) new,rfl,h _ (I.hok.fresh (ycu _))⟩
def ztj (P:Program) (w:World) (td ty tx:TE):TE:=fun σ H Q=>td σ H fun x H1=>∃ (d:Addr) (l:List (Int × Int)),x=.ref d/\H1 d=some (zbn P w d l)/\ty σ H1 fun y H2=>tx σ H2 fun z H3=>∃ (k:Int),y=.int k/\H3 d=some (zbn P w d l)/\Q (((lkI l k).map V.int).getD z) H3
theorem zrS (ho:PE X o td) (he:PE X e ty) (hf:PE X f tx) (hb:attributeBase o "get" X.env (eval o X.env)=eval o X.env:=by rfl)
  (few:((backTo cpos (starEach [e,f] X.env)).all (fun x=>!x.1) && (backToKw cpos (keywordEach [] X.env)).all (fun x=>x.1.isSome)
   && decide (([e,f]:List Expr).length+([]:List Keyword).length+(if ([]:List Keyword).isEmpty then 0 else 1)<30))=true:=by rfl)
  (line:(apos.endLine == cpos.line)=true:=by rfl) (trees:backTo cpos (starEach [e,f] X.env)=[(false,eval e X.env),(false,eval f X.env)]:=by rfl):PE X (.Call (.Attribute o "get" apos) [e,f] [] cpos) (ztj X.prog X.w td ty tx):=by
 intro pins s σ H Q I h
 refine wpAny_Call_method hb few line PySem.F.plainAttrs_dict PySem.F.slot_dict_get PySem.F.type_dict_get (thn (ho pins s σ H _ I h) fun u s1 ⟨x,H1,I1,rx,d,l,ex,hd,q1⟩=>?_)
 subst ex
 obtain rfl:u=Value.ref d:=rx
 obtain ⟨lo,kvs,hD,hk⟩:=(I1.hok d _ hd).1
 refine ⟨hD.typeIs,hD.mapOf.noDict,?_⟩
 rw[trees]
 refine Calls.callWith_builtin rfl (Calls.evalArgs_plain (Calls.spliced_cons (thn (he pins s1 σ H1 _ I1 q1) fun iv s2 ⟨y,H2,I2,ry,q2⟩ =>
  Calls.spliced_cons (thn (hf pins s2 σ H2 _ I2 q2) fun fv s3 ⟨z,H3,I3,rz,k,ek,hd3,q3⟩=>Calls.spliced_nil ?_))))
 subst ek
 obtain ⟨t,rfl⟩:=ry
 obtain ⟨lo3,kvs3,hD3,hk3⟩:=(I3.hok d _ hd3).1
 exact call_meetsIn PySem.F.slot_dict_get hD3.typeIs PySem.F.entry_dict_get (PySem.F.args_dict_get_3 _ _ _) (meets_dict_get_default (intKind X.prog X.w) d isI lo3 fv) ⟨_,hD3.mapOf,_,H3,I3.tok _,hk3.look rz,q3⟩
def ztC (P:Program) (w:World) (td ty tv:TE):TS:=fun D σ H=>tv σ H fun v H1=>td σ H1 fun x H2=>ty σ H2 fun y H3=>∃ (d:Addr) (l:List (Int × Int)) (k n:Int),x=.ref d/\y=.int k/\v=.int n/\H3 d=some (zbn P w d l)/\l.length<=1000/\D.nx σ (upd H3 d (zbn P w d (zai l k n)))
theorem zrY (ho:PE X o td) (hi:PE X i ty) (hv:PE X value tv) (hs:swapsWith value (some (.Subscript o i pos')) pos.line X.env=pure false:=by rfl):PS X (.Assign [.Subscript o i pos'] value pos) (ztC X.prog X.w td ty tv):=by
 intro pins s σ H D I h
 refine wpAny_Assign_Subscript (thn (hv pins s σ H _ I h) fun r s1 ⟨v,H1,I1,rv,q1⟩=>thn (ho pins s1 σ H1 _ I1 q1) fun u s2 ⟨x,H2,I2,rx,q2⟩=>thn (hi pins s2 σ H2 _ I2 q2) fun iv s3 ⟨y,H3,I3,ry,d,l,k,n,ex,ey,ev,hd,hl,q3⟩=>?_) hs
 subst ex ey ev
 obtain rfl:u=Value.ref d:=rx
 obtain ⟨t,rfl⟩:=ry
 obtain ⟨t',rfl⟩:=rv
 obtain ⟨lo,kvs,hD,hk⟩:=(I3.hok d _ hd).1
 have sz:=sizeLine_eq
 refine wpAny_setItem_pairs (knd:=intKind X.prog X.w) (k:=k) (hsz:=by rw[hk.length];ac_rfl) isI hD fun h' hD' hs'=>?_
 have he:∃ q,h'.get? d=some q:=let ⟨q,_,_,hq,_⟩:=hD';⟨q,hq⟩
 exact ⟨σ,_,I3.write (x:=d) (e:=d) (by rw[hd];exact True.intro) (.inl rfl) (fun b q hb z=>(hs'.2 b hb).trans z) he (zlS lo hD' hk.stored),q3⟩
end
section
variable {X:Cx} {m f:Str} {pos apos:Pos} {o e:Expr} {ta:TE} {j k:Nat} {ps:List Str}
theorem zch (K:W.Frag) (he:PE X e ta) (hb:attributeBase e f X.env (eval e X.env)=eval e X.env) (hK:X.K=K:=by rfl):PE X (.Attribute e f pos) (zss K ta f):=by
 subst hK
 exact zdP he hb
theorem zc7 (K:W.Frag) {pl:Sem Bool} {sp:Ek->Sp} (D:∀ k:Ek,zB X.prog X.w X.K X.mg X.base j (cA X.K k.cls) m ps (sp k)) (hc:∀ k:Ek,Cls X.K (cA X.K k.cls)) (hr:Room k X.A) (he:PE X o ta) (hj:j<=k:=by decide)
  (ht:eval (.Call (.Attribute o m apos) [] [] pos) X.env=(do
   let ov <-eval o X.env
   standAt apos.atName
   let (f,first) <-holding [ov] (getMethod ov m pl)
   callWith pos f first (backTo pos (starEach [] X.env)) (backToKw pos (keywordEach [] X.env))):=by rfl) (hK:X.K=K:=by rfl) :
  PE X (.Call (.Attribute o m apos) [] [] pos) (zps K m sp ta zkj):=by
 subst hK
 exact zdU (pl:=pl) D hc hr he hj ht
end
section
variable {X:Cx} {pins:List (Addr × Obj)} {σ:St} {H:Hp} {s:Shared} {o i e f value:Expr} {pos pos' apos cpos:Pos} {td ty tx tv:TE}
end
section
variable {prog:Program} {w:World} {A:Around} {s:Shared} {R:Result->Shared->Prop}
end
section
variable {X:Cx} {pins:List (Addr × Obj)} {σ:St} {H:Hp} {s:Shared}
end
section
variable {X:Cx} {o e f:Expr} {apos cpos:Pos} {td ty tx:TE}
end
section
variable {X:Cx} {e k:Expr} {te:TE} {p2 pos:Pos} {lo hi:Option Expr} {tl th:TO}
end
noncomputable def zbf (P:Program) (w:World) (d:Addr) (l:List (Int × Int)) (ep:Nat):HO:=.ext fun h=>(d == sysModules)=false/\∃ kvs,h.DictAt (intKind P w) d kvs ep/\KR kvs l
section
variable {X:Cx} {pins:List (Addr × Obj)} {σ:St} {H:Hp} {s:Shared} {o i e f value:Expr} {pos pos' apos cpos:Pos} {td ty tx tv:TE}
theorem ziD {P:Program} {w:World} {H:Hp} {h:Heap} {d:Addr} {kvs:List (Int × Value)} {l:List (Int × Int)} {ep:Nat} (lo:(d == sysModules)=false) (hd:h.DictAt (intKind P w) d kvs ep) (hk:KR kvs l):zad P w H h d (zbf P w d l ep) :=
 ⟨⟨lo,kvs,hd,hk⟩,(let ⟨o,_,e,_⟩:=hd;⟨o,e⟩),fun h1 h2 ⟨lo',kv,x,y⟩ e=>⟨lo',kv,Heap.DictAt.at' x e,y⟩⟩
def zs2 (P:Program) (w:World):TE:=fun _ H Q=>∀ p ep,H p=none->Q (.ref p) (upd H p (zbf P w p [] ep))
theorem zqV:PE X (.Dict [] [] pos) (zs2 X.prog X.w):=fun pins s σ H Q I h=>by
 have big:sysModules<s.heap.objs.size:=yde (by decide) (show mainGlobals<s.heap.objs.size from (I.mod.glob.keeps I.bk).lt)
 obtain ⟨ep,hd⟩:=(Heap.DictOf.new (knd:=intKind X.prog X.w) s.heap).dictAt
 have new:zad X.prog X.w (upd H s.heap.objs.size (zbf X.prog X.w s.heap.objs.size [] ep)) (s.heap.push { cls:=.type "dict", data:=.dict #[] }) s.heap.objs.size (zbf X.prog X.w s.heap.objs.size [] ep) :=
  ziD (beq_eq_false_iff_ne.mpr (Ne.symm (ycv big))) hd .nil
 exact wpAny_Dict_empty ⟨.ref s.heap.objs.size,_,I.laid (t':=s.toks) (fun _ _ q=>ydk _ q) (ycu _) new,rfl,h _ _ (I.hok.fresh (ycu _))⟩
def ztn (P:Program) (w:World) (td ty tx:TE):TE:=fun σ H Q=>td σ H fun x H1=>∃ (d:Addr) (l:List (Int × Int)) (ep:Nat),x=.ref d/\H1 d=some (zbf P w d l ep)/\ty σ H1 fun y H2=>tx σ H2 fun z H3=>∃ (k:Int),y=.int k/\H3 d=some (zbf P w d l ep)/\Q (((lkI l k).map V.int).getD z) H3
theorem zsb (ho:PE X o td) (he:PE X e ty) (hf:PE X f tx) (hb:attributeBase o "get" X.env (eval o X.env)=eval o X.env:=by rfl)
  (few:((backTo cpos (starEach [e,f] X.env)).all (fun x=>!x.1) && (backToKw cpos (keywordEach [] X.env)).all (fun x=>x.1.isSome)
   && decide (([e,f]:List Expr).length+([]:List Keyword).length+(if ([]:List Keyword).isEmpty then 0 else 1)<30))=true:=by rfl)
  (line:(apos.endLine == cpos.line)=true:=by rfl) (trees:backTo cpos (starEach [e,f] X.env)=[(false,eval e X.env),(false,eval f X.env)]:=by rfl):PE X (.Call (.Attribute o "get" apos) [e,f] [] cpos) (ztn X.prog X.w td ty tx):=by
 intro pins s σ H Q I h
 refine wpAny_Call_method hb few line PySem.F.plainAttrs_dict PySem.F.slot_dict_get PySem.F.type_dict_get (thn (ho pins s σ H _ I h) fun u s1 ⟨x,H1,I1,rx,d,l,ep,ex,hd,q1⟩=>?_)
 subst ex
 obtain rfl:u=Value.ref d:=rx
 obtain ⟨lo,kvs,hD,hk⟩:=(I1.hok d _ hd).1
 refine ⟨hD.dictOf.typeIs,hD.dictOf.mapOf.noDict,?_⟩
 rw[trees]
 refine Calls.callWith_builtin rfl (Calls.evalArgs_plain (Calls.spliced_cons (thn (he pins s1 σ H1 _ I1 q1) fun iv s2 ⟨y,H2,I2,ry,q2⟩ =>
  Calls.spliced_cons (thn (hf pins s2 σ H2 _ I2 q2) fun fv s3 ⟨z,H3,I3,rz,k,ek,hd3,q3⟩=>Calls.spliced_nil ?_))))
 subst ek
 obtain ⟨t,rfl⟩:=ry
 obtain ⟨lo3,kvs3,hD3,hk3⟩:=(I3.hok d _ hd3).1
 exact call_meetsIn PySem.F.slot_dict_get hD3.dictOf.typeIs PySem.F.entry_dict_get (PySem.F.args_dict_get_3 _ _ _) (meets_dict_get_default (intKind X.prog X.w) d isI lo3 fv) ⟨_,hD3.dictOf.mapOf,_,H3,I3.tok _,hk3.look rz,q3⟩
def ztk (P:Program) (w:World) (td ty tv:TE):TS:=fun D σ H=>tv σ H fun v H1=>td σ H1 fun x H2=>ty σ H2 fun y H3=>∃ (d:Addr) (l:List (Int × Int)) (k n:Int) (ep:Nat),x=.ref d/\y=.int k/\v=.int n/\H3 d=some (zbf P w d l ep)/\l.length<=1000/\∀ ep',D.nx σ (upd H3 d (zbf P w d (zai l k n) ep'))
theorem zrB (ho:PE X o td) (hi:PE X i ty) (hv:PE X value tv) (hs:swapsWith value (some (.Subscript o i pos')) pos.line X.env=pure false:=by rfl):PS X (.Assign [.Subscript o i pos'] value pos) (ztk X.prog X.w td ty tv):=by
 intro pins s σ H D I h
 refine wpAny_Assign_Subscript (thn (hv pins s σ H _ I h) fun r s1 ⟨v,H1,I1,rv,q1⟩=>thn (ho pins s1 σ H1 _ I1 q1) fun u s2 ⟨x,H2,I2,rx,q2⟩=>thn (hi pins s2 σ H2 _ I2 q2) fun iv s3 ⟨y,H3,I3,ry,d,l,k,n,ep,ex,ey,ev,hd,hl,q3⟩=>?_) hs
 subst ex ey ev
 obtain rfl:u=Value.ref d:=rx
 obtain ⟨t,rfl⟩:=ry
 obtain ⟨t',rfl⟩:=rv
 obtain ⟨lo,kvs,hD,hk⟩:=(I3.hok d _ hd).1
 have sz:=sizeLine_eq
 refine wpAny_setItem_pairs (knd:=intKind X.prog X.w) (k:=k) (hsz:=by rw[hk.length];ac_rfl) isI hD.dictOf fun h' hD' hs'=>?_
 obtain ⟨ep',hA'⟩:=hD'.dictAt
 have he:∃ q,h'.get? d=some q:=let ⟨q,_,hq,_⟩:=hA';⟨q,hq⟩
 exact ⟨σ,_,I3.write (x:=d) (e:=d) (by rw[hd];exact True.intro) (.inl rfl) (fun b q hb z=>(hs'.2 b hb).trans z) he (ziD lo hA' hk.stored),q3 ep'⟩
end
theorem KR.zs7 {r:List (Int × Value)} {l:List (Int × Int)} {k n:Int} (h:KR r l) (e:lkI l k=some n):∃ t,valueAt r k=some (.int n t):=by
 induction h with
 | nil=>cases e
 | @cons k' y t r l _ ih =>
  unfold lkI PySem.valueAt at *
  by_cases c:k'=k
  ·rw[yce (by simpa using c)] at e ⊢
   cases e
   exact ⟨t,rfl⟩
  ·rw[ycf (by simpa using c)] at e ⊢
   exact ih e
def zsQ (P:Program) (w:World):R2:=fun x y H Q=>∃ d l ep k n,x=.ref d/\y=.int k/\H d=some (zbf P w d l ep)/\lkI l k=some n/\Q (.int n) H
theorem zp9 {X:Cx}:IxR X (zsQ X.prog X.w):=by
 intro value slice pins s σ H x y v u Q I rx ry h hs
 obtain ⟨d,l,ep,k,n,rfl,rfl,hd,hl,q⟩:=h
 obtain rfl:v=Value.ref d:=rx
 obtain ⟨t,rfl⟩:=ry
 obtain ⟨lo,kvs,hD,hk⟩:=(I.hok d _ hd).1
 obtain ⟨t',e⟩:=hk.zs7 hl
 exact subscriptTail_builtinR (x:=.int n t') hD.dictOf.typeIs slot_dict_getitem.lookup
  (wpAny_getItem_of (Q:=fun r s'=>r=.int n t'/\EP X pins σ Q r s') (knd:=intKind X.prog X.w) (k:=k) isI hD.dictOf.mapOf e ⟨rfl,.int n,H,I.tok _,⟨t',rfl⟩,q⟩) hs
theorem zo7 {X:Cx} (P:Program) (w:World) (hP:X.prog=P:=by rfl) (hw:X.w=w:=by rfl):IxR X (zsQ P w):=by subst hP hw;exact zp9
theorem zrJ {l:List (Int × Int)} (nd:(l.map (·.1)).Nodup) {s:Int × Int} (h:s∈l):lkI l s.1=some s.2:=by
 unfold lkI
 induction l with
 | nil=>cases h
 | cons t l ih =>
  rw[ybt,ybm] at nd
  rcases yak.mp h with rfl | h
  ·rw[yce (by simp)];rfl
  ·have:t.1≠s.1:=fun e=>nd.1 (by rw[e];exact ybv h)
   rw[ycf (by simpa using this)]
   exact ih nd.2 h
theorem KR.key {r:List (Int × Value)} {l:List (Int × Int)} (h:KR r l):∀ {i:Nat} {k:Int} {v:Value},r[i]?=some (k,v)->∃ s,l[i]?=some s/\s.1=k:=by
 induction h with
 | nil=>intro i k v e;simp at e
 | cons _ ih =>
  intro i k v e
  cases i with
  | zero=>cases e;exact ⟨_,rfl,rfl⟩
  | succ i=>exact ih e
theorem zrI {P:Program} {w:World} {kvs:List (Int × Value)} {l:List (Int × Int)} {vs:List Value} (hk:KR kvs l) (len:vs.length=l.length) (h:∀ (j:Nat) (v:Value),vs[j]?=some v->∃ k x,kvs[j]?=some (k,x)/\(intKind P w).is k v=true):IntsAre vs (l.map (·.1)):=by
 have e1:IntsAre vs (vs.map zaB.intOf):=zaB.zjR fun v hv=>by
  obtain ⟨j,hj⟩:=ybq.mp hv
  obtain ⟨k,x,_,e2⟩:=h j v hj
  obtain ⟨t,rfl⟩:=Value.isInt_shape (show Value.isInt k v=true from e2)
  exact ⟨k,t,rfl⟩
 have e2:vs.map zaB.intOf=l.map (·.1):=by
  apply ycc
  intro j
  rw[yam,yam]
  cases e:vs[j]? with
  | none =>
   have:l[j]?=none:=yaq (by have:=List.getElem?_eq_none_iff.mp e;ac_rfl)
   rw[this];rfl
  | some v =>
   obtain ⟨k,x,e3,e4⟩:=h j v e
   obtain ⟨s,e5,e6⟩:=hk.key e3
   obtain ⟨t,rfl⟩:=Value.isInt_shape (show Value.isInt k v=true from e4)
   rw[e5]
   show some k=some s.1
   rw[e6]
 rw[<-e2]
 exact e1
section
variable {X:Cx}
theorem zmz (hc:X.calm=true) (hex:X.ex=[]:=by rfl):zaT X (.builtin "sorted") (fun xs H Q=>∃ (d:Addr) (l:List (Int × Int)) (ep:Nat),xs=[.ref d]/\H d=some (zbf X.prog X.w d l ep)/\l.length<64 /\
  ∀ (q:Addr) (H':Hp) (ns:List Int),H q=none->Same H H'->H' q=some (.lst (ns.map V.int))->ns.Perm (l.map (·.1))->ns.Pairwise (·<=·)->Q (.ref q) H'):=by
 intro pins s σ H xs us Q I r h
 obtain ⟨d,l,ep,rfl,hd,hl,q⟩:=h
 obtain ⟨u,rfl,rx⟩:=vals1 r
 cases rx
 obtain ⟨lo,kvs,hD,hk⟩:=(I.hok d _ hd).1
 have kl:=hk.length
 refine Calls.call_function_entry kind_sorted plain_sorted entry_sorted (args_sorted1 _) ?_
 unfold Builtin.«sorted»
 refine wpAny_bind (m:=checkCount "sorted" 1 1 _) (wpAny_pure ?_)
 refine wpAny_bind (PySem.W.kdu_collect (A:=X.A.in1) (PySem.W.kdl_dict (knd:=intKind X.prog X.w) (kvs:=kvs) (ep:=ep) lo) (I.ok.hd hc) hD (by rw[sizeLine_eq];ac_rfl) fun h1 tk acc kp hacc=>?_)
 have al:acc.toList.length=l.length:=by rw[ydv,hacc.1,kl]
 have vi:IntsAre acc.toList (l.map (·.1)):=zrI hk al fun j v e=>hacc.2 j v (by rw[<-ydy];exact e)
 have vl:acc.toList.length<64:=by ac_rfl
 have sl:acc.toList.length<=sizeLine:=by rw[sizeLine_eq];ac_rfl
 refine wpAny_bind (wpAny_newList ?_ (by first | exact sl | simpa using sl))
 have g0:(h1.push (seqObj "list" acc.toList.toArray 0)).get? h1.objs.size=some (seqObj "list" acc.toList.toArray 0):=ydm _ rfl
 have ol:s.heap.get? h1.objs.size=none:=by
  cases q:s.heap.get? h1.objs.size with
  | none=>rfl
  | some u=>exact absurd (ydl (kp _ _ q)) (yda _)
 show wpAny _ _ _ _ _ { s with heap:=h1.push (seqObj "list" acc.toList.toArray 0),toks:=tk }
 refine wpAny_bind (wpAny_holding (wpAny_call_entry slot_list_sort ⟨_,g0,rfl⟩ entry_list_sort (list_sort_tree g0 vi vl fun out ns' a1 a2 a3=>⟨_,rfl,?_⟩) (args_list_sort _)))
 obtain ⟨n,g1⟩:=sortedHeap_at (out:=out) g0
 refine wpAny_pure ⟨_,rfl,?_⟩
 have keep:∀ b u,s.heap.get? b=some u->(sortedHeap (h1.push (seqObj "list" acc.toList.toArray 0)) h1.objs.size acc.toList out).get? b=some u:=fun b u e=>by
  have e1:=kp b u e
  have lt:=ydl e1
  rw[sortedHeap_old (ycv lt) (by rw[size_push'];exact ydc lt)]
  exact ydk _ e1
 have v2:Vals (ns'.map V.int) out.toList:=zfF a1
 have nl:(ns'.map V.int).length<=sizeLine:=by rw[yab,a2.length_eq,yab,sizeLine_eq];ac_rfl
 exact ⟨.ref h1.objs.size,_,I.ziQ (o:=.lst (ns'.map V.int)) keep ol hex ⟨nl,out.toList,n,v2,by simpa [seqObj] using g1⟩,rfl,q _ _ ns' (I.hok.gone ol) (zb (I.hok.gone ol) _) ze a2 a3⟩
end
section
variable {X:Cx} {pins:List (Addr × Obj)} {σ:St} {H:Hp} {s:Shared}
theorem Inv.retell {d:Addr} {φ:Heap->Prop} {o':HO} (I:Inv X pins σ H s) (hd:H d=some (.ext φ)) (new:zad X.prog X.w (upd H d o') s.heap d o'):Inv X pins σ (upd H d o') s:=by
 have ne:∀ {b:Addr} {u:HO},H b=some u->(∀ ψ,u≠.ext ψ)->b≠d:=fun {b u} e n z=>by rw[z,hd] at e;cases e;exact n _ rfl
 have nn:∀ {b:Addr},H b=none->b≠d:=fun {b} e z=>by rw[z,hd] at e;cases e
 refine I.step (h':=s.heap) (t':=s.toks) (g':=s.gens) (d':=s.drawn) (ch:=[]) (fun _ z=>nomatch z) (fun b o _ _ _ e _=>e) (fun b o _ _ _ e _=>⟨o.slots,e⟩) (fun b o _ _ n=>by rw[zi (nn n)];exact n) (fun b o _ e=>⟨o,e⟩)
  (fun b xs e=>by rw[zi (ne e (by intro _ z;cases z))];exact e) (fun b o u e=>by rw[zi (ne e (by intro _ z;cases z))];exact e) (fun b ps e=>⟨#[],by rw[zi (ne e (by intro _ z;cases z)),e];simp⟩) (fun _ hn=>hn) (fun b u e=>?_) I.bare
 by_cases z:b=d
 ·subst z
  rw[ze] at e
  cases e
  exact new
 ·rw[zi z] at e
  exact (I.hok b u e).stay (fun _ _ _ q=>q) (fun c q=>by rw[zi (ne q (by intro _ z;cases z))];exact q) fun c xs q=>by rw[zi (ne q (by intro _ z;cases z))];exact q
theorem znz (hc:X.calm=true):zaT X (.type "dict") (fun xs H Q=>∃ (p:Addr) (vs:List V) (l:List (Int × Int)),xs=[.ref p]/\H p=some (.lst vs)/\zu X.K H vs l/\l.length<64 /\
  ∀ (d:Addr) (ep:Nat) (H':Hp),H d=none->Same H H'->H' d=some (zbf X.prog X.w d (zcy l) ep)->Q (.ref d) H'):=by
 intro pins s σ H xs us Q I r h
 obtain ⟨p,vs,l,rfl,hp,hR,hl,q⟩:=h
 refine thn (zjE hc pins s σ H _ us (fun v H'=>∃ d,v=.ref d/\H d=none/\Same H H'/\H' d=some (zbn X.prog X.w d (zcy l))) I r ⟨p,vs,l,rfl,hp,hR,hl,fun d H' n sH e=>⟨d,rfl,n,sH,e⟩⟩) fun u s1 ⟨v,H1,I1,rv,d,e1,n,sH,e2⟩=>?_
 subst e1
 obtain ⟨lo,kvs,hD,hk⟩:=(I1.hok d _ e2).1
 obtain ⟨o,es,ep,hD'⟩:=hD
 have hA:s1.heap.DictAt (intKind X.prog X.w) d kvs ep:=⟨o,es,hD'⟩
 exact ⟨.ref d,_,I1.retell e2 (ziD lo hA hk),rv,q d ep _ n (fun b u e=>by rw[zi (fun z=>by rw[z,n] at e;cases e)];exact sH b u e) ze⟩
end
noncomputable def Cx.za1 (X:Cx) (sc:Scope) (x y0 y1:Str) (ix:List Nat) (b:Blk):Cx where
 prog:=X.prog
 w:=X.w
 K:=X.K
 mg:=X.mg
 base:=X.base
 A:=X.A
 N:=x::y0::y1::ix.map fun i=>X.N.getD i x
 s₀:=b.s
 H₀:=b.H
 env:=compEnvC sc (za5 sc X.env) b.C X.env
 outer:=X.stack
 stack:=X.stack
 ex:=b.ex
 fn:=fun _=>false
 calm:=X.calm
 pn:=b.pn
 xe:=fun _ _=>False
structure zgh (X:Cx) (sc:Scope) (x y0 y1:Str) (ix:List Nat):Prop where
 clos:closureFor sc X.env=pure (za5 sc X.env)
 cell:∀ y∈sc.names,y.2≠.cell
 kind:sc.kind=.function
 names:∀ y∈sc.names,y.2=.local->sc.names.lookup y.1=some .local
 var:sc.names.lookup x=some .local
 var2:sc.names.lookup y0=some .local
 var3:sc.names.lookup y1=some .local
 nd:(x::y0::y1::ix.map fun i=>X.N.getD i x).Nodup
 cap:zgm X sc x ix
 sub:zh7 X.env.cells (za5 sc X.env)
 has:zh3 (za5 sc X.env) (relabel sc X.env).names
section
variable {X:Cx} {pins:List (Addr × Obj)} {σ:St} {H:Hp} {s:Shared} {sc:Scope} {x y0 y1:Str} {ix:List Nat} {fp:List Addr}
theorem zpr (I:Inv X pins σ H s) (O:zgh X sc x y0 y1 ix) (hf:∀ b∈fp,zaS X pins H b) (hx:∀ b∈fp,∃ o,s.heap.get? b=some o):(X.za1 sc x y0 y1 ix ⟨s.heap.objs.size,s,H,X.pn++pins,fp⟩).Ok where
 mod:=I.ok.mod
 kind:=O.kind
 glob:=I.ok.glob
 blt:=I.ok.blt
 above:=ycu _
 inj:=fun y z c h1 h2=>I.ok.inj y z c (O.sub.get y c h1) (O.sub.get z c h2)
 has:=fun y h=>by
  have h':(relabel sc X.env).names.lookup y=some .cell\/(relabel sc X.env).names.lookup y=some .free:=h
  rcases h' with h' | h'
  ·exact O.has.get _ (PySem.mem_of_lookup h') (.inl rfl)
  ·exact O.has.get _ (PySem.mem_of_lookup h') (.inr rfl)
 cab:=fun _ _ h=>absurd (show false=true from h) Bool.false_ne_true
 hd:=I.ok.hd
 frames:=I.ok.frames
 stk:=.inl rfl
 exf:=fun b hb=>by
  obtain ⟨o,e⟩:=hx b hb
  exact ⟨ycv (ydl e),fun y c h=>(hf b hb).2.2.2.2.1 y c (O.sub.get y c h)⟩
 bs:=I.bs
 bsz:=ycz I.ok.bsz I.sz
 noex:=fun b o e hb=>by
  rcases (hf b hb).2.2.2.1 with z | z
  ·exact I.ok.noex b o e z
  ·exact absurd (ycw (ydl e) (ycz I.ok.bsz z)) (yda _)
 exfs:=fun b hb z=>(yak.mp (I.zbQ b z)).elim (hf b hb).2.1 (hf b hb).2.2.1
 funs:=I.stack
 frf:=I.zh2
theorem zoz {h₁:Heap} {m:Str->Option Value} {tk:Nat} (I:Inv X pins σ H s) (O:zgh X sc x y0 y1 ix) (hf:∀ b∈fp,zaS X pins H b) (hx:∀ b∈fp,∃ o,s.heap.get? b=some o)
  (hn:h₁.Ns s.heap.objs.size m) (keep:∀ b o,s.heap.get? b=some o->h₁.get? b=some o) :
  Inv (X.za1 sc x y0 y1 ix ⟨s.heap.objs.size,s,H,X.pn++pins,fp⟩) [] (none::none::none::capts σ ix) H { s with heap:=h₁,toks:=tk }:=by
 refine ⟨zpr I O hf hx,rfl,I.bare,Un.kept keep,⟨m,hn,fun i y v e1 e2 _=>?_⟩,fun y c h=>?_,I.hok.fresh (ycu _),fun y c h=>I.freeC y c (O.sub.get y c h),fun p hp=>?_,I.hok.kept keep,?_⟩
 ·cases i with
  | zero=>cases e2
  | succ j' =>
   cases j' with
   | zero=>cases e2
   | succ j'' =>
   cases j'' with
   | zero=>cases e2
   | succ j =>
   have e1':(ix.map fun i=>X.N.getD i x)[j]?=some y:=e1
   have e2':(capts σ ix)[j]?=some (some v):=e2
   unfold capts at e2'
   rw[yam] at e1' e2'
   cases q:ix[j]? with
   | none=>rw[q] at e1';cases e1'
   | some i =>
    rw[q] at e1' e2'
    have e3:X.N.getD i x=y:=Option.some.inj e1'
    have e4:σ.getD i none=some v:=Option.some.inj e2'
    obtain ⟨c1,c2,c3⟩:=O.cap.get i (yah q)
    rw[e3] at c1 c2 c3
    have e5:σ[i]?=some (some v):=by
     rw[yac] at e4
     cases z:σ[i]? with
     | none=>rw[z] at e4;cases e4
     | some a=>rw[z] at e4;exact congrArg some e4
    have hl:i<X.N.length:=by
     rw[<-I.len]
     exact (yad.mp e5).1
    have e6:X.N[i]?=some y:=by
     rw[yac,yaa hl] at e3
     rw[yaa hl]
     exact congrArg some e3
    obtain ⟨m0,_,l0⟩:=I.loc
    have vis:Vis X.env.scope y:=by
     rcases c1 with z | z
     ·exact .inr (.inl z)
     ·exact .inr (.inr z)
    obtain ⟨u,ru,lu⟩:=l0 i y v e6 e5 vis
    refine ⟨u,ru,?_⟩
    rcases lu with ⟨k,_⟩ | ⟨_,c,hc,o,ho,hd⟩
    ·rcases c1 with z | z
     ·rw[z] at k;cases k
     ·rw[z] at k;cases k
    ·exact .inr ⟨c2,c,c3.trans hc,o,keep c o ho,hd⟩
 ·obtain ⟨v,o,ho,hd⟩:=I.cell y c (O.sub.get y c h)
  exact ⟨v,o,keep c o ho,hd⟩
 ·have hp':p∈X.pn++pins:=by
   rcases yal.mp hp with z | z
   ·exact z
   ·cases z
  obtain ⟨e,n,ne,nf,d⟩:=I.pin p hp'
  exact ⟨keep _ _ e,n,ycv (ydl e),fun z=>(yak.mp (I.zbQ _ z)).elim ne nf,d⟩
 ·show (none::none::none::capts σ ix).length=(x::y0::y1::ix.map fun i=>X.N.getD i x).length
  simp[capts]
theorem zns {pins':List (Addr × Obj)} {σ':St} {H':Hp} {s':Shared} (I:Inv X pins σ H s) (hf:∀ b∈fp,zaS X pins H b) (J:Inv (X.za1 sc x y0 y1 ix ⟨s.heap.objs.size,s,H,X.pn++pins,fp⟩) pins' σ' H' s'):Inv X pins σ H' s' :=
 I.call' J.os J.base J.hok J.bare fun b hb=>⟨(hf b hb).2.2.2.1,(hf b hb).2.1,(hf b hb).2.2.2.2.1,(hf b hb).2.2.2.2.2⟩
end
def ziZ (K0:W.Frag) (ix:List Nat) (tt:TT) (te:TE) (σ:St) (J:It) (l:Addr) (R:Hp->Prop) (W:Nat->Nat->List V->Hp->Prop):Prop :=
 ∀ i m xs H',W i m xs H'->H' l=some (.lst xs)/\((J.stop i H'/\R H')\/(J.go i H'/\xs.length<sizeLine/\∀ x H2,J.yld i H' x H2->∃ p v1 v2 v3,x=.ref p/\SqT K0 H2 p [v1,v2,v3] /\
  tt (some v1::some v2::some v3::capts σ ix) H2 fun b H3=>if b=true then te (some v1::some v2::some v3::capts σ ix) H3 fun v H4=>H4 l=some (.lst xs)/\∃ m',m'<m/\W (i+1) m' (xs++[v]) (upd H4 l (.lst (xs++[v]))) else ∃ m',m'<m/\W (i+1) m' xs H3))
def zmH (K0:W.Frag) (ix:List Nat) (wi:TI) (tt:TT) (te:TE):TE:=fun σ H Q=>wi σ H fun J H1=>∀ l,H1 l=none->∃ W:Nat->Nat->List V->Hp->Prop,(∃ m,W 0 m [] (upd H1 l (.lst [])))/\ziZ K0 ix tt te σ J l (Q (.ref l)) W
section
variable {X:Cx} {pins:List (Addr × Obj)} {σ:St} {H:Hp} {s:Shared} {sc:Scope} {x y0 y1:Str} {ix:List Nat} {fp:List Addr} {elt iter c:Expr} {te:TE} {tt:TT} {wi:TI} {px py0 py1 pt0 pos:Pos} {kt0:Nat}
theorem zht {it:Addr} {tn:Nat->Heap->Prop} {J:It} {use:Option (Value->Sem Unit)} {Q:Value->Shared->Prop} {E:Value->Shared->Prop} (O:zgh X sc x y0 y1 ix) (htt:∀ b,PT (X.za1 sc x y0 y1 ix b) c tt) (hel:∀ b,PE (X.za1 sc x y0 y1 ix b) elt te) (hc:X.calm=true)
  (I:Inv X pins σ H s) (T:Turn X.prog X.w X.K (.Tuple [.Name x px,.Name y0 py0,.Name y1 py1] kt0 pt0) J fp it tn) (st:tn 0 s.heap) (hf:∀ b∈fp,zaS X pins H b) (R:Addr->Hp->Prop)
  (h:∀ l,H l=none->∃ W:Nat->Nat->List V->Hp->Prop,(∃ m,W 0 m [] (upd H l (.lst [])))/\ziZ X.K ix tt te σ J l (R l) W)
  (fin:∀ l C m s' H',Inv X pins σ H' s'->s'.heap.Ns C m->zaS X pins H' C->R l H'->compPost (model X.prog X.w) X.A E use Q (.ref l) C (.ok .next) s') :
  wpAny (model X.prog X.w) X.A (newList []) (fun acc s₃=>wpAny (model X.prog X.w) X.A (newFunctionEnv sc X.env.globals (za5 sc X.env) [] X.env.qual none .none (some X.env)) (fun cenv s₄ =>
   codeAny (model X.prog X.w) X.A (.compStart (.ListComp elt [⟨.Tuple [.Name x px,.Name y0 py0,.Name y1 py1] kt0 pt0,iter,[c],0⟩] sc pos) 0 (.ref it) acc { cenv with scope:=relabel sc X.env }) (compPost (model X.prog X.w) X.A E use Q acc cenv.locals) s₄) E s₃) E s:=by
 refine wpAny_newObj_type (wpAny_newFunctionEnv O.cell (by intro y hy;simp at hy) (fun h₁ hns hsb=>?_) O.kind)
 dsimp only at hns hsb ⊢
 have hl0:H s.heap.objs.size=none:=I.hok.fresh (ycu _)
 obtain ⟨W,⟨m0,w0⟩,tr⟩:=h s.heap.objs.size hl0
 have I3:Inv X pins σ (upd H s.heap.objs.size (.lst [])) { s with heap:=s.heap.push { cls:=.type "list", dict:=none,data:=.seq ([]:List Value).toArray } } :=
  I.laid (t':=s.toks) (fun b o e=>ydk _ e) (ycu _) ⟨ycy _,[],0,.nil,ydm _ rfl⟩
 have ofp:∀ b∈fp,∃ o,s.heap.get? b=some o:=fun b hb=>by
  obtain ⟨o,e,_⟩:=T.obj 0 _ st b hb
  exact ⟨o,e⟩
 generalize e3:s.heap.push { cls:=.type "list", dict:=none,data:=.seq ([]:List Value).toArray }=G at I3 hns hsb ⊢
 have ofp3:∀ b∈fp,∃ o,G.get? b=some o:=fun b hb=>by
  obtain ⟨o,e⟩:=ofp b hb
  exact ⟨o,by rw[<-e3];exact ydk _ e⟩
 have nl:∀ b∈fp,b≠s.heap.objs.size:=fun b hb=>by
  obtain ⟨o,e⟩:=ofp b hb
  exact ycv (ydl e)
 have hf3:∀ b∈fp,zaS X pins (upd H s.heap.objs.size (.lst [])) b:=fun b hb=>⟨by rw[zi (nl b hb)];exact (hf b hb).1,(hf b hb).2⟩
 have keep3:∀ b o,G.get? b=some o->h₁.get? b=some o:=fun b o e=>hsb.extBut b o (ycv (ydl e)) (ydk _ e)
 have stk:tn 0 h₁:=T.keep _ _ _ st fun b hb o e=>keep3 b o (by rw[<-e3];exact ydk _ e)
 have J0:=zoz (tk:=s.toks+([]:List (Str × Value)).length) I3 O hf3 ofp3 hns keep3
 have stat:∀ {H':Hp},(∀ b∈fp,H' b=none)->∀ b∈fp,zaS (X.za1 sc x y0 y1 ix ⟨G.objs.size,{ s with heap:=G },upd H s.heap.objs.size (.lst []),X.pn++pins,fp⟩) [] H' b:=fun hn b hb=>by
  obtain ⟨o,e⟩:=ofp3 b hb
  refine ⟨hn b hb,ycv (ydl e),fun z=>(yak.mp (I3.zbQ _ z)).elim (hf b hb).2.1 (hf b hb).2.2.1,.inl hb,fun y c q=>(hf b hb).2.2.2.2.1 y c (O.sub.get y c q),fun p hp=>?_⟩
  have hp':p∈X.pn++pins:=by
   rcases yal.mp hp with z | z
   ·exact z
   ·cases z
  exact (hf b hb).2.2.2.2.2 p hp'
 have loop:∀ s4:Shared,s4={ s with heap:=h₁,toks:=s.toks+([]:List (Str × Value)).length } ->
   codeAny (model X.prog X.w) X.A (.compLoop (.ListComp elt [⟨.Tuple [.Name x px,.Name y0 py0,.Name y1 py1] kt0 pt0,iter,[c],0⟩] sc pos) 0 (.ref it) (.ref s.heap.objs.size) (compEnvC sc (za5 sc X.env) G.objs.size X.env))
    (compPost (model X.prog X.w) X.A E use Q (.ref s.heap.objs.size) G.objs.size) s4:=by
  rintro s4 rfl
  refine zhM (fun n s'=>∃ i xs H' z z' z'',Inv (X.za1 sc x y0 y1 ix ⟨G.objs.size,{ s with heap:=G },upd H s.heap.objs.size (.lst []),X.pn++pins,fp⟩) [] (z::z'::z''::capts σ ix) H' s'/\tn i s'.heap/\(∀ b∈fp,H' b=none)/\W i n xs H') ?_ m0
   ⟨0,[],_,none,none,none,J0,stk,fun b hb=>(hf3 b hb).1,w0⟩
  rintro n s5 ⟨i,xs,H5,z,z',z'',I5,st5,fr5,w5⟩
  obtain ⟨hl5,h5⟩:=tr i n xs H5 w5
  rcases h5 with ⟨stop,r5⟩ | ⟨go,hz,step⟩
  ·refine thn (T.done (X.za1 sc x y0 y1 ix ⟨G.objs.size,{ s with heap:=G },upd H s.heap.objs.size (.lst []),X.pn++pins,fp⟩) rfl rfl rfl hc i [] s5 _ H5 _ I5 (stat fr5) st5 stop) fun r s6 ⟨hr,I6⟩=>?_
   subst hr
   obtain ⟨m6,hn6,_⟩:=I6.loc
   refine fin _ _ m6 s6 H5 (zns I3 hf3 I6) hn6 ?_ r5
   exact I3.zj9 (ycu _) I6.free
  ·refine thn (T.item (X.za1 sc x y0 y1 ix ⟨G.objs.size,{ s with heap:=G },upd H s.heap.objs.size (.lst []),X.pn++pins,fp⟩) rfl rfl rfl hc i [] s5 _ H5 _ I5 (stat fr5) st5 go) fun r s6 ⟨u,hr,h6⟩=>?_
   subst hr
   refine thn h6 fun _ s7 ⟨y,H7,I7,r7,y7,st7,fr7⟩=>?_
   have I7':=I7.pinned (stat fr7) (T.obj _ _ st7)
   have lx:(relabel sc X.env).names.lookup x=some .local:=lookup_relabel_local O.var
   have ly:(relabel sc X.env).names.lookup y0=some .local:=lookup_relabel_local O.var2
   have lz:(relabel sc X.env).names.lookup y1=some .local:=lookup_relabel_local O.var3
   obtain ⟨tp,v1,v2,v3,ey,hT,step⟩:=step y H7 y7
   refine thn ((zgA hc (zap (zO (i:=0) O.nd rfl (Or.inl lx) (Or.inr lx)) (zap (zO (i:=1) O.nd rfl (Or.inl ly) (Or.inr ly)) (zap (zO (i:=2) O.nd rfl (Or.inl lz) (Or.inr lz)) zez))):PG (X.za1 sc x y0 y1 ix ⟨G.objs.size,{ s with heap:=G },upd H s.heap.objs.size (.lst []),X.pn++pins,fp⟩) (.Tuple [.Name x px,.Name y0 py0,.Name y1 py1] kt0 pt0) (zsl X.K 3 (zln (zb4 0) (zln (zb4 1) (zln (zb4 2) zsC))))) _ s7 _ H7 y u (fun σ' H'=>σ'=some v1::some v2::some v3::capts σ ix/\H'=H7) I7' r7 ⟨tp,[v1,v2,v3],ey,hT,rfl,_,_,rfl,_,_,rfl,_,_,rfl,rfl,rfl,rfl⟩) fun _ s8 ⟨σ8,H8,I8,e8,e8'⟩=>?_
   subst e8 e8'
   refine thn (htt _ _ s8 _ H8 _ I8 step) fun b s9 ⟨H9,I9,q9⟩=>?_
   have kp:∀ {σ0:St} {H0:Hp} {s0:Shared},Inv (X.za1 sc x y0 y1 ix ⟨G.objs.size,{ s with heap:=G },upd H s.heap.objs.size (.lst []),X.pn++pins,fp⟩) ([]++zgs fp s7.heap) σ0 H0 s0->tn (i+1) s0.heap/\∀ b∈fp,H0 b=none:=fun {σ0 H0 s0} I0=>by
    refine ⟨T.keep _ _ _ st7 fun b hb o e=>(I0.pin (b,o) (yag _ (yag _ (zbh hb e)))).1,fun b hb=>?_⟩
    obtain ⟨o,e,d⟩:=T.obj _ _ st7 b hb
    exact (I0.pin (b,o) (yag _ (yag _ (zbh hb e)))).2.1
   cases b with
   | false =>
    rw[if_neg Bool.false_ne_true] at q9 ⊢
    obtain ⟨m',hm,w9⟩:=q9
    exact ⟨m',hm,i+1,xs,_,some v1,some v2,some v3,I9.unpinned,(kp I9).1,(kp I9).2,w9⟩
   | true =>
    rw[if_pos rfl] at q9 ⊢
    refine thn (hel _ _ s9 _ H9 _ I9 q9) fun v9 s10 ⟨v,H10,I10,r10,hl10,m',hm,w10⟩=>?_
    refine thn (zaD _ s10 _ H10 (.ref s.heap.objs.size) [v] (.ref s.heap.objs.size) [v9] (fun _ H'=>H'=upd H10 s.heap.objs.size (.lst (xs++[v]))) I10 rfl (.cons r10 .nil) ⟨_,xs,v,rfl,rfl,hl10,hz,rfl⟩) fun _ s11 ⟨_,H11,I11,_,e11⟩=>?_
    subst e11
    exact ⟨m',hm,i+1,xs++[v],_,some v1,some v2,some v3,I11.unpinned,(kp I11).1,(kp I11).2,w10⟩
 exact codeAny_compStart_list (loop _ rfl) (T.self _ 0 _ _ _ stk (loop _ rfl))
theorem zel (O:zgh X sc x y0 y1 ix) (hi:PI X (.Tuple [.Name x px,.Name y0 py0,.Name y1 py1] kt0 pt0) iter wi) (htt:∀ b,PT (X.za1 sc x y0 y1 ix b) c tt) (hel:∀ b,PE (X.za1 sc x y0 y1 ix b) elt te) (hc:X.calm=true:=by rfl) (hs:∀ v,foldedSetIterable iter X.env v=pure v:=by intro _;rfl) :
  PE X (.ListComp elt [⟨.Tuple [.Name x px,.Name y0 py0,.Name y1 py1] kt0 pt0,iter,[c],0⟩] sc pos) (zmH X.K ix wi tt te):=by
 intro pins s σ H Q I h
 rw[eval_ListComp]
 refine wpAny_comprehension_free (use:=none) rfl hs O.clos O.kind O.names (thn (hi pins s σ H _ I h) fun xv s1 h1=>thn h1 fun itv s2 h2=>?_)
 obtain ⟨it,fp,tn,J,H2,e,I2,T,st2,f2,hq⟩:=h2
 subst e
 refine zht O htt hel hc I2 T st2 f2 (fun l H'=>Q (.ref l) H') hq ?_
 intro l C m s' H' I' hn hf r
 refine ⟨m,hn,fun h' hb=>⟨.ref l,H',?_,rfl,r⟩⟩
 exact I'.turned (t':=s'.toks) (fun b o hne e=>hb.extBut b o hne e) hf.1 hf.2.1 hf.2.2.2.1 hf.2.2.2.2.1 hf.2.2.2.2.2
theorem zoD {y:Str} {i:Nat} {py spos:Pos} (hN:X.N.Nodup) (hiy:X.N[i]?=some y) (hy:X.env.scope.names.lookup y=some .local) (O:zgh X sc x y0 y1 ix) (hi:PI X (.Tuple [.Name x px,.Name y0 py0,.Name y1 py1] kt0 pt0) iter wi) (htt:∀ b,PT (X.za1 sc x y0 y1 ix b) c tt) (hel:∀ b,PE (X.za1 sc x y0 y1 ix b) elt te)
  (hc:X.calm=true:=by rfl) (hs:∀ v,foldedSetIterable iter X.env v=pure v:=by intro _;rfl) (hsw:swapsWith (.ListComp elt [⟨.Tuple [.Name x px,.Name y0 py0,.Name y1 py1] kt0 pt0,iter,[c],0⟩] sc pos) (some (.Name y py)) spos.line X.env=pure true:=by rfl) :
  PS X (.Assign [.Name y py] (.ListComp elt [⟨.Tuple [.Name x px,.Name y0 py0,.Name y1 py1] kt0 pt0,iter,[c],0⟩] sc pos) spos) (zlU (zmH X.K ix wi tt te) (zb4 i)):=by
 intro pins s σ H D I h
 rw[exec_Assign_Name_used _ _ _ _ hsw]
 refine wpAny_bind (wpAny_standAt (wpAny_bind ?_))
 show wpAny _ X.A (do let _ <-comprehension (.ListComp elt [⟨.Tuple [.Name x px,.Name y0 py0,.Name y1 py1] kt0 pt0,iter,[c],0⟩] sc pos) sc X.env _ (newList []) false (eval iter X.env) (some (assign (.Name y py) X.env))) _ _ s
 refine wpAny_bind (wpAny_mono (wpAny_comprehension_free (use:=some (assign (.Name y py) X.env)) (Q:=fun _ s'=>SP X pins D .next s') rfl hs O.clos O.kind O.names
  (thn (hi pins s σ H _ I h) fun xv s1 h1=>thn h1 fun itv s2 h2=>?_)) (fun _ s' hq=>wpAny_pure (wpAny_pure hq)) fun _ _ e=>e)
 obtain ⟨it,fp,tn,J,H2,e,I2,T,st2,f2,hq⟩:=h2
 subst e
 refine zht O htt hel hc I2 T st2 f2 (fun l H'=>D.nx (σ.set i (some (.ref l))) H') hq ?_
 intro l C m s' H' I' hn hf r
 obtain ⟨o,es,ep,ho,hd,hr⟩:=id hn
 have Ip:=I'.addpin ho hf.1 hf.2.1 hf.2.2.1 (by intro v z;rw[hd] at z;cases z)
 refine thn ((zO (i:=i) hN hiy (Or.inl hy) (Or.inr hy):PG X (.Name y py) (zb4 i)) _ s' σ H' (.ref l) (.ref l) (fun σ' H''=>σ'=σ.set i (some (.ref l))/\H''=H') Ip rfl ⟨rfl,rfl⟩) fun _ s'' ⟨σ'',H'',I'',e1,e2⟩=>?_
 subst e1 e2
 have pc:=(I''.pin (C,o) (yag _ (yag _ yai))).1
 refine ⟨m,⟨o,es,ep,pc,hd,hr⟩,fun h' hb=>⟨_,_,?_,r⟩⟩
 exact I''.unpinned.turned (t':=s''.toks) (fun b o hne e=>hb.extBut b o hne e) hf.1 hf.2.1 hf.2.2.2.1 hf.2.2.2.2.1 hf.2.2.2.2.2
end
theorem zdR {α:Type} {K0:W.Frag} {J:It} {ix:List Nat} {tt:TT} {te:TE} {σ:St} {l:Addr} {xs:List V} {H:Hp} {R:Hp->Prop} (Y:zdS J H xs) (hl:H l=none) (hz:xs.length<=sizeLine) (es:List α) (len:es.length=xs.length)
  (pr:α->V × V × V) (items:∀ (i:Nat) x e,xs[i]?=some x->es[i]?=some e->∃ p,x=.ref p/\H p=some (.tup [(pr e).1,(pr e).2.1,(pr e).2.2]))
  (f:α->Bool) (P:Hp->V->α->Prop) (mono:∀ v e H1 H2,Same H1 H2->P H1 v e->P H2 v e) (put:∀ v e H1 ys zs,H1 l=some (.lst ys)->P H1 v e->P (upd H1 l (.lst zs)) v e)
  (ht:∀ e H' Q',e∈es->Same H H'->(∀ H2,Same H' H2->Q' (f e) H2)->tt (some (pr e).1::some (pr e).2.1::some (pr e).2.2::capts σ ix) H' Q')
  (he:∀ e H' Q',e∈es->f e=true->Same H H'->(∀ v H2,Same H' H2->P H2 v e->Q' v H2)->te (some (pr e).1::some (pr e).2.1::some (pr e).2.2::capts σ ix) H' Q')
  (fin:∀ ys H',Same H H'->H' l=some (.lst ys)->LL (P H') ys (es.filter f)->R H') :
  ∃ W:Nat->Nat->List V->Hp->Prop,(∃ m,W 0 m [] (upd H l (.lst [])))/\ziZ K0 ix tt te σ J l R W:=by
 refine ⟨fun i m ys H'=>m=xs.length-i/\i<=xs.length/\LL (P H') ys ((es.take i).filter f)/\Same H H'/\H' l=some (.lst ys),⟨xs.length,by simp,ycy _,by simp;exact .nil,zb hl _,ze⟩,?_⟩
 rintro i m ys H' ⟨rfl,hi,hy,sH,hL⟩
 refine ⟨hL,?_⟩
 by_cases hlt:i<xs.length
 ·have yl:ys.length<=i:=by
   rw[hy.length]
   exact ycz (yat _ _) (by rw[ybc];ac_rfl)
  have eP:es[i]?=some (es[i]'(by ac_rfl)):=yaa (by ac_rfl)
  generalize es[i]'(by ac_rfl)=e at eP
  have em:e∈es:=yah eP
  have tk:es.take (i+1)=es.take i++[e]:=by rw[ybf,eP];rfl
  refine .inr ⟨Y.go i H' sH hlt,by ac_rfl,fun x H2 y=>?_⟩
  obtain ⟨rfl,e2⟩:=Y.yld i H' x H2 sH y
  obtain ⟨p,rfl,hp⟩:=items i x e e2 eP
  refine ⟨p,_,_,_,rfl,SqT.of (sH _ _ hp),?_⟩
  refine ht e _ _ em sH fun H3 s3=>?_
  cases b:f e with
  | true =>
   rw[if_pos rfl]
   refine he e _ _ em b (sH.trans s3) fun v H4 s4 pv=>?_
   have hL4:=s4 _ _ (s3 _ _ hL)
   refine ⟨hL4,xs.length-(i+1),by ac_rfl,rfl,hlt,?_,zD (sH.trans (s3.trans s4)) hl,ze⟩
   rw[tk,yaz,yar b]
   exact ((hy.imp fun v e q=>put v e H4 ys _ hL4 (mono v e _ _ (s3.trans s4) q)).push (put v e H4 ys _ hL4 pv))
  | false =>
   rw[if_neg Bool.false_ne_true]
   refine ⟨xs.length-(i+1),by ac_rfl,rfl,hlt,?_,sH.trans s3,s3 _ _ hL⟩
   rw[tk,yaz,yas (by rw[b];decide)]
   simpa using hy.imp fun v e q=>mono v e _ _ s3 q
 ·rw[yau (by ac_rfl)] at hy
  exact .inl ⟨Y.stop i H' sH (by ac_rfl),fin ys H' sH hL hy⟩
end L2
namespace Sby
open L2
noncomputable abbrev Pl:=List (Int × Int)
noncomputable def sm (l:Pl) (k:Int):Int:=((l.filter fun p=>p.1=k).map (·.2)).sum
theorem znU (l:Pl) (k x j:Int):sm (l++[(k,x)]) j=sm l j+if k=j then x else 0:=by
 unfold sm
 rw[yaz,yba,List.sum_append]
 by_cases e:k=j
 ·rw[if_pos e,yar (by simpa using e)];simp
 ·rw[if_neg e,yas (by simpa using e)];simp
theorem zrH {l:Pl} {k:Int} (h:k ∉ l.map (·.1)):sm l k=0:=by
 unfold sm
 rw[ycj.mpr]
 ·rfl
 ·intro p hp e
  exact h (yao.mpr ⟨p,hp,by simpa using e⟩)
theorem zqP {a b:List Int} (h:a.Perm b):a.sum=b.sum:=by
 induction h with
 | nil=>rfl
 | cons x _ ih=>rw[ycl,ycl,ih]
 | swap x y l=>rw[ycl,ycl,ycl,ycl];ac_rfl
 | trans _ _ i1 i2=>exact i1.trans i2
theorem zrn {l r:Pl} (h:l.Perm r) (k:Int):sm l k=sm r k:=by
 unfold sm
 exact zqP ((h.filter _).map _)
structure Tot (acc l:Pl):Prop where
 nd:(acc.map (·.1)).Nodup
 mem:∀ k,k∈acc.map (·.1)↔k∈l.map (·.1)
 val:∀ p∈acc,p.2=sm l p.1
theorem Tot.nil:Tot [] []:=⟨.nil,fun k=>Iff.rfl,fun p hp=>by cases hp⟩
theorem Tot.look {acc l:Pl} (T:Tot acc l) (k:Int):((lkI acc k).map V.int).getD (.int 0)=.int (sm l k):=by
 unfold lkI
 cases e:acc.find? (fun p=>p.1=k) with
 | none =>
  have:k ∉ acc.map (·.1):=fun hm=>by
   obtain ⟨p,hp,ep⟩:=yao.mp hm
   have:=List.find?_eq_none.mp e p hp
   exact this (by simpa using ep)
  rw[zrH (fun z=>this ((T.mem k).mpr z))]
  rfl
 | some p =>
  have hp:=List.mem_of_find?_eq_some e
  have ep:p.1=k:=by simpa using List.find?_some e
  have:=T.val p hp
  rw[ep] at this
  rw[<-this]
  rfl
theorem Tot.step {acc l:Pl} (T:Tot acc l) (k x:Int):Tot (zai acc k (sm l k+x)) (l++[(k,x)]):=by
 have keys:∀ y:Int,(acc.map (fun p=>if p.1=k then (p.1,y) else p)).map (·.1)=acc.map (·.1):=fun y=>by
  rw[ybg]
  apply ybo
  intro p _
  show (if p.1=k then (p.1,y) else p).1=p.1
  split <;> rfl
 have lk:∀ j,j∈(l++[(k,x)]).map (·.1)↔j∈l.map (·.1)\/j=k:=fun j=>by simp[eq_comm]
 unfold zai
 split
 ·rename_i ha
  have hk:k∈acc.map (·.1):=by
   obtain ⟨p,hp,e⟩:=ycr.mp ha
   exact yao.mpr ⟨p,hp,by simpa using e⟩
  refine ⟨by rw[keys];exact T.nd,fun j=>?_,fun p hp=>?_⟩
  ·rw[keys,lk,T.mem]
   refine ⟨.inl,fun h=>h.elim id fun e=>?_⟩
   rw[e];exact (T.mem k).mp hk
  ·obtain ⟨q,hq,rfl⟩:=yao.mp hp
   have v:=T.val q hq
   rw[znU]
   by_cases e:q.1=k
   ·rw[if_pos e]
    show sm l k+x=sm l q.1+if k=q.1 then x else 0
    rw[if_pos e.symm,e]
   ·rw[if_neg e,if_neg (fun z=>e z.symm),v]
    ac_rfl
 ·rename_i ha
  have hk:k ∉ acc.map (·.1):=fun hm=>by
   obtain ⟨p,hp,e⟩:=yao.mp hm
   exact ha (ycr.mpr ⟨p,hp,by simpa using e⟩)
  refine ⟨?_,fun j=>?_,fun p hp=>?_⟩
  ·rw[yba]
   refine List.nodup_append.mpr ⟨T.nd,by simp,?_⟩
   intro a ha' b hb
   have:b=k:=by simpa using hb
   intro z
   rw[z,this] at ha'
   exact hk ha'
  ·rw[lk,yba,yal,T.mem]
   simp
  ·rw[znU]
   rcases yal.mp hp with hp | hp
   ·have ne:k≠p.1:=fun z=>hk (by rw[z];exact yao.mpr ⟨p,hp,rfl⟩)
    rw[if_neg ne,T.val p hp]
    ac_rfl
   ·obtain rfl:p=(k,sm l k+x):=by simpa using hp
    rw[if_pos rfl]
structure Tab (r l:Pl):Prop where
 up:(r.map (·.1)).Pairwise (·<·)
 mem:∀ k,k∈r.map (·.1)↔k∈l.map (·.1)
 val:∀ p∈r,p.2=sm l p.1
theorem zoa {ns:List Int} (nd:ns.Nodup) (up:ns.Pairwise (·<=·)):ns.Pairwise (·<·):=by
 induction ns with
 | nil=>exact .nil
 | cons n ns ih =>
  obtain ⟨n1,n2⟩:=ybl.mp nd
  obtain ⟨u1,u2⟩:=ybl.mp up
  refine ybl.mpr ⟨fun a ha=>?_,ih n2 u2⟩
  have:=u1 a ha
  have:=n1 a ha
  ac_rfl
theorem zjw {ns:List Int} (up:ns.Pairwise (·<·)):ns.Nodup:=up.imp fun h=>by ac_rfl
theorem zhP {as bs:List Int} (ha:as.Pairwise (·<·)) (hb:bs.Pairwise (·<·)) (h:∀ d,d∈as↔d∈bs):as=bs:=by
 induction as generalizing bs with
 | nil =>
  cases bs with
  | nil=>rfl
  | cons b bs=>exact absurd ((h b).mpr yai) (by simp)
 | cons a as ih =>
  cases bs with
  | nil=>exact absurd ((h a).mp yai) (by simp)
  | cons b bs =>
   obtain ⟨a1,a2⟩:=ybl.mp ha
   obtain ⟨b1,b2⟩:=ybl.mp hb
   have e:a=b:=by
    rcases yak.mp ((h a).mp yai) with e | e
    ·exact e
    ·rcases yak.mp ((h b).mpr yai) with e2 | e2
     ·exact e2.symm
     ·have:=b1 a e;have:=a1 b e2;ac_rfl
   subst e
   rw[ih a2 b2 fun d=>?_]
   constructor
   ·intro hd
    rcases yak.mp ((h d).mp (yaj _ hd)) with e | e
    ·have:=a1 d hd;ac_rfl
    ·exact e
   ·intro hd
    rcases yak.mp ((h d).mpr (yaj _ hd)) with e | e
    ·have:=b1 d hd;ac_rfl
    ·exact e
theorem Tot.tab {acc l r:Pl} (T:Tot acc l) (P:r.Perm acc) (S:r.Pairwise fun s t=>s.1<=t.1):Tab r l:=by
 have pk:=P.map (·.1)
 refine ⟨zoa (pk.nodup_iff.mpr T.nd) (ycm.mpr S),fun k=>(pk.mem_iff).trans (T.mem k),fun p hp=>T.val p (P.mem_iff.mp hp)⟩
theorem Tab.eq {r r' l l':Pl} (T:Tab r l) (T':Tab r' l') (P:l.Perm l'):r=r':=by
 have e:=zhP T.up T'.up fun d=>(T.mem d).trans (((P.map (·.1)).mem_iff).trans (T'.mem d).symm)
 have f:∀ {r l:Pl},Tab r l->r=(r.map (·.1)).map fun d=>(d,sm l d):=fun {r l} T=>by
  rw[ybg]
  conv=>lhs;rw[<-List.map_id r]
  apply ybo
  intro p hp
  show p=(p.1,sm l p.1)
  rw[<-T.val p hp]
 rw[f T,f T',e]
 apply ybo
 intro d _
 rw[zrn P]
end Sby
namespace L2
open PySem
noncomputable abbrev Er:=Ek × Int × Int
def isW (w:Str) (e:Er):Bool:=decide (V.str e.1.word=V.str w)
noncomputable def prs (w:Str) (es:List Er):List (Int × Int):=(es.filter (isW w)).map (·.2)
noncomputable def dys (w:Str) (es:List Er):List Int:=(es.filter (isW w)).map (·.2.1)
noncomputable def EL (K:W.Frag) (H:Hp):List V->List Er->Prop:=LL fun v e=>∃ a dx,v=.ref a/\zZ K H a dx e.1 e.2.1 e.2.2
theorem EL.same {K:W.Frag} {H H':Hp} {vs:List V} {es:List Er} (h:EL K H vs es) (s:Same H H'):EL K H' vs es:=LL.imp (fun v e ⟨a,dx,e1,e2⟩=>⟨a,dx,e1,s _ _ e2⟩) h
def AmW (w:Str):Prop:=w = "out" \/ w = "fee" \/ w = "pay" \/ w = "due"
theorem amt {w:Str} {k:Ek} {d x:Int} (hw:AmW w) (h:isW w (k,d,x)=true):ybx ("amount" : Str) (ziX k d x)=some (V.int x)/\atI (zhA k d x) 2=some (.int x):=by
 have e:k.word=w:=V.str.inj (of_decide_eq_true h)
 subst e
 rcases hw with hw | hw | hw | hw <;> (cases k <;> first | exact ⟨rfl,rfl⟩ | (exfalso;revert hw;decide))
theorem zko {K:W.Frag} {H:Hp} {ys:List V} {gs:List Er} (h:LL (fun v e=>∃ t,v=.ref t/\H t=some (.tup [.int e.2.1,.int e.2.2])) ys gs):zu K H ys (gs.map (·.2)):=by
 induction h with
 | nil=>exact .nil
 | cons h _ ih =>
  obtain ⟨t,rfl,ht⟩:=h
  exact .cons ht ih
structure Days (ns ds:List Int):Prop where
 up:ns.Pairwise (·<·)
 mem:∀ d,d∈ns↔d∈ds
theorem Days.eq {ns ms as bs:List Int} (h:Days ns as) (k:Days ms bs) (p:as.Perm bs):ns=ms:=Sby.zhP h.up k.up fun d=>(h.mem d).trans (p.mem_iff.trans (k.mem d).symm)
theorem Days.of {ns ms ds:List Int} (nd:ms.Nodup) (mem:∀ d,d∈ms↔d∈ds) (pm:ns.Perm ms) (up:ns.Pairwise (·<=·)):Days ns ds:=⟨Sby.zoa (pm.nodup_iff.mpr nd) up,fun d=>pm.mem_iff.trans (mem d)⟩
theorem zrR {es:List Er} {w:Str}:(dys w es).length<=es.length:=by
 unfold dys
 rw[yab]
 exact yat _ _
end L2
namespace L2
open PySem
theorem zoY {a b:Int} {r:Int} (h0:0<=r) (h1:r<2):∃ m,atI [V.int a,.int b] r=some (.int m)/\(m=a\/m=b):=by
 have:r=((0:Nat):Int)\/r=((1:Nat):Int):=by ac_rfl
 rcases this with rfl | rfl
 ·exact ⟨a,zbL rfl,.inl rfl⟩
 ·exact ⟨b,zbL rfl,.inr rfl⟩
end L2
namespace L2
open PySem
theorem zl7 {a b c:Int} {r:Int} (h0:0<=r) (h1:r<3):∃ m,atI [V.int a,.int b,.int c] r=some (.int m)/\(m=a\/m=b\/m=c):=by
 have:r=((0:Nat):Int)\/r=((1:Nat):Int)\/r=((2:Nat):Int):=by ac_rfl
 rcases this with rfl | rfl | rfl
 ·exact ⟨a,zbL rfl,.inl rfl⟩
 ·exact ⟨b,zbL rfl,.inr (.inl rfl)⟩
 ·exact ⟨c,zbL rfl,.inr (.inr rfl)⟩
end L2
namespace L2
open PySem
end L2
namespace L2
open PySem
end L2
namespace L2
open PySem
theorem LL.of {α:Type} {R:V->α->Prop}:∀ {vs:List V} {es:List α},vs.length=es.length->(∀ (j:Nat) v,vs[j]?=some v->∃ e,es[j]?=some e/\R v e)->LL R vs es
 | [],[],_,_=>.nil
 | [],_::_,h,_=>by simp at h
 | _::_,[],h,_=>by simp at h
 | v::vs,e::es,h,p=>by
  obtain ⟨e',he,hr⟩:=p 0 v rfl
  cases he
  exact .cons hr (LL.of (by simpa using h) fun j w hw=>p (j+1) w hw)
end L2
namespace Spans
noncomputable abbrev Sp:=List (Int × Int)
def Cov (l:Sp) (d:Int):Prop:=∃ s∈l,s.1<=d/\d<s.2
structure Joined (l:Sp):Prop where
 up:∀ s∈l,s.1<s.2
 apart:l.Pairwise fun s t=>s.2<t.1
theorem zhY {d:Int}:¬ Cov [] d:=fun ⟨_,h,_⟩=>by cases h
theorem zbC {s:Int × Int} {l:Sp} {d:Int}:Cov (s::l) d↔(s.1<=d/\d<s.2)\/Cov l d:=by
 constructor
 ·rintro ⟨t,ht,h⟩
  rcases yak.mp ht with rfl | ht
  ·exact .inl h
  ·exact .inr ⟨t,ht,h⟩
 ·rintro (h | ⟨t,ht,h⟩)
  ·exact ⟨s,yai,h⟩
  ·exact ⟨t,yaj _ ht,h⟩
theorem zcg {a b:Sp} {d:Int}:Cov (a++b) d↔Cov a d\/Cov b d:=by
 constructor
 ·rintro ⟨t,ht,h⟩
  rcases yal.mp ht with ht | ht
  ·exact .inl ⟨t,ht,h⟩
  ·exact .inr ⟨t,ht,h⟩
 ·rintro (⟨t,ht,h⟩ | ⟨t,ht,h⟩)
  ·exact ⟨t,yav _ ht,h⟩
  ·exact ⟨t,yag _ ht,h⟩
theorem Joined.tail {s:Int × Int} {l:Sp} (j:Joined (s::l)):Joined l:=⟨fun t ht=>j.up t (yaj _ ht),(ybl.mp j.apart).2⟩
theorem Joined.above {s:Int × Int} {l:Sp} (j:Joined (s::l)) {d:Int} (h:Cov l d):s.2<d:=by
 obtain ⟨t,ht,h1,_⟩:=h
 have:=(ybl.mp j.apart).1 t ht
 ac_rfl
theorem unique:∀ {a b:Sp},Joined a->Joined b->(∀ d,Cov a d↔Cov b d)->a=b
 | [],[],_,_,_=>rfl
 | [],t::b,_,jb,h=>absurd ((h t.1).mpr ⟨t,yai,ydu _,jb.up t yai⟩) zhY
 | s::a,[],ja,_,h=>absurd ((h s.1).mp ⟨s,yai,ydu _,ja.up s yai⟩) zhY
 | s::a,t::b,ja,jb,h=>by
  have us:=ja.up s yai
  have ut:=jb.up t yai
  have low:∀ {s t:Int × Int} {a b:Sp},Joined (s::a)->Joined (t::b)->s.1<s.2->t.1<t.2->(∀ d,Cov (s::a) d->Cov (t::b) d)->t.1<=s.1:=fun {s t a b} ja jb us ut h=>by
   rcases zbC.mp (h s.1 (zbC.mpr (.inl ⟨ydu _,us⟩))) with q | q
   ·exact q.1
   ·have:=jb.above q;ac_rfl
  have e1:s.1=t.1:=Int.le_antisymm (low jb ja ut us fun d q=>(h d).mpr q) (low ja jb us ut fun d q=>(h d).mp q)
  have high:∀ {s t:Int × Int} {a b:Sp},Joined (s::a)->Joined (t::b)->s.1<s.2->s.1=t.1->(∀ d,Cov (t::b) d->Cov (s::a) d)->t.2<=s.2:=fun {s t a b} ja jb us e h=>by
   refine Int.not_lt.mp fun lt=>?_
   rcases zbC.mp (h s.2 (zbC.mpr (.inl ⟨by ac_rfl,lt⟩))) with q | q
   ·ac_rfl
   ·have:=ja.above q;ac_rfl
  have e2:s.2=t.2:=Int.le_antisymm (high jb ja ut e1.symm fun d q=>(h d).mp q) (high ja jb us e1 fun d q=>(h d).mpr q)
  have es:s=t:=Prod.ext e1 e2
  subst es
  refine congrArg _ (unique ja.tail jb.tail fun d=>⟨fun q=>?_,fun q=>?_⟩)
  ·have lt:=ja.above q
   rcases zbC.mp ((h d).mp (zbC.mpr (.inr q))) with z | z
   ·ac_rfl
   ·exact z
  ·have lt:=jb.above q
   rcases zbC.mp ((h d).mpr (zbC.mpr (.inr q))) with z | z
   ·ac_rfl
   ·exact z
def isIn (l:Sp) (d:Int):Bool:=l.any fun s=>decide (s.1<=d) && decide (d<s.2)
theorem zmb {l:Sp} {d:Int}:isIn l d=true↔Cov l d:=by
 unfold isIn
 rw[ycr]
 constructor
 ·rintro ⟨s,hs,h⟩
  simp only[Bool.and_eq_true,decide_eq_true_eq] at h
  exact ⟨s,hs,h⟩
 ·rintro ⟨s,hs,h⟩
  exact ⟨s,hs,by simp only[Bool.and_eq_true,decide_eq_true_eq];exact h⟩
noncomputable def step (l:Sp) (st:Sp × Int) (e:Int):Sp × Int :=
 let f:=if isIn l e && !isIn l (e-1) then e else st.2
 (if isIn l e then st.1 else st.1++[(f,e)],f)
def least (l:Sp) (es:List Int):Sp:=(es.foldl (step l) ([],0)).1
end Spans
namespace Sums
noncomputable def S (f:Int->Int) (a:Int):Nat->Int
 | 0=>0
 | n+1=>S f a n+f (a+n)
noncomputable def sum (f:Int->Int) (a b:Int):Int:=S f a (b-a).toNat
theorem zsG {f:Int->Int} {a b:Int} (h:b<=a):sum f a b=0:=by
 unfold sum
 rw[show (b-a).toNat=0 by ac_rfl]
 rfl
theorem zlH (f:Int->Int) (a:Int) (n:Nat):∀ m,S f a (n+m)=S f a n+S f (a+n) m
 | 0=>by simp[S]
 | m+1=>by
  show S f a (n+m)+f (a+((n+m:Nat):Int))=S f a n+(S f (a+n) m+f (a+n+m))
  rw[zlH f a n m,show a+((n+m:Nat):Int)=a+n+m by ac_rfl]
  ac_rfl
theorem sum_add {f:Int->Int} {a b c:Int} (h1:a<=c) (h2:c<=b):sum f a b=sum f a c+sum f c b:=by
 unfold sum
 rw[show (b-a).toNat=(c-a).toNat+(b-c).toNat by ac_rfl,zlH,show a+((c-a).toNat:Int)=c by ac_rfl]
noncomputable abbrev Tab:=List (Int × Int)
def Val (t:Tab) (d v:Int):Prop:=(v=0/\∀ r∈t,d<r.1)\/∃ i:Nat,∃ b:Int,t[i]?=some (b,v)/\b<=d/\∀ (j:Nat) (r:Int × Int),t[j]?=some r->r.1<=d->r.1<b\/(r.1=b/\j<=i)
theorem Val.one {t:Tab} {d v u:Int} (a:Val t d v) (b:Val t d u):v=u:=by
 rcases a with ⟨rfl,h⟩ | ⟨i,x,e,le,h⟩
 ·rcases b with ⟨rfl,_⟩ | ⟨j,y,e',le',_⟩
  ·rfl
  ·have:=h _ (yah e')
   dsimp only at this
   ac_rfl
 ·rcases b with ⟨rfl,g⟩ | ⟨j,y,e',le',g⟩
  ·have:=g _ (yah e)
   dsimp only at this
   ac_rfl
  ·have p:=h j _ e' le'
   have q:=g i _ e le
   dsimp only at p q
   have ij:i=j:=by ac_rfl
   subst ij
   rw[e] at e'
   cases e'
   rfl
noncomputable def vstep (d:Int) (st:Int × Int) (r:Int × Int):Int × Int:=if st.1<=r.1/\r.1<=d then r else st
noncomputable def valOf (t:Tab) (d:Int):Int:=(t.foldl (vstep d) (-1,0)).2
theorem zgV {t:Tab} (h0:∀ r∈t,0<=r.1) (d:Int):Val t d (valOf t d):=by
 suffices q:∀ (pre rest:Tab) (st:Int × Int),pre++rest=t->((st=(-1,0)/\∀ r∈pre,d<r.1)\/∃ i:Nat,pre[i]?=some st/\st.1<=d/\∀ (j:Nat) (r:Int × Int),pre[j]?=some r->r.1<=d->r.1<st.1\/(r.1=st.1/\j<=i)) ->
   Val t d (rest.foldl (vstep d) st).2 from q [] t (-1,0) rfl (.inl ⟨rfl,fun r hr=>by cases hr⟩)
 intro pre rest
 induction rest generalizing pre with
 | nil =>
  intro st e h
  rw[List.append_nil] at e
  subst e
  rcases h with ⟨rfl,h⟩ | ⟨i,e,le,h⟩
  ·exact .inl ⟨rfl,h⟩
  ·exact .inr ⟨i,st.1,e,le,h⟩
 | cons r rest ih =>
  intro st e h
  have hr:0<=r.1:=h0 r (by rw[<-e];simp)
  refine ih (pre++[r]) (vstep d st r) (by rw[List.append_assoc];exact e) ?_
  have last:∀ (j:Nat) (x:Int × Int),(pre++[r])[j]?=some x->pre[j]?=some x\/(j=pre.length/\x=r):=fun j x hx=>by
   by_cases hj:j<pre.length
   ·rw[ybn hj] at hx
    exact .inl hx
   ·by_cases hj2:j=pre.length
    ·subst hj2
     rw[ybk (ycu _),ydj] at hx
     exact .inr ⟨rfl,(by cases hx;rfl)⟩
    ·rw[yaq (by rw[yaf,ybp];ac_rfl)] at hx
     cases hx
  unfold vstep
  by_cases c:st.1<=r.1/\r.1<=d
  ·rw[if_pos c]
   refine .inr ⟨pre.length,by rw[ybk (ycu _),ydj];rfl,c.2,fun j x hx hd=>?_⟩
   rcases last j x hx with hx | ⟨rfl,rfl⟩
   ·have hj:j<pre.length:=(yad.mp hx).1
    rcases h with ⟨_,h⟩ | ⟨i,_,_,h⟩
    ·have:=h x (yah hx)
     ac_rfl
    ·rcases h j x hx hd with z | z
     ·exact .inl (by ac_rfl)
     ·by_cases w:x.1=r.1
      ·exact .inr ⟨w,by ac_rfl⟩
      ·exact .inl (by ac_rfl)
   ·exact .inr ⟨rfl,ycu _⟩
  ·rw[if_neg c]
   rcases h with ⟨rfl,h⟩ | ⟨i,ei,le,h⟩
   ·refine .inl ⟨rfl,fun x hx=>?_⟩
    rcases yal.mp hx with hx | hx
    ·exact h x hx
    ·have:x=r:=by simpa using hx
     rw[this]
     exact Int.not_le.mp fun q=>c ⟨by show (-1:Int)<=r.1;ac_rfl,q⟩
   ·refine .inr ⟨i,?_,le,fun j x hx hd=>?_⟩
    ·rw[ybn (yad.mp ei).1];exact ei
    ·rcases last j x hx with hx | ⟨rfl,rfl⟩
     ·exact h j x hx hd
     ·exact .inl (Int.not_le.mp fun q=>c ⟨q,hd⟩)
end Sums
namespace Stills
open Spans Sums
structure Begun (r:Sp) (day:Int) (n:Nat):Prop where
 le:n<=r.length
 lo:∀ i s,i<n->r[i]?=some s->s.1<=day
 hi:∀ i s,n<=i->r[i]?=some s->day<s.1
structure Free (r:Sp) (day m:Int):Prop where
 from_:day<=m
 out:¬ Cov r m
 all:∀ d,day<=d->d<m->Cov r d
theorem Free.one {r:Sp} {day m n:Int} (a:Free r day m) (b:Free r day n):m=n:=by
 rcases Int.lt_trichotomy m n with h | h | h
 ·exact absurd (b.all m a.from_ h) a.out
 ·exact h
 ·exact absurd (a.all n b.from_ h) b.out
theorem Free.cov {r l:Sp} {day m:Int} (a:Free r day m) (h:∀ d,Cov r d↔Cov l d):Free l day m:=⟨a.from_,fun z=>a.out ((h _).mpr z),fun d h1 h2=>(h d).mp (a.all d h1 h2)⟩
theorem Free.here {r:Sp} {day:Int} (h:¬ Cov r day):Free r day day:=⟨ydu _,h,fun d h1 h2=>by ac_rfl⟩
theorem zlK {r:Sp} (J:Joined r) {i j:Nat} {s t:Int × Int} (hi:r[i]?=some s) (hj:r[j]?=some t) (lt:i<j):s.2<t.1:=by
 obtain ⟨h1,rfl⟩:=yad.mp hi
 obtain ⟨h2,rfl⟩:=yad.mp hj
 exact yay.mp J.apart i j h1 h2 lt
theorem zor {r:Sp} {day:Int} (B:Begun r day 0):Free r day day:=Free.here fun ⟨s,hs,h1,h2⟩=>by
 obtain ⟨j,hj,rfl⟩:=yaw.mp hs
 have:=B.hi j _ (ycy _) (yaa hj)
 ac_rfl
theorem zos {r:Sp} (J:Joined r) {day:Int} {n:Nat} {s:Int × Int} (B:Begun r day (n+1)) (e:r[n]?=some s):Free r day (if s.2 > day then s.2 else day):=by
 have up:=J.up s (yah e)
 have lo:=B.lo n s (ydb _) e
 have other:∀ (t:Int × Int) (d:Int),t∈r->t.1<=d->d<t.2->day<=d->d<=s.2->t=s:=fun t d ht h1 h2 h3 h4=>by
  obtain ⟨j,hj,rfl⟩:=yaw.mp ht
  have ej:=yaa hj
  rcases ydg j n with h | h | h
  ·have:=zlK J ej e h
   ac_rfl
  ·subst h
   rw[e] at ej
   cases ej
   rfl
  ·have:=zlK J e ej h
   ac_rfl
 by_cases c:s.2 > day
 ·rw[if_pos c]
  refine ⟨by ac_rfl,fun ⟨t,ht,h1,h2⟩=>?_,fun d h1 h2=>⟨s,yah e,by ac_rfl,h2⟩⟩
  have:=other t s.2 ht h1 h2 (by ac_rfl) (ydu _)
  rw[this] at h2
  ac_rfl
 ·rw[if_neg c]
  refine Free.here fun ⟨t,ht,h1,h2⟩=>?_
  obtain ⟨j,hj,rfl⟩:=yaw.mp ht
  have ej:=yaa hj
  rcases ydg j n with h | h | h
  ·have:=zlK J ej e h
   ac_rfl
  ·subst h
   rw[e] at ej
   cases ej
   ac_rfl
  ·have:=B.hi j _ h ej
   ac_rfl
theorem zit {l:Sp} (day:Int):∃ m,Free l day m:=by
 obtain ⟨M,hM⟩:∃ M:Int,∀ s∈l,s.2<=M:=by
  clear day
  induction l with
  | nil=>exact ⟨0,fun s h=>by cases h⟩
  | cons s l ih =>
   obtain ⟨M,h⟩:=ih
   refine ⟨if M<=s.2 then s.2 else M,fun t ht=>?_⟩
   rcases yak.mp ht with rfl | ht
   ·split <;> ac_rfl
   ·have:=h t ht
    split <;> ac_rfl
 have fin:∀ n:Nat,∀ d:Int,M-d<=n->∃ m,Free l d m:=by
  intro n
  induction n with
  | zero =>
   intro d h
   refine ⟨d,Free.here fun ⟨s,hs,h1,h2⟩=>?_⟩
   have:=hM s hs
   ac_rfl
  | succ n ih =>
   intro d h
   by_cases c:Cov l d
   ·obtain ⟨m,F⟩:=ih (d+1) (by ac_rfl)
    refine ⟨m,by have:=F.from_;ac_rfl,F.out,fun x h1 h2=>?_⟩
    by_cases e:x=d
    ·rw[e];exact c
    ·exact F.all x (by ac_rfl) h2
   ·exact ⟨d,Free.here c⟩
 exact fin (M-day).toNat day (by ac_rfl)
end Stills
namespace Stills
open Spans Sums
end Stills
namespace Stills
open Spans Sums
theorem zpO {l:Sp} (up:l.Pairwise fun s t=>s.1<t.1) {i j:Nat} {s t:Int × Int} (hi:l[i]?=some s) (hj:l[j]?=some t) (lt:i<j):s.1<t.1:=by
 obtain ⟨h1,rfl⟩:=yad.mp hi
 obtain ⟨h2,rfl⟩:=yad.mp hj
 exact yay.mp up i j h1 h2 lt
theorem zpD {l:Sp} (J:Joined l):l.Pairwise fun s t=>s.1<t.1:=by
 refine (List.Pairwise.and_mem.mp J.apart).imp fun {s t} h=>?_
 have:=J.up s h.1
 have:=h.2.2
 ac_rfl
theorem zqX {ns:List Int} (up:ns.Pairwise (·<·)) {i j:Nat} {x y:Int} (hi:ns[i]?=some x) (hj:ns[j]?=some y) (lt:i<j):x<y:=by
 obtain ⟨h1,rfl⟩:=yad.mp hi
 obtain ⟨h2,rfl⟩:=yad.mp hj
 exact yay.mp up i j h1 h2 lt
end Stills
namespace Stills
open Spans Sums
end Stills
namespace Stills
open Spans Sums
end Stills
namespace Stills
open Spans Sums
end Stills
namespace Stills
end Stills
namespace Stills
open Spans Sums
structure TabOf (t tb:Sp):Prop where
 up:tb.Pairwise fun s u=>s.1<u.1
 val:∀ d,valOf tb d=valOf t d
 days:∀ d,(∃ s∈tb,d=s.1)↔∃ s∈t,d=s.1
theorem tab_of {t:Sp} {ds:List Int} (t0:∀ s∈t,0<=s.1) (up:ds.Pairwise (·<·)) (mem:∀ d,d∈ds↔∃ s∈t,d=s.1):TabOf t (ds.map fun d=>(d,valOf t d)):=by
 have d0:∀ s∈ds.map fun d=>(d,valOf t d),0<=s.1:=fun s hs=>by
  obtain ⟨d,hd,rfl⟩:=yao.mp hs
  obtain ⟨u,hu,e⟩:=(mem d).mp hd
  show 0<=d
  rw[e]
  exact t0 u hu
 refine ⟨by rw[ycm];exact up,fun d=>?_,fun d=>?_⟩
 ·refine Val.one (zgV d0 d) ?_
  rcases zgV t0 d with ⟨e,h⟩ | ⟨i,b,e,le,h⟩
  ·rw[e]
   refine .inl ⟨rfl,fun r hr=>?_⟩
   obtain ⟨x,hx,rfl⟩:=yao.mp hr
   obtain ⟨u,hu,e'⟩:=(mem x).mp hx
   show d<x
   rw[e']
   exact h u hu
  ·have hb:b∈ds:=(mem b).mpr ⟨_,yah e,rfl⟩
   obtain ⟨j,hj,ej⟩:=yaw.mp hb
   have vb:valOf t b=valOf t d:=Val.one (zgV t0 b) (.inr ⟨i,b,e,ydu _,fun k r hk hr=>h k r hk (by ac_rfl)⟩)
   refine .inr ⟨j,b,?_,le,fun k r hk hr=>?_⟩
   ·rw[yam,yaa hj,ej]
    show some (b,valOf t b)=_
    rw[vb]
   ·rw[yam] at hk
    obtain ⟨x,hx,rfl⟩:=Option.map_eq_some_iff.mp hk
    have ej':ds[j]?=some b:=by rw[yaa hj,ej]
    obtain ⟨u,hu,eu⟩:=(mem x).mp (yah hx)
    obtain ⟨n,hn,en⟩:=yaw.mp hu
    have hxb:x<=b:=by
     have:=h n u (by rw[yaa hn,en]) (by rw[<-eu];exact hr)
     rw[<-eu] at this
     ac_rfl
    rcases ydg k j with c | c | c
    ·exact .inl (zqX up hx ej' c)
    ·subst c
     rw[ej'] at hx
     cases hx
     exact .inr ⟨rfl,ycu _⟩
    ·have:=zqX up ej' hx c
     ac_rfl
 ·constructor
  ·rintro ⟨s,hs,rfl⟩
   obtain ⟨x,hx,rfl⟩:=yao.mp hs
   exact (mem x).mp hx
  ·intro hd
   exact ⟨(d,valOf t d),yao.mpr ⟨d,(mem d).mpr hd,rfl⟩,rfl⟩
end Stills
namespace Stills
open Spans Sums
end Stills
namespace Stills
end Stills
namespace Stills
open Spans Sums
structure JInv (P acc:Sp):Prop where
 j:Joined acc
 c:∀ d,Cov acc d↔Cov P d
 f:∀ t∈acc,∃ s∈P,t.1=s.1
theorem zjX {s:Int × Int} {d:Int}:Cov [s] d↔s.1<=d/\d<s.2:=by
 rw[zbC]
 exact ⟨fun h=>h.elim id fun z=>absurd z zhY,.inl⟩
theorem JInv.nil:JInv [] []:=⟨⟨fun s h=>(by cases h),List.Pairwise.nil⟩,fun _=>Iff.rfl,fun t h=>(by cases h)⟩
theorem JInv.begin_ {P:Sp} {s:Int × Int} (J:JInv P []) (up:s.1<s.2):JInv (P++[s]) [s]:=by
 refine ⟨⟨fun t ht=>?_,ybs _ _⟩,fun d=>?_,fun t ht=>?_⟩
 ·have:t=s:=by simpa using ht
  rw[this];exact up
 ·rw[zcg,<-J.c]
  exact ⟨.inr,fun h=>h.elim (fun z=>absurd z zhY) id⟩
 ·have:t=s:=by simpa using ht
  exact ⟨s,by simp,by rw[this]⟩
theorem JInv.add {P acc:Sp} {t s:Int × Int} (J:JInv P (acc++[t])) (up:s.1<s.2) (h:t.2<s.1):JInv (P++[s]) (acc++[t]++[s]):=by
 have jt:=J.j.up t (by simp)
 refine ⟨⟨fun u hu=>?_,ybr.mpr ⟨J.j.apart,ybs _ _,fun u hu v hv=>?_⟩⟩,fun d=>?_,fun u hu=>?_⟩
 ·rcases yal.mp hu with hu | hu
  ·exact J.j.up u hu
  ·have:u=s:=by simpa using hu
   rw[this];exact up
 ·have:v=s:=by simpa using hv
  subst this
  rcases yal.mp hu with hu' | hu'
  ·have:=(ybr.mp J.j.apart).2.2 u hu' t (by simp)
   ac_rfl
  ·have:u=t:=by simpa using hu'
   rw[this];exact h
 ·rw[zcg (a:=acc++[t]),zcg (a:=P),J.c]
 ·rcases yal.mp hu with hu | hu
  ·obtain ⟨x,hx,e⟩:=J.f u hu
   exact ⟨x,yal.mpr (.inl hx),e⟩
  ·have:u=s:=by simpa using hu
   exact ⟨s,by simp,by rw[this]⟩
theorem JInv.grow {P acc:Sp} {t s:Int × Int} {m:Int} (J:JInv P (acc++[t])) (up:s.1<s.2) (h0:t.1<=s.1) (h:s.1<=t.2) (hm:m=if s.2 > t.2 then s.2 else t.2):JInv (P++[s]) (acc++[(t.1,m)]):=by
 have jt:=J.j.up t (by simp)
 have hm':t.2<=m/\s.2<=m/\(m=t.2\/m=s.2):=by rw[hm];split <;> ac_rfl
 obtain ⟨p1,p2,p3⟩:=ybr.mp J.j.apart
 refine ⟨⟨fun u hu=>?_,ybr.mpr ⟨p1,ybs _ _,fun u hu v hv=>?_⟩⟩,fun d=>?_,fun u hu=>?_⟩
 ·rcases yal.mp hu with hu | hu
  ·exact J.j.up u (yal.mpr (.inl hu))
  ·have:u=(t.1,m):=by simpa using hu
   rw[this]
   show t.1<m
   ac_rfl
 ·have:v=(t.1,m):=by simpa using hv
  rw[this]
  exact p3 u hu t (by simp)
 ·have a:=J.c d
  rw[zcg,zjX] at a
  rw[zcg,zcg,<-a,zjX,zjX]
  show (Cov acc d\/(t.1<=d/\d<m))↔((Cov acc d\/(t.1<=d/\d<t.2))\/(s.1<=d/\d<s.2))
  constructor
  ·rintro (z | z)
   ·exact .inl (.inl z)
   ·by_cases c:d<t.2
    ·exact .inl (.inr ⟨z.1,c⟩)
    ·exact .inr (by ac_rfl)
  ·rintro ((z | z) | z)
   ·exact .inl z
   ·exact .inr (by ac_rfl)
   ·exact .inr (by ac_rfl)
 ·rcases yal.mp hu with hu | hu
  ·obtain ⟨x,hx,e⟩:=J.f u (yal.mpr (.inl hu))
   exact ⟨x,yal.mpr (.inl hx),e⟩
  ·have:u=(t.1,m):=by simpa using hu
   obtain ⟨x,hx,e⟩:=J.f t (by simp)
   exact ⟨x,yal.mpr (.inl hx),by rw[this];exact e⟩
theorem zn8 {a b:Sp} (h:∀ s,s∈a↔s∈b) (d:Int):Cov a d↔Cov b d:=⟨fun ⟨s,hs,q⟩=>⟨s,(h s).mp hs,q⟩,fun ⟨s,hs,q⟩=>⟨s,(h s).mpr hs,q⟩⟩
end Stills
namespace Dct
open L2
def days (t:List (Int × Int)) (d:Int):Prop:=∃ s∈t,d=s.1
theorem zsO {d:Int} (h:-1<=d):∀ (t:List (Int × Int)) (st:Int × Int),st.1<=d->(t.foldl (Sums.vstep d) st).1<=d
 | [],st,hs=>hs
 | x::t,st,hs=>by
  rw[yck]
  refine zsO h t _ ?_
  unfold Sums.vstep
  split
  ·rename_i q;exact q.2
  ·exact hs
theorem zpe {d:Int}:∀ (t:List (Int × Int)) (st:Int × Int),st.1=d->(t.foldl (Sums.vstep d) st).1=d
 | [],st,hs=>hs
 | x::t,st,hs=>by
  rw[yck]
  refine zpe t _ ?_
  unfold Sums.vstep
  split
  ·rename_i q;ac_rfl
  ·exact hs
theorem zq0 {d:Int} (h:0<=d):∀ (t:List (Int × Int)) (st:Int × Int),st.1<=d->days t d->(t.foldl (Sums.vstep d) st).1=d
 | [],st,_,hd=>by obtain ⟨s,hs,_⟩:=hd;cases hs
 | x::t,st,hs,hd=>by
  rw[yck]
  by_cases e:x.1=d
  ·refine zpe t _ ?_
   unfold Sums.vstep
   rw[if_pos ⟨by ac_rfl,by ac_rfl⟩]
   exact e
  ·refine zq0 h t _ ?_ ?_
   ·unfold Sums.vstep
    split
    ·rename_i q;exact q.2
    ·exact hs
   ·obtain ⟨s,m,q⟩:=hd
    rcases yak.mp m with rfl | m
    ·exact absurd q.symm e
    ·exact ⟨s,m,q⟩
theorem zo8 (t:List (Int × Int)) (x:Int × Int):zcy (t++[x])=zai (zcy t) x.1 x.2:=by
 unfold zcy
 rw[List.foldl_append]
 rfl
theorem zkm (l:List (Int × Int)) (k:Int):l.any (fun p=>p.1=k)=true↔days l k:=by
 rw[ycr]
 constructor
 ·rintro ⟨s,m,q⟩;exact ⟨s,m,(of_decide_eq_true q).symm⟩
 ·rintro ⟨s,m,q⟩;exact ⟨s,m,decide_eq_true q.symm⟩
theorem zi1 {l:List (Int × Int)} {k y:Int} {s:Int × Int} (h:s∈zai l k y):(s.1=k/\s.2=y)\/(s∈l/\s.1≠k):=by
 unfold zai at h
 split at h
 ·obtain ⟨u,m,e⟩:=yao.mp h
  by_cases q:u.1=k
  ·rw[if_pos q] at e;subst e;exact .inl ⟨q,rfl⟩
  ·rw[if_neg q] at e;subst e;exact .inr ⟨m,q⟩
 ·rename_i na
  rcases yal.mp h with m | m
  ·refine .inr ⟨m,fun q=>na ((zkm l k).mpr ⟨s,m,q.symm⟩)⟩
  ·obtain rfl:s=(k,y):=by simpa using m
   exact .inl ⟨rfl,rfl⟩
theorem znh {l:List (Int × Int)} {k y d:Int}:days (zai l k y) d↔days l d\/d=k:=by
 constructor
 ·rintro ⟨s,m,q⟩
  rcases zi1 m with ⟨a,_⟩ | ⟨a,_⟩
  ·exact .inr (q.trans a)
  ·exact .inl ⟨s,a,q⟩
 ·intro h
  unfold zai
  split
  ·rename_i a
   have hd:days l d:=by
    rcases h with h | h
    ·exact h
    ·rw[h];exact (zkm l k).mp a
   obtain ⟨s,m,q⟩:=hd
   by_cases e:s.1=k
   ·exact ⟨(s.1,y),yao.mpr ⟨s,m,by rw[if_pos e]⟩,q⟩
   ·exact ⟨s,yao.mpr ⟨s,m,by rw[if_neg e]⟩,q⟩
  ·rcases h with ⟨s,m,q⟩ | h
   ·exact ⟨s,yav _ m,q⟩
   ·exact ⟨(k,y),yag _ (ybh.mpr rfl),h⟩
theorem zm8 {l:List (Int × Int)} {k y:Int} (h:(l.map (·.1)).Nodup):((zai l k y).map (·.1)).Nodup:=by
 unfold zai
 split
 ·rw[ybg]
  have e:((fun x:Int × Int=>x.1) ∘ fun p:Int × Int=>if p.1=k then (p.1,y) else p)=fun x=>x.1:=by
   funext p
   show (if p.1=k then (p.1,y) else p).1=p.1
   split <;> rfl
  rw[e]
  exact h
 ·rename_i na
  rw[yba]
  refine List.nodup_append.mpr ⟨h,by simp,fun a ha b hb=>?_⟩
  have hb':b=k:=by simpa using hb
  obtain ⟨s,m,q⟩:=yao.mp ha
  rw[hb']
  intro z
  exact na ((zkm l k).mpr ⟨s,m,by rw[<-z];exact q.symm⟩)
structure Is (t l:List (Int × Int)):Prop where
 keys:(l.map (·.1)).Nodup
 days:∀ d,days l d↔days t d
 val:∀ s∈l,s.2=Sums.valOf t s.1
theorem dct_is:∀ (n:Nat) (t:List (Int × Int)),t.length=n->(∀ s∈t,0<=s.1)->Is t (zcy t)
 | 0,t,e,_=>by
  obtain rfl:t=[]:=List.eq_nil_of_length_eq_zero e
  exact ⟨List.nodup_nil,fun d=>Iff.rfl,fun s hs=>by cases hs⟩
 | n+1,t,e,h0=>by
  have ne:t≠[]:=fun z=>by rw[z] at e;cases e
  have et:t.dropLast++[t.getLast ne]=t:=List.dropLast_concat_getLast ne
  generalize t.dropLast=u at et
  generalize t.getLast ne=x at et
  subst et
  have ul:u.length=n:=by simpa using e
  have ih:=dct_is n u ul fun s hs=>h0 s (yav _ hs)
  rw[zo8]
  refine ⟨zm8 ih.keys,fun d=>?_,fun s hs=>?_⟩
  ·rw[znh,ih.days]
   constructor
   ·rintro (⟨s,m,q⟩ | q)
    ·exact ⟨s,yav _ m,q⟩
    ·exact ⟨x,yag _ (ybh.mpr rfl),q⟩
   ·rintro ⟨s,m,q⟩
    rcases yal.mp m with m | m
    ·exact .inl ⟨s,m,q⟩
    ·obtain rfl:s=x:=by simpa using m
     exact .inr q
  ·have x0:=h0 x (yag _ (ybh.mpr rfl))
   have ev:∀ d,Sums.valOf (u++[x]) d=(Sums.vstep d (u.foldl (Sums.vstep d) (-1,0)) x).2:=fun d=>by
    unfold Sums.valOf
    rw[List.foldl_append]
    rfl
   rcases zi1 hs with ⟨a,b⟩ | ⟨a,b⟩
   ·rw[ev,b,a]
    unfold Sums.vstep
    rw[if_pos ⟨zsO (by ac_rfl) u (-1,0) (by show -1<=x.1;ac_rfl),ydu _⟩]
   ·rw[ev,ih.val s a]
    have d0:0<=s.1:=by
     obtain ⟨r,m,q⟩:=(ih.days s.1).mp ⟨s,a,rfl⟩
     rw[q]
     exact h0 r (yav _ m)
    have b1:=zq0 d0 u (-1,0) (by show -1<=s.1;ac_rfl) ((ih.days s.1).mp ⟨s,a,rfl⟩)
    have st:Sums.vstep s.1 (u.foldl (Sums.vstep s.1) (-1,0)) x=u.foldl (Sums.vstep s.1) (-1,0):=if_neg (by rw[b1];ac_rfl)
    rw[st]
    rfl
theorem tab {t r:List (Int × Int)} (h0:∀ s∈t,0<=s.1) (p:r.Perm (zcy t)) (o:r.Pairwise fun s u=>s.1<=u.1):Stills.TabOf t r/\r=(r.map (·.1)).map fun d=>(d,Sums.valOf t d):=by
 have I:=dct_is t.length t rfl h0
 have nd:(r.map (·.1)).Nodup:=(p.map (·.1)).nodup_iff.mpr I.keys
 have up:(r.map (·.1)).Pairwise (·<·):=by
  have o':(r.map (·.1)).Pairwise (·<=·):=by
   rw[ycm]
   exact o
  refine (o'.and nd).imp fun {a b} h=>?_
  have:=h.1
  have:=h.2
  ac_rfl
 have e:r=(r.map (·.1)).map fun d=>(d,Sums.valOf t d):=by
  rw[ybg]
  conv=>lhs;rw[<-List.map_id r]
  refine ybo fun s hs=>?_
  show s=(s.1,Sums.valOf t s.1)
  rw[<-I.val s (p.mem_iff.mp hs)]
 refine ⟨?_,e⟩
 rw[e]
 refine Stills.tab_of h0 up fun d=>?_
 constructor
 ·intro m
  obtain ⟨s,hs,rfl⟩:=yao.mp m
  exact (I.days s.1).mp ⟨s,p.mem_iff.mp hs,rfl⟩
 ·intro m
  obtain ⟨s,hs,q⟩:=(I.days d).mpr m
  exact yao.mpr ⟨s,p.mem_iff.mpr hs,q.symm⟩
end Dct
namespace L2
open PySem
noncomputable def bkF (c g e o f p t r l s d:V):List (Str × V):=[("own_count", c),("own_grace", g),("own_entries", e),("out_sums", o),("fee_sums", f),("pay_sums", p),("turn_days", t),("rate_rows", r),("late_rows", l),("spans", s),("due_sums", d)]
noncomputable def upto (l:List (Int × Int)) (d:Int):Int:=((l.filter fun s=>decide (s.1<=d)).map (·.2)).sum
structure BkT where
 (kd:Kd) (g:Int) (es:List Er) (outs fees pays:List (Int × Int)) (turns:List Int) (rates lates spans dues:List (Int × Int))
def LP (K:W.Frag) (H:Hp) (p:Addr) (l:List (Int × Int)):Prop:=∃ xs,H p=some (.lst xs)/\zu K H xs l/\l.length<=1000
theorem LP.same {K:W.Frag} {H H':Hp} {p:Addr} {l:List (Int × Int)} (h:LP K H p l) (s:Same H H'):LP K H' p l:=by
 obtain ⟨xs,e,r,n⟩:=h
 exact ⟨xs,s _ _ e,r.same s,n⟩
structure BkA where
 (dx c e o f p t r l s d:Addr)
noncomputable def BkA.fs (A:BkA) (g:Int):List (Str × V):=bkF (.ref A.c) (.int g) (.ref A.e) (.ref A.o) (.ref A.f) (.ref A.p) (.ref A.t) (.ref A.r) (.ref A.l) (.ref A.s) (.ref A.d)
structure zaU (K:W.Frag) (H:Hp) (a:Addr) (A:BkA) (b:BkT):Prop where
 ins:H a=some (.ins (cA K "Book") A.dx (A.fs b.g))
 cnt:zbb K H A.c b.kd
 ents:∃ xs,H A.e=some (.lst xs)/\EL K H xs b.es
 outs:LP K H A.o b.outs
 fees:LP K H A.f b.fees
 pays:LP K H A.p b.pays
 turns:H A.t=some (.lst (b.turns.map V.int))
 rates:LP K H A.r b.rates
 lates:LP K H A.l b.lates
 spans:LP K H A.s b.spans
 dues:LP K H A.d b.dues
theorem zaU.same {K:W.Frag} {H H':Hp} {a:Addr} {A:BkA} {b:BkT} (h:zaU K H a A b) (s:Same H H'):zaU K H' a A b :=
 ⟨s _ _ h.ins,h.cnt.same s,(let ⟨xs,e,r⟩:=h.ents;⟨xs,s _ _ e,r.same s⟩),h.outs.same s,h.fees.same s,h.pays.same s,s _ _ h.turns,h.rates.same s,h.lates.same s,h.spans.same s,h.dues.same s⟩
noncomputable def wo (H:Hp) (a:Addr):Hp:=fun b=>if b=a then none else H b
theorem zq5 {H:Hp} {a b:Addr} (h:b≠a):wo H a b=H b:=if_neg h
theorem zbH {H:Hp} {a:Addr}:Same (wo H a) H:=fun b o e=>by
 unfold wo at e
 split at e
 ·cases e
 ·exact e
theorem zrh {H H':Hp} {a:Addr} (s:Same H H'):Same (wo H a) (wo H' a):=fun b o e=>by
 unfold wo at e ⊢
 split at e
 ·cases e
 ·rename_i n
  rw[if_neg n]
  exact s _ _ e
theorem zco {H:Hp} {a:Addr} {o:HO}:wo (upd H a o) a=wo H a:=funext fun b=>by
 unfold wo
 split
 ·rfl
 ·rename_i n
  rw[zi n]
theorem zrV {K:W.Frag} {H:Hp} {a C dx:Addr} {fs:List (Str × V)} {xs:List V} {l:List (Int × Int)} (h:zu K H xs l) (e:H a=some (.ins C dx fs)):zu K (wo H a) xs l:=by
 induction h with
 | nil=>exact .nil
 | cons h _ ih=>exact .cons (by rw[zq5 (zaj h e (by intro z;cases z))];exact h) ih
theorem zmi {H:Hp} {a p C dx:Addr} {fs:List (Str × V)} {xs:List V} (h:H p=some (.lst xs)) (e:H a=some (.ins C dx fs)):wo H a p=some (.lst xs):=by
 rw[zq5 (zaj h e (by intro z;cases z))];exact h
theorem LP.wo {K:W.Frag} {H:Hp} {a p C dx:Addr} {fs:List (Str × V)} {l:List (Int × Int)} (h:LP K H p l) (e:H a=some (.ins C dx fs)):LP K (L2.wo H a) p l:=by
 obtain ⟨xs,h1,h2,h3⟩:=h
 exact ⟨xs,zmi h1 e,zrV h2 e,h3⟩
theorem zb5 {H H2:Hp} {a:Addr} {o:HO} (s:Same H H2):Same (wo H a) (wo (upd H2 a o) a):=by
 rw[zco]
 exact zrh s
noncomputable def tot (q:Int->Bool) (l:List (Int × Int)):Int:=((l.filter fun s=>q s.1).map (·.2)).sum
theorem ze7 (q:Int->Bool) (s:Int × Int) (l:List (Int × Int)):tot q (s::l)=(if q s.1 then s.2 else 0)+tot q l:=by
 unfold tot
 by_cases h:q s.1=true
 ·rw[yar (by simpa using h),if_pos h];simp
 ·rw[yas (by simpa using h),if_neg h];simp
theorem zgr (s:Int × Int) (l:List (Int × Int)) (n:Int):Sby.sm (s::l) n=(if s.1=n then s.2 else 0)+Sby.sm l n:=by
 have:=ze7 (fun k=>decide (k=n)) s l
 simpa [tot,Sby.sm] using this
theorem zkH (q:Int->Bool) (n:Int):∀ l:List (Int × Int),tot q l=(if q n then Sby.sm l n else 0)+tot q (l.filter fun s=>decide (s.1≠n))
 | []=>by simp[tot,Sby.sm]
 | s::l=>by
  rw[ze7,zkH q n l,zgr]
  by_cases e:s.1=n
  ·rw[yas (by simpa using e),if_pos e,e]
   split <;> ac_rfl
  ·rw[yar (by simpa using e),if_neg e,ze7]
   split <;> split <;> ac_rfl
theorem zsy {n d:Int} (h:d≠n) (l:List (Int × Int)):Sby.sm (l.filter fun s=>decide (s.1≠n)) d=Sby.sm l d:=by
 induction l with
 | nil=>rfl
 | cons s l ih =>
  by_cases e:s.1=n
  ·rw[yas (by simpa using e),zgr,if_neg (by ac_rfl),ih];ac_rfl
  ·rw[yar (by simpa using e),zgr,zgr,ih]
theorem zlz (q:Int->Bool):∀ (ns:List Int) (l:List (Int × Int)),ns.Nodup->(∀ p∈l,p.1∈ns)->tot q (ns.map fun d=>(d,Sby.sm l d))=tot q l
 | [],l,_,h=>by
  cases l with
  | nil=>rfl
  | cons s l=>exact absurd (h s yai) (by simp)
 | n::ns,l,nd,h=>by
  obtain ⟨n1,n2⟩:=ybm.mp nd
  rw[ybt,ze7,zkH q n l,<-zlz q ns (l.filter fun s=>decide (s.1≠n)) n2 fun p hp=>?_]
  ·congr 2
   apply ybo
   intro d hd
   rw[zsy (fun (e:d=n)=>n1 (by rw[<-e];exact hd))]
  ·obtain ⟨h1,h2⟩:=yap.mp hp
   rcases yak.mp (h p h1) with e | e
   ·exact absurd e (by simpa using h2)
   ·exact e
theorem zql {r l:List (Int × Int)} (T:Sby.Tab r l):r=(r.map (·.1)).map fun d=>(d,Sby.sm l d):=by
 rw[ybg]
 conv=>lhs;rw[<-List.map_id r]
 apply ybo
 intro p hp
 show p=(p.1,Sby.sm l p.1)
 rw[<-T.val p hp]
theorem zrj {r l:List (Int × Int)} (T:Sby.Tab r l) (q:Int->Bool):tot q r=tot q l:=by
 rw[zql T]
 exact zlz q _ l (Sby.zjw T.up) fun p hp=>(T.mem p.1).mpr (ybv hp)
noncomputable def mvp (f:Int->Int) (l:List (Int × Int)):List (Int × Int):=l.map fun s=>(f s.1,s.2)
theorem zpZ (f:Int->Int) (l:List (Int × Int)) (k:Int):Sby.sm (mvp f l) k=tot (fun d=>decide (f d=k)) l:=by
 induction l with
 | nil=>rfl
 | cons s l ih =>
  show Sby.sm ((f s.1,s.2)::mvp f l) k=_
  rw[zgr,ze7,ih]
  by_cases e:f s.1=k
  ·rw[if_pos e,if_pos (by simpa using e)]
  ·rw[if_neg e,if_neg (by simpa using e)]
theorem zrF {r r2 l:List (Int × Int)} (f:Int->Int) (T:Sby.Tab r l) (T2:Sby.Tab r2 (mvp f r)):Sby.Tab r2 (mvp f l):=by
 have k:∀ l:List (Int × Int),(mvp f l).map (·.1)=(l.map (·.1)).map f:=fun l=>by unfold mvp;rw[ybg,ybg];rfl
 refine ⟨T2.up,fun d=>(T2.mem d).trans ?_,fun p hp=>?_⟩
 ·rw[k,k]
  constructor
  ·intro h
   obtain ⟨x,hx,e⟩:=yao.mp h
   exact yao.mpr ⟨x,(T.mem x).mp hx,e⟩
  ·intro h
   obtain ⟨x,hx,e⟩:=yao.mp h
   exact yao.mpr ⟨x,(T.mem x).mpr hx,e⟩
 ·rw[T2.val p hp,zpZ,zpZ,zrj T]
noncomputable def mvd (l:List (Int × Int)) (d:Int):Int:=Classical.choose (Stills.zit (l:=l) d)
theorem zpE (l:List (Int × Int)) (d:Int):Stills.Free l d (mvd l d):=Classical.choose_spec (Stills.zit (l:=l) d)
theorem zmc {l:List (Int × Int)} {d m:Int} (h:Stills.Free l d m):m=mvd l d:=h.one (zpE l d)
theorem zr3 {l r:List (Int × Int)} (h:∀ d,Spans.Cov l d↔Spans.Cov r d):mvd l=mvd r:=funext fun d=>zmc ((zpE l d).cov h)
structure zcm (b:BkT):Prop where
 outs:Sby.Tab b.outs (prs "out" b.es)
 fees:Sby.Tab b.fees (prs "fee" b.es)
 pays:Sby.Tab b.pays (prs "pay" b.es)
 turns:Days b.turns (dys "turn" b.es)
 rates:Stills.TabOf (prs "rate" b.es) b.rates/\b.rates=(b.rates.map (·.1)).map (fun d=>(d,Sums.valOf (prs "rate" b.es) d))
 lates:Stills.TabOf (prs "late" b.es) b.lates/\b.lates=(b.lates.map (·.1)).map (fun d=>(d,Sums.valOf (prs "late" b.es) d))
 spans:Spans.Joined b.spans/\∀ d,Spans.Cov b.spans d↔Spans.Cov (prs "still" b.es) d
 dues:Sby.Tab b.dues (mvp (mvd (prs "still" b.es)) (prs "due" b.es))
def RtW (w:Str):Prop:=w = "rate" \/ w = "late"
theorem rtl {w:Str} {k:Ek} {d x:Int} (hw:RtW w) (h:isW w (k,d,x)=true):ybx ("rate" : Str) (ziX k d x)=some (V.int x):=by
 have e:k.word=w:=V.str.inj (of_decide_eq_true h)
 subst e
 rcases hw with hw | hw <;> (cases k <;> first | rfl | (exfalso;revert hw;decide))
theorem stl {k:Ek} {d x:Int} (h:isW "still" (k,d,x)=true):ybx ("until" : Str) (ziX k d x)=some (V.int x):=by
 have e:k.word = "still" := V.str.inj (of_decide_eq_true h)
 cases k <;> first | rfl | (exfalso;revert e;decide)
theorem zqj (l:List (Int × Int)) (d:Int):Spans.Cov (l.filter fun s=>decide (s.1<s.2)) d↔Spans.Cov l d:=by
 constructor
 ·rintro ⟨s,hs,h⟩
  exact ⟨s,(yap.mp hs).1,h⟩
 ·rintro ⟨s,hs,h1,h2⟩
  exact ⟨s,yap.mpr ⟨hs,by simp;ac_rfl⟩,h1,h2⟩
theorem zbK {w:Str} {es:List Er}:(prs w es).length<=es.length:=by
 unfold prs
 rw[yab]
 exact yat _ _
theorem tyC {K:W.Frag} {H:Hp} {a:Addr} {kd:Kd} (cl:Cls K (cA K kd.cls)) (I:zqH K (cA K kd.cls)) (h:zbb K H a kd):zbc K H (.ref a) (.ref (cA K kd.cls)):=by
 obtain ⟨dx,e⟩:=h
 exact .ins e cl I.ha I.hn I.htk I.hm
theorem comp_map {α:Type} {J:It} {ix:List Nat} {te:TE} {σ:St} {l:Addr} {xs:List V} {H:Hp} {R:Hp->Prop} (Y:zdS J H xs) (hl:H l=none) (hz:xs.length<=sizeLine) (es:List α) (len:es.length=xs.length)
  (P:Hp->V->α->Prop) (mono:∀ v e H1 H2,Same H1 H2->P H1 v e->P H2 v e) (put:∀ v e H1 ys zs,H1 l=some (.lst ys)->P H1 v e->P (upd H1 l (.lst zs)) v e)
  (he:∀ (i:Nat) x e H' Q',xs[i]?=some x->es[i]?=some e->Same H H'->(∀ v H2,Same H' H2->P H2 v e->Q' v H2)->te (some x::capts σ ix) H' Q')
  (fin:∀ ys H',Same H H'->H' l=some (.lst ys)->LL (P H') ys es->R H') :
  ∃ W:Nat->Nat->List V->Hp->Prop,(∃ m,W 0 m [] (upd H l (.lst [])))/\Turns ix te σ J l R W:=by
 refine zqR Y hl hz (fun i v H'=>∃ e,es[i]?=some e/\P H' v e) (fun i v H1 H2 s ⟨e,e1,e2⟩=>⟨e,e1,mono v e _ _ s e2⟩) (fun i v H1 ys zs hL ⟨e,e1,e2⟩=>⟨e,e1,put v e _ _ _ hL e2⟩) ?_ ?_
 ·intro i x H' Q' hx sH hq
  have il:i<es.length:=by rw[len];exact (yad.mp hx).1
  have eP:es[i]?=some (es[i]'il):=yaa il
  exact he i x _ H' Q' hx eP sH fun v H2 s2 pv=>hq v H2 s2 ⟨_,eP,pv⟩
 ·intro ys H' sH eL yl hp
  exact fin ys H' sH eL (LL.of (by ac_rfl) hp)
theorem zqp {K:W.Frag} {H:Hp} {f:Int->Int} {ys:List V} {l:List (Int × Int)} (h:LL (fun v s=>∃ t,v=.ref t/\H t=some (.tup [.int (f s.1),.int s.2])) ys l):zu K H ys (mvp f l):=by
 induction h with
 | nil=>exact .nil
 | cons h _ ih =>
  obtain ⟨t,rfl,e⟩:=h
  exact .cons e ih
noncomputable def zbN (k:Ek) (d x:Int):List V:=[.str k.word,.int d,.int x]
noncomputable def RL3 (H:Hp):List V->List Er->Prop:=LL fun v e=>∃ t,v=.ref t/\H t=some (.tup (zbN e.1 e.2.1 e.2.2))
theorem RL3.same {H H':Hp} {vs:List V} {es:List Er} (h:RL3 H vs es) (s:Same H H'):RL3 H' vs es:=LL.imp (fun v e ⟨t,e1,e2⟩=>⟨t,e1,s _ _ e2⟩) h
theorem RL3.put {H:Hp} {vs ys zs:List V} {es:List Er} {p:Addr} (h:RL3 H vs es) (hp:H p=some (.lst ys)):RL3 (upd H p (.lst zs)) vs es:=LL.imp (fun v e ⟨t,e1,e2⟩=>⟨t,e1,by rw[zi (zaj e2 hp (by intro z;cases z))];exact e2⟩) h
structure znL (fl:List Bool) (b:Int) (l:List (Int × Int)):Prop where
 len:fl.length=250
 at_:∀ k:Nat,k<250->fl[k]?=some (Spans.isIn l (b+k))
 end_:∀ s∈l,s.2<=b+249
theorem zpK (l:List (Int × Int)) (s:Int × Int) (d:Int):Spans.isIn (l++[s]) d=(Spans.isIn l d || (decide (s.1<=d) && decide (d<s.2))):=by
 unfold Spans.isIn
 rw[List.any_append]
 simp
theorem zfh (n:Nat) (x:V):(yae n [x]).flatten=yae n x:=by
 induction n with
 | zero=>rfl
 | succ n ih=>rw[ybi,yca,ih,ybi];rfl
theorem zsf {n:Nat} {i:Int} (h0:0<=i) (h1:i<n):ixN n i=some i.toNat:=by
 unfold ixN
 rw[if_pos h0,if_pos h1]
theorem zoN (fl:List Bool) (i:Nat) (b:Bool):(fl.map V.bl).set i (.bl b)=(fl.set i b).map V.bl:=by rw[List.map_set]
def FlP (fl:List Bool) (b:Int) (l:List (Int × Int)) (lo hi:Int):Prop:=fl.length=250/\∀ k:Nat,k<250->fl[k]?=some (Spans.isIn l (b+k) || (decide (lo<=(k:Int)) && decide ((k:Int)<hi)))
theorem FlP.set {fl:List Bool} {b:Int} {l:List (Int × Int)} {lo hi:Int} (h:FlP fl b l lo hi) (h0:0<=lo) (h1:lo<=hi):FlP (fl.set hi.toNat true) b l lo (hi+1):=by
 refine ⟨by rw[List.length_set];exact h.1,fun k hk=>?_⟩
 rw[List.getElem?_set]
 by_cases e:hi.toNat=k
 ·rw[if_pos e,if_pos (by rw[h.1];ac_rfl)]
  have a1:lo<=(k:Int):=by ac_rfl
  have a2:(k:Int)<hi+1:=by ac_rfl
  simp[a1,a2]
 ·rw[if_neg e,h.2 k hk]
  have:((k:Int)<hi+1)↔((k:Int)<hi):=by ac_rfl
  simp[this]
theorem FlP.nil {fl:List Bool} {b:Int} {l:List (Int × Int)} {lo:Int} (h0:fl.length=250) (h:∀ k:Nat,k<250->fl[k]?=some (Spans.isIn l (b+k))):FlP fl b l lo lo:=by
 refine ⟨h0,fun k hk=>?_⟩
 rw[h k hk]
 have:¬ (lo<=(k:Int)/\(k:Int)<lo):=by ac_rfl
 cases Spans.isIn l (b+k) <;> simp <;> ac_rfl
theorem FlP.done {fl:List Bool} {b:Int} {l:List (Int × Int)} {s:Int × Int} (h:FlP fl b l (s.1-b) (s.2-b)):∀ k:Nat,k<250->fl[k]?=some (Spans.isIn (l++[s]) (b+k)):=fun k hk=>by
 rw[h.2 k hk,zpK]
 have e1:(s.1-b<=(k:Int))↔(s.1<=b+k):=by ac_rfl
 have e2:((k:Int)<s.2-b)↔(b+k<s.2):=by ac_rfl
 simp[e1,e2]
theorem zi7 {X:Cx} (K:W.Frag) (hK:X.K=K:=by rfl):OpR X (compareOp .In) (rIn K false):=by
 subst hK
 exact zkF
theorem zlI (ns:List Int) (a b:Nat):∃ ms:List Int,ms.length<=b-a/\zbx (ns.map V.int) (some (a:Int)) (some (b:Int))=ms.map V.int:=by
 refine ⟨(ns.drop (min a (ns.map V.int).length)).take (min b (ns.map V.int).length-min a (ns.map V.int).length),?_,?_⟩
 ·refine ycz (ych ..) ?_
  generalize (ns.map V.int).length=n
  rcases Nat.le_total a n with h | h
  ·rw[Nat.min_eq_left h]
   exact Nat.sub_le_sub_right (Nat.min_le_left ..) a
  ·rw[Nat.min_eq_right h,Nat.sub_eq_zero_of_le (Nat.min_le_right ..)]
   exact ycy _
 ·unfold zbx
  rw[zhW,zhW,List.map_take,List.map_drop]
theorem RL3.push {H:Hp} {vs:List V} {es:List Er} {t:Addr} {e:Er} (h:RL3 H vs es) (ht:H t=some (.tup (zbN e.1 e.2.1 e.2.2))):RL3 H (vs++[.ref t]) (es++[e]):=LL.push h ⟨t,rfl,ht⟩
theorem zpm {α:Type} {J:It} {ix:List Nat} {tt:TT} {te:TE} {σ:St} {l:Addr} {xs:List V} {H:Hp} {R:Hp->Prop} (Y:zdS J H xs) (hl:H l=none) (hz:xs.length<=sizeLine) (es:List α) (len:es.length=xs.length)
  (f:α->Bool) (P:Hp->V->α->Prop) (mono:∀ v e H1 H2,Same H1 H2->P H1 v e->P H2 v e) (put:∀ v e H1 ys zs,H1 l=some (.lst ys)->P H1 v e->P (upd H1 l (.lst zs)) v e)
  (ht:∀ (i:Nat) x e H' Q',xs[i]?=some x->es[i]?=some e->Same H H'->(∀ H2,Same H' H2->Q' (f e) H2)->tt (some x::capts σ ix) H' Q')
  (he:∀ (i:Nat) x e H' Q',xs[i]?=some x->es[i]?=some e->f e=true->Same H H'->(∀ v H2,Same H' H2->P H2 v e->Q' v H2)->te (some x::capts σ ix) H' Q')
  (fin:∀ ys H',Same H H'->H' l=some (.lst ys)->LL (P H') ys (es.filter f)->R H') :
  ∃ W:Nat->Nat->List V->Hp->Prop,(∃ m,W 0 m [] (upd H l (.lst [])))/\zh6 ix tt te σ J l R W:=by
 refine ⟨fun i m ys H'=>m=xs.length-i/\i<=xs.length/\LL (P H') ys ((es.take i).filter f)/\Same H H'/\H' l=some (.lst ys),⟨xs.length,by simp,ycy _,by simp;exact .nil,zb hl _,ze⟩,?_⟩
 rintro i m ys H' ⟨rfl,hi,hy,sH,hL⟩
 refine ⟨hL,?_⟩
 by_cases hlt:i<xs.length
 ·have eP:es[i]?=some (es[i]'(by ac_rfl)):=yaa (by ac_rfl)
  generalize es[i]'(by ac_rfl)=e at eP
  have tk:es.take (i+1)=es.take i++[e]:=by rw[ybf,eP];rfl
  refine .inr ⟨Y.go i H' sH hlt,by
   have:ys.length<=i:=by
    rw[hy.length]
    exact ycz (yat _ _) (by rw[ybc];ac_rfl)
   ac_rfl,fun x H2 y=>?_⟩
  obtain ⟨rfl,e2⟩:=Y.yld i H' x H2 sH y
  refine ht i x e _ _ e2 eP sH fun H4 s4=>?_
  have sH4:=sH.trans s4
  have hL4:=s4 _ _ hL
  have hy4:=hy.imp fun v e q=>mono v e _ _ s4 q
  cases b:f e with
  | true =>
   rw[if_pos rfl]
   refine he i x e _ _ e2 eP b sH4 fun v H3 s3 pv=>?_
   have hL3:=s3 _ _ hL4
   refine ⟨hL3,xs.length-(i+1),by ac_rfl,rfl,hlt,?_,zD (sH4.trans s3) hl,ze⟩
   rw[tk,yaz,yar b]
   exact ((hy4.imp fun v e q=>put v e H3 ys _ hL3 (mono v e _ _ s3 q)).push (put v e H3 ys _ hL3 pv))
  | false =>
   rw[if_neg Bool.false_ne_true]
   refine ⟨xs.length-(i+1),by ac_rfl,rfl,hlt,?_,sH4,hL4⟩
   rw[tk,yaz,yas (by rw[b];decide)]
   simpa using hy4
 ·rw[yau (by ac_rfl)] at hy
  exact .inl ⟨Y.stop i H' sH (by ac_rfl),fin ys H' sH hL hy⟩
theorem LL.zq6 {α:Type} {R:V->α->Prop} {vs:List V} {es:List α} (h:LL R vs es):LL R (vs.drop 1) (es.drop 1):=by
 cases h with
 | nil=>exact .nil
 | cons _ h=>exact h
theorem zpN (f:Int->Int) (w:Str) (es:List Er):prs w ((es.filter (isW w)).map fun e=>(e.1,f e.2.1,e.2.2))=mvp f (prs w es):=by
 unfold prs mvp
 rw[ybg,List.filter_map,List.filter_filter,ybg]
 have:(fun a:Er=>isW w ((fun e:Er=>((e.1,f e.2.1,e.2.2):Er)) a) && isW w a)=isW w:=funext fun a=>by
  show (isW w (a.1,f a.2.1,a.2.2) && isW w a)=isW w a
  have:isW w (a.1,f a.2.1,a.2.2)=isW w a:=rfl
  rw[this,Bool.and_self]
 first
 | rw[show ((isW w ∘ fun e:Er=>((e.1,f e.2.1,e.2.2):Er)))=isW w from rfl];simp only[Bool.and_self];rfl
 | (simp only[Function.comp_def,this];rfl)
end L2
namespace L2
open PySem
end L2
namespace L2
open PySem
def Flt (d:PyData):Prop:=PyData.canLay0 d=true/\PyData.depth d<=1/\PyData.eqv d d=true
theorem zrL (n:Int):Flt (.int n):=⟨by simp[PyData.canLay0],by simp[PyData.depth],by simp[PyData.eqv]⟩
theorem zmr (b:Bool):Flt (.bool b):=⟨by simp[PyData.canLay0],by simp[PyData.depth],by simp[PyData.eqv]⟩
theorem zrx {dd:List PyData} (h:∀ d∈dd,Flt d):PyData.canLayAll0 dd=true/\PyData.depthAll dd<=1/\PyData.eqvAll dd dd=true:=by
 induction dd with
 | nil=>simp[PyData.canLayAll0,PyData.depthAll,PyData.eqvAll]
 | cons d dd ih =>
  obtain ⟨a,b,c⟩:=ih fun x hx=>h x (yaj _ hx)
  obtain ⟨a',b',c'⟩:=h d yai
  simp only[PyData.canLayAll0,PyData.depthAll,PyData.eqvAll,a,a',c,c',Bool.and_self,true_and,and_true]
  ac_rfl
theorem zr6 {dd:List PyData} (h:∀ d∈dd,Flt d):SeqAt.shaped (.tuple dd)=true/\PyData.eqv (.tuple dd) (.tuple dd)=true:=by
 obtain ⟨a,b,c⟩:=zrx h
 refine ⟨?_,by simp only[PyData.eqv];exact c⟩
 unfold SeqAt.shaped
 simp only[PyData.canLay0,PyData.depth,a,Bool.true_and]
 exact decide_eq_true (by ac_rfl)
end L2
namespace L2
open PySem
noncomputable abbrev T3:=Int × Int × Int
noncomputable def mn (a b:Int):Int:=if b<a then b else a
noncomputable def ztB (day paid t:Int) (s:Int × Int):List T3:=if s.1<=day/\mn s.2 (t+s.2-paid) > 0 then [(s.1,s.2,mn s.2 (t+s.2-paid))] else []
noncomputable def opn (day paid:Int):Int->List (Int × Int)->List T3
 | _,[]=>[]
 | t,s::l=>ztB day paid t s++opn day paid (t+s.2) l
noncomputable def p0 (a:Int):Int:=if a > 0 then a else 0
end L2
namespace L2
open PySem
noncomputable def runs:Int->List (Int × Int)->List (Int × Int)
 | _,[]=>[]
 | t,s::l=>(s.1,t+s.2)::runs (t+s.2) l
end L2
namespace L2
open PySem PySem.Spec PyProof.Rows
open AutoSeq1 (wpAny_loadPart')
end L2
namespace L2
open PySem
noncomputable def csum (U f:Int->Int) (a b:Int):Int:=Sums.sum (fun d=>(U (d+1)-U d)*f d) a b
theorem zqS {U f:Int->Int} {a b c:Int} (h1:a<=c) (h2:c<=b):csum U f a b=csum U f a c+csum U f c b:=Sums.sum_add h1 h2
theorem zrl {U f:Int->Int} {a b:Int} (h:b<=a):csum U f a b=0:=Sums.zsG h
noncomputable def zoE (b:BkT) (d:Int):Int:=if Spans.isIn b.spans d then 0 else Sums.valOf b.rates d
noncomputable def zoG (b:BkT) (d:Int):Int:=if Spans.isIn b.spans d then 0 else Sums.valOf b.lates d
noncomputable def zoe (b:BkT) (d:Int):Int:=if Spans.isIn b.spans d then 0 else p0 (upto b.dues (d-b.g)-upto b.pays d)
noncomputable def zfJ (b:BkT) (P d:Int):Int:=zoE b d*P+zoG b d*mn P (zoe b d)
structure BOk (b:BkT):Prop where
 ru:b.rates.Pairwise fun s t=>s.1<t.1
 rn:∀ s∈b.rates,0<=s.1/\0<=s.2/\s.2<=1000000
 lu:b.lates.Pairwise fun s t=>s.1<t.1
 ln:∀ s∈b.lates,0<=s.1/\0<=s.2/\s.2<=1000000
 pu:(b.pays.map (·.1)).Pairwise (·<·)
 pn:∀ s∈b.pays,0<=s.1
 du:(b.dues.map (·.1)).Pairwise (·<·)
 dn:∀ s∈b.dues,0<=s.1
 jn:Spans.Joined b.spans
 sn:∀ s∈b.spans,0<=s.1
 g0:0<=b.g
 sz:b.rates.length+b.lates.length+b.pays.length+b.dues.length+2*b.spans.length<63
theorem zpJ {t:List (Int × Int)} (h:∀ s∈t,0<=s.1/\0<=s.2/\s.2<=1000000) (d:Int):0<=Sums.valOf t d/\Sums.valOf t d<=1000000:=by
 rcases Sums.zgV (fun s hs=>(h s hs).1) d with ⟨e,_⟩ | ⟨i,x,e,_⟩
 ·rw[e];exact ⟨ydu _,by decide⟩
 ·exact (h _ (yah e)).2
theorem BOk.rt {b:BkT} (O:BOk b) (d:Int):0<=zoE b d/\zoE b d<=1000000:=by
 unfold zoE
 split
 ·exact ⟨ydu _,by decide⟩
 ·exact zpJ O.rn d
theorem BOk.lt {b:BkT} (O:BOk b) (d:Int):0<=zoG b d/\zoG b d<=1000000:=by
 unfold zoG
 split
 ·exact ⟨ydu _,by decide⟩
 ·exact zpJ O.ln d
theorem zmG {K:W.Frag} {H:Hp} {xs ys:List V} {l r:List (Int × Int)} (h:zu K H xs l) (k:zu K H ys r):zu K H (xs++ys) (l++r):=by
 induction h with
 | nil=>exact k
 | cons h _ ih=>exact .cons h ih
end L2
namespace L2
open PySem
end L2
namespace L2
open PySem
noncomputable abbrev Q4:=Int × Int × Int × Int
noncomputable def ddE (es:List Er) (d:Int):Q4:=(Sby.sm (prs "out" es) d,Sby.sm (prs "fee" es) d,if d∈dys "turn" es then 1 else 0,Sby.sm (prs "pay" es) d)
noncomputable def ddo (b:BkT) (d:Int):Q4:=ddE b.es d
noncomputable def doD (u:Int) (q:Q4) (s:Int × Int):Int × Int :=
 let s1:=Dbt.step u .lend q.1 s.1 s.2
 let s2:=Dbt.step u .fee q.2.1 s1.1 s1.2
 let s3:=if q.2.2.1=1 then Dbt.step u .turn 0 s2.1 s2.2 else s2
 Dbt.step u .take q.2.2.2 s3.1 s3.2
theorem zqB {u:Int} {q:Q4} {s:Int × Int} (hu:0<u) (l0:0<=q.1) (g:Dbt.Good u s.1 s.2):Dbt.Good u (doD u q s).1 (doD u q s).2:=by
 unfold doD
 have g1:=Dbt.zcD (w:=.lend) hu (show Dbt.Okd .lend q.1 from l0) g
 have g2:=Dbt.zcD (w:=.fee) (x:=q.2.1) hu True.intro g1
 dsimp only
 split
 ·exact Dbt.zcD (w:=.take) hu True.intro (Dbt.zcD (w:=.turn) (x:=0) hu True.intro g2)
 ·exact Dbt.zcD (w:=.take) hu True.intro g2
theorem clamp {u m n:Int} (g:Dbt.Good u m n):Dbt.mn m (Dbt.mx 0 (n / u))=m:=by
 have h:=g.2
 unfold Dbt.mn
 rw[if_neg (by ac_rfl)]
theorem zqv {u:Int} {s:Int × Int} (g:Dbt.Good u s.1 s.2):doD u (0,0,0,0) s=s:=by
 obtain ⟨m,n⟩:=s
 have c:Dbt.mn m (Dbt.mx 0 (n / u))=m:=clamp g
 simp[doD,Dbt.step,c]
section
variable (U:Int->Int) (u:Int) (b:BkT)
noncomputable def stB:Nat->Int × Int
 | 0=>(0,0)
 | k+1=>let s:=doD u (ddo b k) (stB k);(s.1,s.2+(U (k+1)-U k)*zfJ b s.1 k)
noncomputable def stA (k:Nat):Int × Int:=doD u (ddo b k) (stB U u b k)
def zqF (d:Int):Prop:=ddo b d=(0,0,0,0)
end
structure AOk (U:Int->Int) (u:Int) (b:BkT):Prop where
 hu:0<u
 out0:∀ d,0<=Sby.sm (prs "out" b.es) d
 up:∀ d:Nat,U d<=U (d+1)
 ok:BOk b
section
variable {U:Int->Int} {u:Int} {b:BkT}
theorem lk0 (d:Int):0<=zoe b d:=by
 unfold zoe p0
 split
 ·exact ydu _
 ·split <;> ac_rfl
theorem ztz (O:BOk b) {P:Int} (p:0<=P) (d:Int):0<=zfJ b P d:=by
 unfold zfJ
 have h1:=O.rt d
 have h2:=O.lt d
 have h3:=lk0 (b:=b) d
 have h4:0<=mn P (zoe b d):=by unfold mn;split <;> ac_rfl
 have:=Int.mul_nonneg h1.1 p
 have:=Int.mul_nonneg h2.1 h4
 ac_rfl
theorem zmy (A:AOk U u b):∀ k,Dbt.Good u (stB U u b k).1 (stB U u b k).2
 | 0=>Dbt.good0 u
 | k+1=>by
  have g:=zqB (q:=ddo b k) A.hu (A.out0 k) (zmy A k)
  have w:0<=(U (k+1)-U k)*zfJ b (doD u (ddo b k) (stB U u b k)).1 k:=Int.mul_nonneg (by have:=A.up k;ac_rfl) (ztz A.ok g.1 k)
  exact Dbt.zcD (w:=.grow) A.hu (show Dbt.Okd .grow _ from w) g
theorem zqt (A:AOk U u b) {k:Nat} (h:zqF b k):stA U u b k=stB U u b k:=by
 unfold stA
 rw[h]
 exact zqv (zmy A k)
theorem zqT (k:Nat):stB U u b (k+1)=((stA U u b k).1,(stA U u b k).2+(U (k+1)-U k)*zfJ b (stA U u b k).1 k):=rfl
theorem zqU (f:Int->Int) (a:Int):csum U f a (a+1)=(U (a+1)-U a)*f a:=by
 unfold csum Sums.sum
 rw[show (a+1-a).toNat=1 by ac_rfl]
 simp[Sums.S]
theorem run (A:AOk U u b) (s:Nat):∀ n:Nat,(∀ k:Nat,s<=k->k<s+n->zqF b k)->stB U u b (s+n)=((stB U u b s).1,(stB U u b s).2+csum U (zfJ b (stB U u b s).1) s (s+n:Nat))
 | 0,_=>by rw[zrl (by ac_rfl)];simp
 | n+1,h=>by
  have ih:=run A s n fun k h1 h2=>h k h1 (by ac_rfl)
  rw[show s+(n+1)=(s+n)+1 from rfl,zqT,zqt A (h (s+n) (by ac_rfl) (by ac_rfl)),ih]
  have e2:csum U (zfJ b (stB U u b s).1) s (((s+n)+1:Nat):Int)=csum U (zfJ b (stB U u b s).1) s ((s+n:Nat):Int)+(U (((s+n:Nat):Int)+1)-U ((s+n:Nat):Int))*zfJ b (stB U u b s).1 ((s+n:Nat):Int):=by
   rw[show (((s+n)+1:Nat):Int)=((s+n:Nat):Int)+1 by ac_rfl,zqS (a:=(s:Int)) (b:=((s+n:Nat):Int)+1) (c:=((s+n:Nat):Int)) (by ac_rfl) (by ac_rfl),zqU]
  rw[e2]
  exact Prod.ext rfl (Int.add_assoc ..)
theorem first (A:AOk U u b) {e:Int} (e0:0<=e) (h:∀ d,0<=d->d<e->zqF b d):stB U u b e.toNat=(0,0+csum U (zfJ b 0) 0 e):=by
 have r:=run A 0 e.toNat fun k _ h2=>h k (by ac_rfl) (by ac_rfl)
 rw[show ((0+e.toNat:Nat):Int)=e by ac_rfl,Nat.zero_add] at r
 exact r
end
def DDay (b:BkT) (d:Int):Prop:=d∈(b.outs++b.fees++b.pays).map (·.1)\/d∈b.turns
theorem Same.ztP {K:W.Frag} {H H':Hp} {a:Addr} {xs:List V} (e:Same H H') (h:SqT K H a xs):SqT K H' a xs:=by
 rcases h with (h | ⟨o,h⟩) | h
 ·exact .inl (.inl (e _ _ h))
 ·exact .inl (.inr ⟨o,e _ _ h⟩)
 ·exact .inr h
end L2
namespace L2
open PySem PySem.Spec PyProof.Rows
theorem zl2 {X:Cx} (K:W.Frag) (hK:X.K=K:=by rfl):zaT X (.builtin "isinstance") (fun xs H Q=>∃ x t n b,xs=[x,V.ty n]/\zbc K H x t/\PySem.W.kitOne K t (Value.type n)=some b/\Q (V.bl b) H):=by subst hK;exact zfY
end L2
namespace Sums
end Sums
namespace L2
open PySem Sums
theorem zkE:∀ l r:List (Int × Int),PyData.eqvAll (l.map zak) (r.map zak)=decide (l=r)
 | [],[]=>rfl
 | [],_::_=>rfl
 | _::_,[]=>rfl
 | s::l,u::r=>by
  rw[ybt,ybt]
  unfold PyData.eqvAll
  rw[zkE l r]
  obtain ⟨a,b⟩:=s
  obtain ⟨c,d⟩:=u
  show (PyData.eqv (.tuple [.int a,.int b]) (.tuple [.int c,.int d]) && decide (l=r))=_
  rw[Bool.eq_iff_iff]
  simp[PyData.eqv,PyData.eqvAll]
theorem zo5 (l r:List (Int × Int)):PyData.eqv (.list (l.map zak)) (.list (r.map zak))=decide (l=r):=by
 show PyData.eqvAll _ _=_
 exact zkE l r
end L2
namespace Cal
def leap (y:Int):Bool:=decide (y % 4=0) && (!decide (y % 100=0) || decide (y % 400=0))
noncomputable def lp (y:Int):Int:=if leap y=true then 1 else 0
noncomputable def mlen (y m:Int):Int:=if m=2 then 28+lp y else 31-(m-1) % 7 % 2
noncomputable def ny (y:Int):Int:=365*(y-2000)+(y-2000+3) / 4-(y-2000+99) / 100+(y-2000+399) / 400
noncomputable def cum (y m:Int):Int :=
 if m=1 then 0 else if m=2 then 31 else
 lp y+(if m=3 then 59 else if m=4 then 90 else if m=5 then 120 else if m=6 then 151 else if m=7 then 181 else if m=8 then 212
  else if m=9 then 243 else if m=10 then 273 else if m=11 then 304 else 334)
noncomputable def num (y m d:Int):Int:=ny y+cum y m+d-1
structure zpL (y m d:Int):Prop where
 m1:1<=m
 m2:m<=12
 d1:1<=d
 d2:d<=mlen y m
theorem st4 (y:Int):(y+1-2000+3) / 4=(y-2000+3) / 4+(if y % 4=0 then 1 else 0):=by split <;> ac_rfl
theorem zs6 (y:Int):(y+1-2000+99) / 100=(y-2000+99) / 100+(if y % 100=0 then 1 else 0):=by split <;> ac_rfl
theorem ztv (y:Int):(y+1-2000+399) / 400=(y-2000+399) / 400+(if y % 400=0 then 1 else 0):=by split <;> ac_rfl
theorem zs0 {y b d f p q r:Int}:365*(y+1-2000)+(b+p)-(d+q)+(f+r)=365*(y-2000)+b-d+f+365+(p-q+r):=by ac_rfl
theorem zty (y:Int):lp y=(if y % 4=0 then 1 else 0)-(if y % 100=0 then 1 else 0)+(if y % 400=0 then 1 else 0):=by
 have h1:y % 100=0->y % 4=0:=by ac_rfl
 have h2:y % 400=0->y % 100=0:=by ac_rfl
 unfold lp leap
 by_cases a:y % 4=0
 ·by_cases b:y % 100=0
  ·by_cases c:y % 400=0
   ·rw[if_pos a,if_pos b,if_pos c,decide_eq_true a,decide_eq_true b,decide_eq_true c];rfl
   ·rw[if_pos a,if_pos b,if_neg c,decide_eq_true a,decide_eq_true b,decide_eq_false c];rfl
  ·rw[if_pos a,if_neg b,if_neg (fun c=>b (h2 c)),decide_eq_true a,decide_eq_false b];rfl
 ·rw[if_neg a,if_neg (fun b=>a (h1 b)),if_neg (fun c=>a (h1 (h2 c))),decide_eq_false a];rfl
theorem zrz (y:Int):ny (y+1)=ny y+365+lp y:=by
 unfold ny
 rw[st4,zs6,ztv,zty]
 exact zs0
noncomputable def zke (l m:Int):Int :=
 if m=1 then 0 else if m=2 then 31 else
 l+(if m=3 then 59 else if m=4 then 90 else if m=5 then 120 else if m=6 then 151 else if m=7 then 181 else if m=8 then 212
  else if m=9 then 243 else if m=10 then 273 else if m=11 then 304 else 334)
noncomputable def zhX (l m:Int):Int:=if m=2 then 28+l else 31-(m-1) % 7 % 2
theorem zqO:∀ l:Bool,∀ k:Fin 12,(28<=zhX l.toInt (k.val+1)/\zhX l.toInt (k.val+1)<=31) /\
  (0<=zke l.toInt (k.val+1)/\zke l.toInt (k.val+1)+zhX l.toInt (k.val+1)<=365+l.toInt) /\
  (k.val<11->zke l.toInt (k.val+1+1)=zke l.toInt (k.val+1)+zhX l.toInt (k.val+1))/\zke l.toInt 12+zhX l.toInt 12=365+l.toInt:=by decide
theorem lpB (y:Int):lp y=(leap y).toInt:=by unfold lp;cases leap y <;> rfl
theorem zsU {m:Int} (h1:1<=m) (h2:m<=12):∃ k:Fin 12,m=k.val+1:=⟨⟨(m-1).toNat,by ac_rfl⟩,by show m=((m-1).toNat:Int)+1;ac_rfl⟩
theorem zqw (y m:Int):cum y m=zke (leap y).toInt m:=by rw[<-lpB];rfl
theorem zoh (y m:Int):mlen y m=zhX (leap y).toInt m:=by rw[<-lpB];rfl
theorem zqA {y m:Int} (h1:1<=m) (h2:m<=11):cum y (m+1)=cum y m+mlen y m:=by
 obtain ⟨k,rfl⟩:=zsU h1 (Int.le_trans h2 (by decide))
 rw[zqw,zqw,zoh]
 exact (zqO (leap y) k).2.2.1 (by ac_rfl)
theorem zr4 {y m:Int} (h1:1<=m) (h2:m<=12):28<=mlen y m/\mlen y m<=31:=by
 obtain ⟨k,rfl⟩:=zsU h1 h2
 rw[zoh]
 exact (zqO (leap y) k).1
theorem zsx (y:Int):cum y 12+mlen y 12=365+lp y:=by
 rw[zqw,zoh,lpB]
 exact (zqO (leap y) 0).2.2.2
noncomputable def ms (M:Int):Int:=ny (M / 12)+cum (M / 12) (M % 12+1)
noncomputable def ml (M:Int):Int:=mlen (M / 12) (M % 12+1)
theorem zlr (M:Int):28<=ml M/\ml M<=31:=zr4 (by ac_rfl) (by ac_rfl)
theorem zn5 (M:Int):ms (M+1)=ms M+ml M:=by
 unfold ms ml
 by_cases h:M % 12=11
 ·have e1:(M+1) / 12=M / 12+1:=by ac_rfl
  have e2:(M+1) % 12=0:=by ac_rfl
  rw[e1,e2,h,zrz]
  have:=zsx (M / 12)
  simp only[show (11:Int)+1=12 by rfl]
  have e3:cum (M / 12+1) (0+1)=0:=by simp[cum]
  ac_rfl
 ·have e1:(M+1) / 12=M / 12:=by ac_rfl
  have e2:(M+1) % 12=M % 12+1:=by ac_rfl
  rw[e1,e2,zqA (by ac_rfl) (by ac_rfl)]
  ac_rfl
theorem zpQ (M:Int):∀ k:Nat,ms M+k<=ms (M+k)
 | 0=>by simp
 | k+1=>by
  have h:=zpQ M k
  have h2:=zn5 (M+k)
  have h3:=zlr (M+k)
  have e:M+((k+1:Nat):Int)=M+k+1:=by ac_rfl
  rw[e,h2];ac_rfl
theorem zrC {M N:Int} (h:M<=N):ms M+(N-M)<=ms N:=by
 have:=zpQ M (N-M).toNat
 have e:M+((N-M).toNat:Int)=N:=by ac_rfl
 rw[e] at this;ac_rfl
theorem zol {M N:Int} (h:M<N):ms M+ml M<=ms N:=by
 have:=zrC (show M+1<=N by ac_rfl)
 rw[zn5] at this;ac_rfl
theorem zm6 {y m d:Int} (h1:1<=m) (h2:m<=12):num y m d=ms (12*y+m-1)+d-1:=by
 unfold num ms
 rw[show (12*y+m-1) / 12=y by ac_rfl,show (12*y+m-1) % 12+1=m by ac_rfl]
theorem zsd {y m:Int} (h1:1<=m) (h2:m<=12):ml (12*y+m-1)=mlen y m:=by
 unfold ml
 rw[show (12*y+m-1) / 12=y by ac_rfl,show (12*y+m-1) % 12+1=m by ac_rfl]
theorem between {y1 m1 d1 y2 m2 d2 k:Int} (h1:zpL y1 m1 d1) (h2:zpL y2 m2 d2) (le:num y1 m1 d1<=num y2 m2 d2)
  (hk:k=if (if mlen y2 m2<d1 then mlen y2 m2 else d1) > d2 then 12*(y2-y1)+m2-m1-1 else 12*(y2-y1)+m2-m1) :
  0<=k/\∀ (P P' L L':Int),P=12*y1+m1-1+k->P'=P+1->(L=if ml P<d1 then ml P else d1)->(L'=if ml P'<d1 then ml P' else d1) ->
   ms P+L-1<=num y2 m2 d2/\num y2 m2 d2<ms P'+L'-1:=by
 obtain ⟨a1,b1,c1,e1⟩:=h1
 obtain ⟨a2,b2,c2,e2⟩:=h2
 rw[zm6 a1 b1,zm6 a2 b2] at le
 rw[zm6 a2 b2]
 rw[<-zsd a1 b1] at e1
 rw[<-zsd a2 b2] at e2 hk
 generalize hM1:12*y1+m1-1=M1 at *
 generalize hM2:12*y2+m2-1=M2 at *
 have hk':k=if (if ml M2<d1 then ml M2 else d1) > d2 then M2-M1-1 else M2-M1:=by
  rw[hk];split <;> ac_rfl
 have hle:M1<=M2:=by
  by_cases q:M1<=M2
  ·exact q
  ·have:=zol (show M2<M1 by ac_rfl);ac_rfl
 have g:M1<M2\/M1=M2:=by ac_rfl
 have b2':=zlr M2
 constructor
 ·rcases g with g | g
  ·rw[hk'];split <;> ac_rfl
  ·subst g
   rw[hk',if_neg]
   ·ac_rfl
   ·split <;> ac_rfl
 ·intro P P' L L' hP hP' hL hL'
  have bP:=zlr P
  have bP':=zlr P'
  have hL1:1<=L/\L<=ml P:=by rw[hL];split <;> ac_rfl
  have hL1':1<=L'/\L'<=ml P':=by rw[hL'];split <;> ac_rfl
  by_cases q:(if ml M2<d1 then ml M2 else d1) > d2
  ·rw[if_pos q] at hk'
   have eP:P=M2-1:=by ac_rfl
   have eP':P'=M2:=by ac_rfl
   have:=zol (show P<M2 by ac_rfl)
   rw[eP'] at hL' ⊢
   constructor
   ·ac_rfl
   ·rw[hL'];ac_rfl
  ·rw[if_neg q] at hk'
   have eP:P=M2:=by ac_rfl
   have eP':P'=M2+1:=by ac_rfl
   have:=zol (show M2<P' by ac_rfl)
   rw[eP] at hL ⊢
   constructor
   ·rw[hL];ac_rfl
   ·ac_rfl
end Cal
namespace Cnt
open Cal
noncomputable def each (y:Int):Int:=if leap y=true then 365 else 366
end Cnt
namespace Cnt
open Cal
end Cnt
namespace Cnt
open Cal
end Cnt
namespace Cnt
open Cal
end Cnt
namespace Cnt
open Cal
end Cnt
theorem L2.us1 {α:Type} {P:List α->Prop} (h:∀ a,P [a]):∀ us:List α,us.length=1->P us
 | [a],_=>h a
theorem L2.us2 {α:Type} {P:List α->Prop} (h:∀ a b,P [a,b]):∀ us:List α,us.length=2->P us
 | [a,b],_=>h a b
theorem L2.us3 {α:Type} {P:List α->Prop} (h:∀ a b c,P [a,b,c]):∀ us:List α,us.length=3->P us
 | [a,b,c],_=>h a b c
theorem L2.us4 {α:Type} {P:List α->Prop} (h:∀ a b c d,P [a,b,c,d]):∀ us:List α,us.length=4->P us
 | [a,b,c,d],_=>h a b c d
theorem L2.us5 {α:Type} {P:List α->Prop} (h:∀ a b c d e,P [a,b,c,d,e]):∀ us:List α,us.length=5->P us
 | [a,b,c,d,e],_=>h a b c d e
theorem L2.qb {Q:L2.VK} {H:L2.Hp} {a b:Bool} (h:Q (.bl a) H) (e:a=b):Q (.bl b) H:=e ▸ h
local macro_rules | `(tactic| walk_at "cap")=>`(tactic| repeat (first | exact trivial | refine ⟨⟨by first | exact Or.inl rfl | exact Or.inr rfl,by first | exact Or.inl rfl | exact Or.inr rfl,rfl⟩,?_⟩))
local macro_rules | `(tactic| walk_at "sub")=>`(tactic| repeat (first | exact trivial | refine ⟨rfl,?_⟩))
local macro_rules | `(tactic| walk_at "has")=>`(tactic| repeat (first | exact trivial | refine ⟨fun _=>⟨_,rfl⟩,?_⟩ | refine ⟨(fun z=>by (rcases z with z | z <;> first | cases (show PySem.NameKind.local=PySem.NameKind.cell from z) | cases (show PySem.NameKind.local=PySem.NameKind.free from z) | cases (show PySem.NameKind.globalImplicit=PySem.NameKind.cell from z) | cases (show PySem.NameKind.globalImplicit=PySem.NameKind.free from z))),?_⟩))
local macro_rules | `(tactic| walk_at "rd1")=>`(tactic| first
 | with_reducible refine L2.ztN ?_
 | with_reducible refine L2.zsI ?_
 | refine ⟨_,rfl,?_⟩
 | refine ⟨_,_,rfl,rfl,?_⟩
 | refine ⟨_,_,rfl,?_⟩
 | refine ⟨_,_,_,rfl,?_⟩
 | refine ⟨rfl,?_⟩
 | refine ⟨(⟨by decide,by decide⟩:L2.CDiv _ _),?_⟩
 | refine ⟨(show (0:Int)<_ by first | decide | walk_at "o"),?_⟩
 | refine ⟨(⟨by decide,by decide,by decide⟩:L2.CPow _ _),?_⟩
 | refine ⟨(Or.inl ⟨by first | decide | walk_at "o",by first | decide | walk_at "o"⟩:L2.CMul _ _),?_⟩
 | refine ⟨(Or.inr ⟨by first | decide | walk_at "o",by first | decide | walk_at "o"⟩:L2.CMul _ _),?_⟩
 | refine ⟨_,_,rfl,.inl (by assumption),?_⟩
 | refine ⟨_,_,_,_,rfl,rfl,L2.SqT.of (by assumption),rfl,?_⟩
 | (refine ⟨_,_,_,_,rfl,(by assumption),(by first | walk_at "o" | decide),(by first | walk_at "o" | decide),(by first | walk_at "o" | decide),?_⟩;intro r' r0' r1')
 | (refine ⟨_,_,_,rfl,(by assumption),(by walk_at "o"),(by walk_at "o"),?_⟩;intro r' r0' r1')
 | refine And.intro (by walk_at "o") ?_
 | refine And.intro (Nat.le_of_ble_eq_true rfl) ?_
 | with_reducible refine L2.iteNF ?_
 | with_reducible refine L2.ztp ?_
 | with_reducible refine L2.ifI (fun _=>?_) (fun _=>?_)
 | with_reducible refine L2.ztK (fun _=>?_) (fun _=>?_)
 | with_reducible refine L2.ifD (fun _=>?_) (fun _=>?_)
 | with_reducible refine L2.zuc (fun _=>?_) (fun _=>?_))
local macro_rules | `(tactic| walk_at "rd")=>`(tactic| repeat' walk_at "rd1")
seal L2.PSs L2.PS L2.PE L2.PT L2.PA L2.PI L2.PG L2.PGs L2.PW L2.PC L2.PO
local macro_rules | `(tactic| walk_at "rd1")=>`(tactic| first
 | with_reducible refine L2.ztX ?_
 | with_reducible refine L2.zt3 (by decide) ?_
 | with_reducible refine L2.ifSNT ?_
 | with_reducible refine L2.ifSNF (by decide) ?_
 | ((with_reducible refine And.intro (a:=L2.zq8 _ _) ?_ ?_);(exact ⟨by first | decide | walk_at "o",by first | decide | walk_at "o"⟩))
 | fail)
local macro_rules | `(tactic| walk_at "rd1")=>`(tactic| ((with_reducible refine L2.sqG ?_);(first | (with_reducible refine L2.zs5 ?_) | (with_reducible refine L2.ztI ?_) | (with_reducible refine L2.zt1 ?_) | (with_reducible refine L2.zug ?_) | (with_reducible refine L2.ztQ ?_) | (with_reducible refine L2.ztW ?_) | (with_reducible refine L2.zub ?_) | (with_reducible refine L2.ztO ?_) | (with_reducible refine L2.zt9 ?_));intros))
local macro_rules | `(tactic| walk_at "s1")=>`(tactic| first | exact L2.us1 fun _=>rfl | exact L2.us2 fun _ _=>rfl | exact L2.us3 fun _ _ _=>rfl | exact L2.us4 fun _ _ _ _=>rfl | exact L2.us5 fun _ _ _ _ _=>rfl | k_is | rfl)
local macro_rules | `(tactic| walk_at "lc")=>`(tactic| first | exact Or.inl rfl | exact Or.inr rfl)
local macro_rules | `(tactic| walk_at "sp")=>`(tactic| exact ⟨rfl,rfl,rfl,by decide +kernel,rfl,by decide +kernel,by decide +kernel⟩)
local macro_rules | `(tactic| nofun)=>`(tactic| walk_at "rd")
abbrev qaa:List PySem.Str:=["self"]
abbrev qab:List PySem.Str:=["_law_script"]
abbrev qac:List PySem.Str:=["entries","word"]
abbrev qad:List PySem.Str:=["self","day","amount"]
abbrev qae:List PySem.Str:=["self","day"]
abbrev qaf:List PySem.Str:=["pairs"]
abbrev qag:List PySem.Str:=["_law_rows_here","_law_word"]
abbrev qah:List PySem.Str:=["_law_script","_law_k"]
abbrev qai:List PySem.Str:=["_law_row_here"]
abbrev qaj:List PySem.Str:=["_law_rows_here","_law_base_here"]
abbrev qak:List PySem.Str:=["_law_rows_here"]
abbrev qal:List PySem.Str:=["self","day","rate"]
abbrev qam:List PySem.Str:=["self","count","grace","entries"]
abbrev qan:List PySem.Str:=["_law_sums_here"]
abbrev qao:List PySem.Str:=["self","entries"]
abbrev qap:List PySem.Str:=["_law_cell","_law_many"]
abbrev qaq:List PySem.Str:=["self","day","until"]
abbrev qar:List PySem.Str:=["thing","least","most"]
abbrev qas:List PySem.Str:=["_law_cell","_law_base_here","_law_wide"]
abbrev qat:List PySem.Str:=["count","grace"]
abbrev qau:List PySem.Str:=["entries","spans"]
abbrev qav:List PySem.Str:=["_law_book","_law_entries"]
abbrev qaw:List PySem.Str:=["rows","day"]
abbrev qax:List PySem.Str:=["_law_word","_law_day","_law_xs"]
abbrev qay:List PySem.Str:=["_law_flags","_law_base_here","_law_day"]
abbrev qaz:List PySem.Str:=["spans","day"]
abbrev qba:List PySem.Str:=["entries"]
abbrev qbb:List PySem.Str:=["_law_book"]
abbrev qbc:List PySem.Str:=["_law_script","_law_first","_law_last","_law_wide"]
abbrev qbd:List PySem.Str:=["_law_book","_law_script","_law_rows_here"]
abbrev qbe:List PySem.Str:=["_law_count_here","_law_grace_here","_law_entries"]
abbrev qbf:List PySem.Str:=["_law_script","_law_day"]
namespace My
open PySem L2
local macro_rules | `(tactic| exists $a:term,$b:term,$z:term)=>do
 let [v,H,Q,E,h,f,c,A,o,s,r]:=[`vs,`H,`Q,`E,`h,`f,`cdv,`A,`outer,`s,`hr].map Lean.mkIdent | unreachable!
 `(tactic| refine $a $b (fun $v $H $Q $E $h=>?_) (fun $f $c $A $o $s $H $v $Q $E $r $h=>?_))
noncomputable def top (i:Nat):Stmt:=PySem.Challenge.pw_loanroll_k41_books_told.main.body.getD i (.Pass ⟨0,0,0,0⟩)
structure Txt (K:W.Frag) (mg:Str->Option Value):Prop where
 zlO:mg "bool" = none
 zi6:mg "dict" = none
 zlq:mg "int" = none
 zat:mg "isinstance" = none
 zeq:mg "len" = none
 zbt:mg "list" = none
 zjB:mg "max" = none
 zlu:mg "min" = none
 zgg:mg "range" = none
 zh8:mg "set" = none
 zaN:mg "sorted" = none
 cls:∀ kd:Kd,Cls K (cA K kd.cls)
 mk0:∀ kd:Kd,Mk0 K (cA K kd.cls)
 ikK:∀ kd:Kd,zqH K (cA K kd.cls)
 kitK0:∀ k:Kd,PySem.W.kitOne K (.ref (cA K k.cls)) (.ref (cA K (Kd.cls .plain)))=some (zqk k .plain)
 kitS:∀ k:Kd,PySem.W.kitOne K (.ref (cA K k.cls)) (.type "str")=some false
 zgj:mg "Bank" = some (.ref (cA K "Bank"))
 zgC:mg "Book" = some (.ref (cA K "Book"))
 zhV:mg "Count" = some (.ref (cA K "Count"))
 zlp:mg "Due" = some (.ref (cA K "Due"))
 zgl:mg "Entry" = some (.ref (cA K "Entry"))
 zjV:mg "Exact" = some (.ref (cA K "Exact"))
 zoI:mg "Fee" = some (.ref (cA K "Fee"))
 zmd:mg "Late" = some (.ref (cA K "Late"))
 zdF:mg "LoanError" = some (.ref (cA K "LoanError"))
 zcG:mg "NoTerms" = some (.ref (cA K "NoTerms"))
 zop:mg "Out" = some (.ref (cA K "Out"))
 zls:mg "Pay" = some (.ref (cA K "Pay"))
 zlT:mg "Rate" = some (.ref (cA K "Rate"))
 zjM:mg "Still" = some (.ref (cA K "Still"))
 ziV:mg "Thirty" = some (.ref (cA K "Thirty"))
 zcE:mg "TooMany" = some (.ref (cA K "TooMany"))
 zgw:mg "Turn" = some (.ref (cA K "Turn"))
 zv:Cls K (cA K "Book")
 zew:MkI K (cA K "Book")
 clE:∀ k:Ek,Cls K (cA K k.cls)
 zaC:∀ k:Ek,zX K (cA K k.cls) "amount"
 zS:∀ k:Ek,zX K (cA K k.cls) "day"
 zeF:∀ k:Ek,zX K (cA K k.cls) "rate"
 zfC:∀ k:Ek,zX K (cA K k.cls) "until"
 zjv:MkI K (cA K "Due")
 zmS:MkI K (cA K "Fee")
 zjQ:MkI K (cA K "Late")
 zmo:MkI K (cA K "Out")
 zjD:MkI K (cA K "Pay")
 zj2:MkI K (cA K "Rate")
 ziH:MkI K (cA K "Still")
 zey:MkI K (cA K "Turn")
 zbz:zX K (cA K "Book") "due_sums"
 zaZ:zX K (cA K "Book") "fee_sums"
 zbl:zX K (cA K "Book") "late_rows"
 za7:zX K (cA K "Book") "out_sums"
 zaR:zX K (cA K "Book") "own_count"
 zaE:zX K (cA K "Book") "own_entries"
 zaP:zX K (cA K "Book") "own_grace"
 zaY:zX K (cA K "Book") "pay_sums"
 zbm:zX K (cA K "Book") "rate_rows"
 zbE:zX K (cA K "Book") "spans"
 zaQ:zX K (cA K "Book") "turn_days"
 x_NoTerms:XK2 K (cA K "NoTerms")
 x_TooMany:XK2 K (cA K "TooMany")
 z_NoTerms:XK1 K (cA K "NoTerms")
 z_TooMany:XK1 K (cA K "TooMany")
 e_NoTerms_NoTerms:PySem.W.exmOne K (.ref (cA K "NoTerms")) (.ref (cA K "NoTerms"))=some true
 e_TooMany_TooMany:PySem.W.exmOne K (.ref (cA K "TooMany")) (.ref (cA K "TooMany"))=some true
 eF_TooMany_NoTerms:PySem.W.exmOne K (.ref (cA K "TooMany")) (.ref (cA K "NoTerms"))=some false
 k_NoTerms_LoanError:PySem.W.kitOne K (.ref (cA K "NoTerms")) (.ref (cA K "LoanError"))=some true
 k_NoTerms_TooMany:PySem.W.kitOne K (.ref (cA K "NoTerms")) (.ref (cA K "TooMany"))=some false
 k_TooMany_LoanError:PySem.W.kitOne K (.ref (cA K "TooMany")) (.ref (cA K "LoanError"))=some true
 k_TooMany_NoTerms:PySem.W.kitOne K (.ref (cA K "TooMany")) (.ref (cA K "NoTerms"))=some false
 kT_NoneType_Count:PySem.W.kitOne K (.type "NoneType") (.ref (cA K "Count"))=some false
 kT_str_Count:PySem.W.kitOne K (.type "str") (.ref (cA K "Count"))=some false
 kT_int_Count:PySem.W.kitOne K (.type "int") (.ref (cA K "Count"))=some false
 kT_bool_Count:PySem.W.kitOne K (.type "bool") (.ref (cA K "Count"))=some false
 zdt:∃ t,mg "MOST_ENTRIES" = some (.int 500 t)
 zfa:∃ t,mg "MOST_GRACE" = some (.int 366 t)
noncomputable abbrev zeo:Stmt:=top 6
noncomputable abbrev zc4:Stmt:=inClass (top 8) 0
noncomputable abbrev zdN:Stmt:=inClass (top 9) 0
noncomputable abbrev zcw:Stmt:=inClass (top 10) 0
noncomputable abbrev zcO:Stmt:=inClass (top 11) 0
noncomputable abbrev za9:Stmt:=inClass (top 13) 0
noncomputable abbrev zc1:Stmt:=inClass (top 13) 1
noncomputable abbrev zes:Stmt:=inClass (top 16) 0
noncomputable abbrev zet:Stmt:=inClass (top 17) 0
noncomputable abbrev zen:Stmt:=inClass (top 18) 0
noncomputable abbrev zep:Stmt:=inClass (top 19) 0
noncomputable abbrev zdv:Stmt:=inClass (top 20) 0
noncomputable abbrev zdH:Stmt:=inClass (top 21) 0
noncomputable abbrev zdC:Stmt:=inClass (top 22) 0
noncomputable abbrev zcT:Stmt:=inClass (top 23) 1
noncomputable abbrev zgM:Stmt:=top 25
noncomputable abbrev zei:Stmt:=top 29
noncomputable abbrev zh0:Stmt:=top 30
noncomputable abbrev zgU:Stmt:=top 32
noncomputable abbrev zc8:Stmt:=inClass (top 41) 1
noncomputable abbrev zbA:Stmt:=inClass (top 41) 12
noncomputable abbrev zdL:Stmt:=inClass (top 41) 11
noncomputable abbrev zca:Stmt:=inClass (top 41) 3
noncomputable abbrev zdD:Stmt:=inClass (top 41) 5
noncomputable abbrev zcZ:Stmt:=inClass (top 41) 2
noncomputable abbrev zc3:Stmt:=inClass (top 41) 9
noncomputable abbrev zdI:Stmt:=inClass (top 41) 4
noncomputable abbrev zdx:Stmt:=inClass (top 41) 6
noncomputable abbrev zcX:Stmt:=inClass (top 41) 8
noncomputable abbrev zcr:Stmt:=inClass (top 41) 10
noncomputable abbrev zcK:Stmt:=inClass (top 41) 7
noncomputable abbrev zb3:Stmt:=top 43
noncomputable abbrev zda:Stmt:=top 44
noncomputable abbrev zc5:Stmt:=top 45
noncomputable abbrev zdb:Stmt:=top 52
noncomputable abbrev zcP:Stmt:=top 53
noncomputable abbrev zdB:Stmt:=top 54
noncomputable abbrev zct:Stmt:=top 56
noncomputable abbrev zcu:Stmt:=top 58
noncomputable abbrev zcS:Stmt:=top 61
noncomputable abbrev zbG:Stmt:=inClass (top 13) 2
noncomputable abbrev zR:Stmt:=inClass (top 14) 0
noncomputable abbrev zV:Stmt:=inClass (top 14) 1
noncomputable abbrev zaI:Stmt:=inClass (top 15) 0
noncomputable abbrev zaL:Stmt:=inClass (top 15) 1
noncomputable abbrev zc0:Stmt:=inClass (top 23) 0
noncomputable abbrev zdy:Stmt:=inClass (top 23) 2
noncomputable abbrev zdM:Stmt:=top 24
noncomputable abbrev zgN:Stmt:=top 26
noncomputable abbrev zfu:Stmt:=top 27
noncomputable abbrev zh4:Stmt:=top 33
noncomputable abbrev zcV:Stmt:=top 38
noncomputable abbrev zcv:Stmt:=top 39
noncomputable abbrev zem:Stmt:=top 46
noncomputable abbrev zdz:Stmt:=top 47
noncomputable abbrev zcY:Stmt:=top 49
noncomputable abbrev zcI:Stmt:=top 51
noncomputable abbrev zdw:Stmt:=top 55
noncomputable abbrev zcL:Stmt:=top 57
noncomputable abbrev zdK:Stmt:=top 59
noncomputable abbrev zcs:Stmt:=top 37
noncomputable abbrev zcq:Stmt:=top 40
noncomputable abbrev zdG:Stmt:=top 48
noncomputable abbrev zej:Stmt:=top 60
noncomputable abbrev zdJ:Stmt:=inClass (top 41) 0
noncomputable abbrev zdu:Stmt:=top 50
noncomputable abbrev zfy:Stmt:=top 62
noncomputable abbrev zbB:Stmt:=inClass (top 41) 13
noncomputable abbrev zcc:Stmt:=top 63
noncomputable abbrev zb6:Stmt:=top 64
noncomputable abbrev zbP:Stmt:=top 65
noncomputable abbrev zju:Stmt:=top 66
section
variable {P:Program} {w:World} {K:W.Frag} {mg:Str->Option Value} {base:Heap}
def zim (K:W.Frag):Sp:=fun vs H Q _=>∃ x T,vs=[x]/\zjc K H x T/\Q (.bl (decide (T = "int"))) H
theorem znC:zj ["thing"] ["thing"] (zh zeo):=by walk_at "sp"
theorem zoU (S:Src K mg "is_whole" zeo ["thing"]) (T:Txt K mg)  : Def P w K mg base 1 "is_whole" ["thing"] (zim K):=by
 exists S.ok,znC,0
 all_goals obtain ⟨x,Tk,rfl,hk,h⟩:=h
 ·rfl
 refine ⟨_,(zg (zk (zm2 (zI zfY rfl T.zat PyProof.Rows.boot_isinstance (za (pv 0) (za (zjK (v:=.ty "int") rfl T.zlq PyProof.Rows.boot_int rfl) zc))) (zl6 (zst (zI zfY rfl T.zat PyProof.Rows.boot_isinstance (za (pv 0) (za (zjK (v:=.ty "bool") rfl T.zlO PyProof.Rows.boot_bool rfl) zc)))))))),?_⟩
 nofun
 refine ⟨_,_,_,_,rfl,hk.1,zrP hk.2,?_⟩
 nofun
 ·refine ⟨_,_,_,_,rfl,hk.1,zqx hk.2,?_⟩
  nofun
  rename_i z
  exact qb h (by rcases z with rfl | rfl <;> decide)
 ·rename_i z
  exact qb h (decide_eq_false fun q=>z (.inl q))
noncomputable def nm:Kd->Str
 | .plain => "plain"
 | .bank => "bank"
 | .thirty => "thirty"
 | .exact => "exact"
def zcH (kd:Kd) (K:W.Frag):Sp:=fun vs H Q _=>∃ a,vs=[.ref a]/\Q (.str (nm kd)) H
theorem zla:zj qaa qaa (zh zc4):=by walk_at "sp"
theorem zmI (kd:Kd) (hk:kd=.plain) (S:zr K (cA K kd.cls) "name" "Count.name" zc4 qaa) (T:Txt K mg)  : zB P w K mg base 1 (cA K kd.cls) "name" qaa (zcH kd K):=by
 subst hk
 exists S.ok,zla,0
 all_goals obtain ⟨a,rfl,h⟩:=h
 ·rfl
 refine ⟨_,(zg (zk zp)),?_⟩
 nofun
 exact h
theorem zmU:zj qaa qaa (zh zdN):=by walk_at "sp"
theorem znr (kd:Kd) (hk:kd=.bank) (S:zr K (cA K kd.cls) "name" "Bank.name" zdN qaa) (T:Txt K mg)  : zB P w K mg base 1 (cA K kd.cls) "name" qaa (zcH kd K):=by
 subst hk
 exists S.ok,zmU,0
 all_goals obtain ⟨a,rfl,h⟩:=h
 ·rfl
 refine ⟨_,(zg (zk zp)),?_⟩
 nofun
 exact h
theorem zj4:zj qaa qaa (zh zcw):=by walk_at "sp"
theorem zk2 (kd:Kd) (hk:kd=.thirty) (S:zr K (cA K kd.cls) "name" "Thirty.name" zcw qaa) (T:Txt K mg)  : zB P w K mg base 1 (cA K kd.cls) "name" qaa (zcH kd K):=by
 subst hk
 exists S.ok,zj4,0
 all_goals obtain ⟨a,rfl,h⟩:=h
 ·rfl
 refine ⟨_,(zg (zk zp)),?_⟩
 nofun
 exact h
theorem zk8:zj qaa qaa (zh zcO):=by walk_at "sp"
theorem zmj (kd:Kd) (hk:kd=.exact) (S:zr K (cA K kd.cls) "name" "Exact.name" zcO qaa) (T:Txt K mg)  : zB P w K mg base 1 (cA K kd.cls) "name" qaa (zcH kd K):=by
 subst hk
 exists S.ok,zk8,0
 all_goals obtain ⟨a,rfl,h⟩:=h
 ·rfl
 refine ⟨_,(zg (zk zp)),?_⟩
 nofun
 exact h
def zaO (K:W.Frag):Sp:=fun vs H Q _=>L2.Ee5 fun p C dx (fs:List (Str × V)) d=>L2.Aa6 (vs=[.ref p,.int d]) (H p=some (.ins C dx fs)) (Cls K C) (zX K C "day") (fs.length<1000) (Q .non (upd H p (.ins C dx (zas "day" (.int d) fs))))
theorem zhd:zj qae qae (zh za9):=by walk_at "sp"
theorem zlR (x:Str) (S:zr K (cA K x) "__init__" "Entry.__init__" za9 qae) (T:Txt K mg)  : zB P w K mg base 1 (cA K x) "__init__" qae (zaO K):=by
 exists S.ok,zhd,0
 all_goals obtain ⟨p,C,dx,fs,d,rfl,e,hc,hn,hl,h⟩:=h
 ·rfl
 refine ⟨_,(zg (zhJ (pv 0) (pv 1) rfl)),?_⟩
 nofun
 refine ⟨p,C,dx,fs,rfl,e,hc,hn,hl,?_⟩
 exact h
theorem zk6 (S:zma K (cA K "Entry") "__init__" "Entry.__init__" za9 qae) (T:Txt K mg)  : zj0 P w K mg base 1 (cA K "Entry") "__init__" qae (zaO K):=by
 exists S.ok,zhd,0
 all_goals obtain ⟨p,C,dx,fs,d,rfl,e,hc,hn,hl,h⟩:=h
 ·rfl
 refine ⟨_,(zg (zhJ (pv 0) (pv 1) rfl)),?_⟩
 nofun
 refine ⟨p,C,dx,fs,rfl,e,hc,hn,hl,?_⟩
 exact h
def zab (k:Ek) (K:W.Frag):Sp:=fun vs H Q _=>∃ a,vs=[.ref a]/\Q (.str k.word) H
theorem zkT:zj qaa qaa (zh zc1):=by walk_at "sp"
theorem zlX (kd:Ek) (hk:kd=.base) (S:zr K (cA K kd.cls) "word" "Entry.word" zc1 qaa) (T:Txt K mg)  : zB P w K mg base 1 (cA K kd.cls) "word" qaa (zab kd K):=by
 subst hk
 exists S.ok,zkT,0
 all_goals obtain ⟨a,rfl,h⟩:=h
 ·rfl
 refine ⟨_,(zg (zk zp)),?_⟩
 nofun
 exact h
theorem znv:zj qaa qaa (zh zes):=by walk_at "sp"
theorem zon (kd:Ek) (hk:kd=.out) (S:zr K (cA K kd.cls) "word" "Out.word" zes qaa) (T:Txt K mg)  : zB P w K mg base 1 (cA K kd.cls) "word" qaa (zab kd K):=by
 subst hk
 exists S.ok,znv,0
 all_goals obtain ⟨a,rfl,h⟩:=h
 ·rfl
 refine ⟨_,(zg (zk zp)),?_⟩
 nofun
 exact h
theorem znc:zj qaa qaa (zh zet):=by walk_at "sp"
theorem zoF (kd:Ek) (hk:kd=.fee) (S:zr K (cA K kd.cls) "word" "Fee.word" zet qaa) (T:Txt K mg)  : zB P w K mg base 1 (cA K kd.cls) "word" qaa (zab kd K):=by
 subst hk
 exists S.ok,znc,0
 all_goals obtain ⟨a,rfl,h⟩:=h
 ·rfl
 refine ⟨_,(zg (zk zp)),?_⟩
 nofun
 exact h
theorem znE:zj qaa qaa (zh zen):=by walk_at "sp"
theorem zoi (kd:Ek) (hk:kd=.pay) (S:zr K (cA K kd.cls) "word" "Pay.word" zen qaa) (T:Txt K mg)  : zB P w K mg base 1 (cA K kd.cls) "word" qaa (zab kd K):=by
 subst hk
 exists S.ok,znE,0
 all_goals obtain ⟨a,rfl,h⟩:=h
 ·rfl
 refine ⟨_,(zg (zk zp)),?_⟩
 nofun
 exact h
theorem znD:zj qaa qaa (zh zep):=by walk_at "sp"
theorem zoB (kd:Ek) (hk:kd=.due) (S:zr K (cA K kd.cls) "word" "Due.word" zep qaa) (T:Txt K mg)  : zB P w K mg base 1 (cA K kd.cls) "word" qaa (zab kd K):=by
 subst hk
 exists S.ok,znD,0
 all_goals obtain ⟨a,rfl,h⟩:=h
 ·rfl
 refine ⟨_,(zg (zk zp)),?_⟩
 nofun
 exact h
theorem zl3:zj qaa qaa (zh zdv):=by walk_at "sp"
theorem znu (kd:Ek) (hk:kd=.turn) (S:zr K (cA K kd.cls) "word" "Turn.word" zdv qaa) (T:Txt K mg)  : zB P w K mg base 1 (cA K kd.cls) "word" qaa (zab kd K):=by
 subst hk
 exists S.ok,zl3,0
 all_goals obtain ⟨a,rfl,h⟩:=h
 ·rfl
 refine ⟨_,(zg (zk zp)),?_⟩
 nofun
 exact h
theorem zl5:zj qaa qaa (zh zdH):=by walk_at "sp"
theorem znb (kd:Ek) (hk:kd=.rate) (S:zr K (cA K kd.cls) "word" "Rate.word" zdH qaa) (T:Txt K mg)  : zB P w K mg base 1 (cA K kd.cls) "word" qaa (zab kd K):=by
 subst hk
 exists S.ok,zl5,0
 all_goals obtain ⟨a,rfl,h⟩:=h
 ·rfl
 refine ⟨_,(zg (zk zp)),?_⟩
 nofun
 exact h
theorem zmt:zj qaa qaa (zh zdC):=by walk_at "sp"
theorem znH (kd:Ek) (hk:kd=.late) (S:zr K (cA K kd.cls) "word" "Late.word" zdC qaa) (T:Txt K mg)  : zB P w K mg base 1 (cA K kd.cls) "word" qaa (zab kd K):=by
 subst hk
 exists S.ok,zmt,0
 all_goals obtain ⟨a,rfl,h⟩:=h
 ·rfl
 refine ⟨_,(zg (zk zp)),?_⟩
 nofun
 exact h
theorem zkZ:zj qaa qaa (zh zcT):=by walk_at "sp"
theorem zm0 (kd:Ek) (hk:kd=.still) (S:zr K (cA K kd.cls) "word" "Still.word" zcT qaa) (T:Txt K mg)  : zB P w K mg base 1 (cA K kd.cls) "word" qaa (zab kd K):=by
 subst hk
 exists S.ok,zkZ,0
 all_goals obtain ⟨a,rfl,h⟩:=h
 ·rfl
 refine ⟨_,(zg (zk zp)),?_⟩
 nofun
 exact h
theorem za6:∀ {xs ys:List Int},xs.Nodup->(∀ x∈xs,x∈ys)->xs.length<=ys.length
 | [],_,_,_=>ycy _
 | x::xs,ys,nd,h=>by
  have hx:=h x yai
  obtain ⟨nx,nd'⟩:=ybm.mp nd
  have:=za6 (ys:=ys.erase x) nd' fun z hz=>(List.mem_erase_of_ne (fun (q:z=x)=>nx (by rw[<-q];exact hz))).mpr (h z (yaj _ hz))
  rw[List.length_erase_of_mem hx] at this
  have:=List.length_pos_of_mem hx
  rw[ybd]
  omega
structure Fd (es:List Er):Prop where
 len:es.length<=500
 rt:(prs "rate" es).length<=61
 lt:(prs "late" es).length<=61
 st:(prs "still" es).length<=61
 few:∃ td:List Int,td.length<=60/\∀ e∈es,e.2.1∈td
def zhT (K:W.Frag):Sp:=fun vs H Q _=>∃ (p:Addr) (xs:List V) (l:List (Int × Int)),vs=[.ref p]/\H p=some (.lst xs)/\zu K H xs l/\l.length<=500/\(∃ td:List Int,td.length<=61/\∀ k∈l.map (·.1),k∈td) /\
 ∀ q H' ws r,H q=none->Same H H'->H' q=some (.lst ws)->zu K H' ws r->Sby.Tab r l->Q (.ref q) H'
theorem zhL:zj ["pairs", "sums", "pair"] qaf (zh zgM):=by walk_at "sp"
theorem zqh (S:Src K mg "summed" zgM qaf) (T:Txt K mg)  : Def P w K mg base 1 "summed" qaf (zhT K):=by
 exists S.ok,zhL,0
 all_goals obtain ⟨p,xs,l,rfl,ep,hR,hl,⟨td,tdl,tdm⟩,h⟩:=h
 ·rfl
 refine ⟨_,(zf (zE (i:=1) zhL.nd rfl (by walk_at "lc") zqQ)
  (zf (zbW PassesOwn.never rfl (zM (pv 0)) (zO (i:=2) zhL.nd rfl (by walk_at "lc"))
  (zg (zrY (pv 1) (zx za0 (pv 2) zd (fun _ _=>rfl)) (zo zaF (zrS (pv 1) (zx za0 (pv 2) zd (fun _ _=>rfl)) zd) (zx za0 (pv 2) zd (fun _ _=>rfl))))))
  (zg (zk (zI (zhD rfl) rfl T.zaN PyProof.Rows.boot_sorted (za (zmg (pv 1)) zc)))))),?_⟩
 nofun
 intro d nd
 have sd:=zb nd (zbn P w d [])
 have ed:=zq (zbn P w d []) nd
 have small:∀ {acc:List (Int × Int)} {n:Nat},Sby.Tot acc (l.take n)->acc.length<=61:=fun {acc n} t=>by
  have:=za6 t.nd fun k hk=>tdm k (by
   have:=(t.mem k).mp hk
   rw[List.map_take] at this
   exact yco this)
  rw[yab] at this
  ac_rfl
 nofun
 refine ⟨⟨_,SqL.of (sd _ _ ep)⟩,zbV (xs:=xs) (fun i σ H'=>∃ (acc:List (Int × Int)) (z:Option V),(Same H H'/\H' d=some (zbn P w d acc))/\Sby.Tot acc (l.take i)/\σ=[some (.ref p),some (.ref d),z]) ⟨[],_,⟨sd,ed⟩,by rw[List.take_zero];exact Sby.Tot.nil,rfl⟩ ?_ ?_ ?_⟩
 ·rintro i σ H' _ ⟨acc,z,⟨sH,_⟩,_⟩
  exact SqL.of (sH _ _ ep)
 ·rintro i x σ H' hx ⟨acc,z,⟨sH,eD⟩,tt,rfl⟩
  obtain ⟨t,s,rfl,hs,ht⟩:=(hR.same sH).get hx
  have al:=small tt
  nofun
  refine ⟨d,acc,rfl,eD,?_⟩
  nofun
  refine ⟨eD,?_⟩
  rw[tt.look]
  nofun
  refine ⟨d,acc,s.1,_,rfl,rfl,rfl,eD,ycz al (by decide),?_⟩
  refine ⟨zai acc s.1 (Sby.sm (l.take i) s.1+s.2),_,⟨zD sH nd,ze⟩,?_,rfl⟩
  rw[ybf,hs]
  exact tt.step s.1 s.2
 ·rintro σ H' ⟨acc,z,⟨sH,eD⟩,tt,rfl⟩
  have al:=small tt
  rw[hR.length,List.take_length] at tt
  nofun
  refine ⟨d,acc,rfl,eD,fun v H2 nv s2 ev=>?_⟩
  nofun
  refine ⟨v,d,acc,rfl,ev,s2 _ _ eD,by ac_rfl,fun q H3 ws r nq s3 eq hr' pm up=>?_⟩
  exact h q H3 ws r (zt (sH.trans s2) nq) (sH.trans (s2.trans s3)) eq hr' (tt.tab pm up)
def zix (K:W.Frag):Sp:=fun vs H Q _=>∃ (p:Addr) (xs:List V) (t:List (Int × Int)),vs=[.ref p]/\H p=some (.lst xs)/\zu K H xs t/\t.length<64/\(∀ s∈t,0<=s.1)/\∀ q H' ws (r:List (Int × Int)),H q=none->Same H H'->H' q=some (.lst ws)->zu K H' ws r->Stills.TabOf t r->r=(r.map (·.1)).map (fun d=>(d,Sums.valOf t d))->r.length<=t.length->Q (.ref q) H'
theorem zni:zj qaf qaf (zh zei):=by walk_at "sp"
theorem zok (S:Src K mg "table_of" zei qaf) (T:Txt K mg)  : Def P w K mg base 1 "table_of" qaf (zix K):=by
 exists S.ok,zni,0
 all_goals obtain ⟨p,xs,t,rfl,hp,hR,hl,t0,h⟩:=h
 ·rfl
 refine ⟨_,(zg (zk (zI (zhD rfl) rfl T.zaN PyProof.Rows.boot_sorted (za (zmg (zae (zjE rfl) rfl T.zi6 PyProof.Rows.boot_dict (za (pv 0) zc))) zc)))),?_⟩
 nofun
 refine ⟨p,xs,t,rfl,hp,hR,hl,?_⟩
 intro d H1 nd s1 e1
 nofun
 refine ⟨d,_,rfl,e1,?_⟩
 intro v H2 nv s2 e2
 nofun
 have dl:=znt t
 refine ⟨v,d,_,rfl,e2,s2 _ _ e1,by ac_rfl,?_⟩
 intro q H3 ws r nq s3 e3 hr' pm o
 obtain ⟨T1,e⟩:=Dct.tab t0 pm o
 exact h q H3 ws r (zt (s1.trans s2) nq) (s1.trans (s2.trans s3)) e3 hr' T1 e (by rw[pm.length_eq];exact dl)
def zlY (K:W.Frag):Sp:=fun vs H Q _=>L2.Ee4 fun a xs (l:List (Int × Int)) d=>L2.Aa5 (vs=[.ref a,.int d]) (SqL K H a xs) (zu K H xs l) ((l.Pairwise fun s t=>s.1<t.1)) (∀ n:Nat,Stills.Begun l d n->Q (.int n) H)
theorem zdi:zj ["rows", "day", "low", "high", "middle"] qaw (zh zh0):=by walk_at "sp"
theorem zr1 (S:Src K mg "begun" zh0 qaw) (T:Txt K mg)  : Def P w K mg base 1 "begun" qaw (zlY K):=by
 exists S.ok,zdi,0
 all_goals obtain ⟨a,xs,l,d,rfl,hS,hR,up,h⟩:=h
 ·rfl
 refine ⟨_,(zf (zE (i:=2) zdi.nd rfl (by walk_at "lc") zd)
  (zf (zE (i:=3) zdi.nd rfl (by walk_at "lc") (zI za2 rfl T.zeq PySem.boot_len (za (pv 0) zc)))
  (zf (zlC PassesOwn.never (zw zoJ (pv 2) (pv 3) (nomark _))
  (zf (zE (i:=4) zdi.nd rfl (by walk_at "lc") (zo zbs (zo zaF (pv 2) (pv 3)) zd))
  (zg (zaa (zw zi2 (zx za0 (zx zA (pv 0) (pv 4) (fun _ _=>rfl)) zd (fun _ _=>rfl)) (pv 1) (nomark _))
  (zg (zE (i:=2) zdi.nd rfl (by walk_at "lc") (zo zaF (pv 4) zd)))
  (zg (zE (i:=3) zdi.nd rfl (by walk_at "lc") (pv 4)))))))
  (zg (zk (pv 2)))))),?_⟩
 have xl:=hR.length
 nofun
 refine ⟨fun n σ H'=>H=H'/\∃ (lo hi:Nat) (z:Option V),σ=[some (.ref a),some (.int d),some (.int lo),some (.int hi),z]/\lo<=hi/\hi<=l.length/\(∀ i s,i<lo->l[i]?=some s->s.1<=d)/\(∀ i s,hi<=i->l[i]?=some s->d<s.1)/\n=hi-lo,⟨_,rfl,0,xs.length,_,rfl,ycy _,by ac_rfl,fun i s hi=>absurd hi (Nat.not_lt_zero _),fun i s hi e=>?_,rfl⟩,?_⟩
 ·have:=(yad.mp e).1
  ac_rfl
 rintro n σ H' ⟨rfl,lo,hi,z,rfl,lh,hl,below,above,rfl⟩
 nofun
 ·rename_i q
  refine ⟨_,fun σ' H' z=>z,?_⟩
  have em:((lo:Int)+hi) / 2=(((lo+hi) / 2:Nat):Int):=by ac_rfl
  have m1:lo<=(lo+hi) / 2:=by ac_rfl
  have m2:(lo+hi) / 2<hi:=by ac_rfl
  nofun
  generalize (lo+hi) / 2=m at m1 m2 em
  obtain ⟨p,s,ex,es,hp⟩:=hR.get (yaa (by ac_rfl:m<xs.length))
  have at_:atI xs (((lo:Int)+hi) / 2)=some (.ref p):=em ▸ zbL (by rw[yaa (by ac_rfl:m<xs.length),ex])
  refine ⟨a,_,_,_,rfl,rfl,hS,at_,?_⟩
  nofun
  ·rename_i q2
   refine ⟨hi-(m+1),by ac_rfl,rfl,m+1,hi,some (.int m),(by show [some (V.ref a),some (V.int d),some (V.int (((lo:Int)+hi) / 2+1)),some (V.int hi),some (V.int (((lo:Int)+hi) / 2))]=_;rw[em];rfl),by ac_rfl,hl,fun i t hi e=>?_,above,rfl⟩
   rcases Nat.lt_or_ge i m with c | c
   ·have:=Stills.zpO up e es c
    ac_rfl
   ·have:i=m:=by ac_rfl
    subst this
    rw[es] at e
    cases e
    exact q2
  ·rename_i q2
   refine ⟨m-lo,by ac_rfl,rfl,lo,m,some (.int m),(by show [some (V.ref a),some (V.int d),some (V.int lo),some (V.int (((lo:Int)+hi) / 2)),some (V.int (((lo:Int)+hi) / 2))]=_;rw[em]),by ac_rfl,by ac_rfl,below,fun i t hi e=>?_,rfl⟩
   rcases Nat.lt_or_ge m i with c | c
   ·have:=Stills.zpO up es e c
    ac_rfl
   ·have:i=m:=by ac_rfl
    subst this
    rw[es] at e
    cases e
    ac_rfl
 ·rename_i q
  have:lo=hi:=by ac_rfl
  subst this
  exact h lo ⟨hl,below,above⟩
def zky (K:W.Frag):Sp:=fun vs H Q _=>∃ (a:Addr) (xs:List V) (l:List (Int × Int)),vs=[.ref a]/\SqL K H a xs/\zu K H xs l/\l.length<64/\(∀ s∈l,s.1<s.2) /\
 ∀ p ys r H',Same H H'->H p=none->H' p=some (.lst ys)->zu K H' ys r->Spans.Joined r->(∀ d,Spans.Cov r d↔Spans.Cov l d)->r.length<=l.length->Q (.ref p) H'
theorem zjl {K:W.Frag} {H:Hp} {ys:List V} {acc:List (Int × Int)} (r:zu K H ys acc) (h:0<ys.length):∃ ys' b acc' t,ys=ys'++[.ref b]/\acc=acc'++[t]/\H b=some (.tup [.int t.1,.int t.2])/\zu K H ys' acc':=by
 induction r with
 | nil=>simp at h
 | @cons p s xs l hp rr ih =>
  cases rr with
  | nil=>exact ⟨[],p,[],s,rfl,rfl,hp,.nil⟩
  | cons h2 rr2 =>
   obtain ⟨ys',b,acc',t,e1,e2,e3,e4⟩:=ih (by simp)
   exact ⟨.ref p::ys',b,s::acc',t,by rw[e1];rfl,by rw[e2];rfl,e3,.cons hp e4⟩
theorem zhH:zj ["spans", "told", "span"] ["spans"] (zh zgU):=by walk_at "sp"
theorem zqL (S:Src K mg "joined" zgU ["spans"]) (T:Txt K mg)  : Def P w K mg base 1 "joined" ["spans"] (zky K):=by
 exists S.ok,zhH,0
 all_goals obtain ⟨a,xs,l,rfl,hS,hR,hl,ok,h⟩:=h
 ·rfl
 refine ⟨_,(zf (zE (i:=1) zhH.nd rfl (by walk_at "lc") (zW zc))
  (zf (zbW PassesOwn.never rfl (zM (zI zhi rfl T.zaN PyProof.Rows.boot_sorted (za (pv 0) zc))) (zO (i:=2) zhH.nd rfl (by walk_at "lc"))
  (zg (zaa (PW.pt (zjF (zw zlw (zI za2 rfl T.zeq PySem.boot_len (za (pv 1) zc)) zd (nomark _)) (zkg (zw zi2 (zx za0 (pv 2) zd (fun _ _=>rfl)) (zx za0 (zx zA (pv 1) (zdA zcp zd) (fun _ _=>rfl)) zd (fun _ _=>rfl)) (nomark _)))))
  (zg (zja (zN (za (zx za0 (zx zA (pv 1) (zdA zcp zd) (fun _ _=>rfl)) zd (fun _ _=>rfl)) (za (zI (zhu rfl) rfl T.zjB PyProof.Rows.boot_max (za (zx za0 (zx zA (pv 1) (zdA zcp zd) (fun _ _=>rfl)) zd (fun _ _=>rfl)) (za (zx za0 (pv 2) zd (fun _ _=>rfl)) zc))) zc))) (zmv (pv 1) (zdA zcp zd) set_list)))
  (zg (zan (zer PySem.F.plainAttrs_list PySem.F.slot_list_append PySem.F.type_list_append zaD (pv 1) (za (pv 2) zc)))))))
  (zg (zk (pv 1))))),?_⟩
 have sz:=sizeLine_eq
 have xl:=hR.length
 nofun
 intro p np
 have sp:=zb np (.lst [])
 nofun
 refine ⟨a,xs,l,rfl,sp.seq hS,hR.same sp,hl,?_⟩
 intro q H2 ws r nq sq eq rR pm srt
 have wl:=rR.length
 have rl:=pm.length_eq
 have s2:=sp.trans sq
 have eP2:=sq _ _ (ze (H:=H) (a:=p) (o:=.lst []))
 have npq:q≠p:=(zU (ze (H:=H) (a:=p) (o:=.lst [])) nq).symm
 refine ⟨q,rfl,⟨_,SqL.of eq⟩,zbV (xs:=ws) (fun i σ H'=>∃ (ys:List V) (acc:List (Int × Int)) (z:Option V),(Same H H'/\H' q=some (.lst ws)/\H' p=some (.lst ys))/\(zu K H' ys acc/\zu K H' ws r)/\Stills.JInv (r.take i) acc/\acc.length<=i/\σ=[some (.ref a),some (.ref p),z])
  ⟨[],[],_,⟨s2,eq,eP2⟩,⟨.nil,rR⟩,Stills.JInv.nil,ycu _,rfl⟩ ?_ ?_ ?_⟩
 ·rintro i σ H' _ ⟨ys,acc,z,⟨_,e,_⟩,_⟩
  exact SqL.of e
 ·rintro i x σ H' hx ⟨ys,acc,z,⟨sH,eQ,eP⟩,⟨rA,rW⟩,J,al,rfl⟩
  obtain ⟨u,s,rfl,hs,ht⟩:=rW.get hx
  have il:i<r.length:=(yad.mp hs).1
  have yl:=rA.length
  have up:=ok s (pm.mem_iff.mp (yah hs))
  have tk:r.take (i+1)=r.take i++[s]:=by rw[ybf,hs];rfl
  have hP:SqL K H' p ys:=SqL.of eP
  rw[tk]
  have t1':∀ t∈acc,t.1<=s.1:=fun t htt=>by
   obtain ⟨s',hs',e⟩:=J.f t htt
   obtain ⟨j,hj,ej⟩:=yaw.mp hs'
   rw[ybc] at hj
   rw[List.getElem_take] at ej
   have:=yay.mp srt j i (by ac_rfl) il (by ac_rfl)
   rw[ej] at this
   have es:r[i]=s:=by
    have:=yaa il
    rw[hs] at this
    exact (Option.some.inj this).symm
   rw[es] at this
   ac_rfl
  nofun
  ·rename_i pos
   obtain ⟨ys',b,acc',t,e1,e2,hb,rA'⟩:=zjl rA (by ac_rfl)
   subst e1 e2
   have yl':=rA'.length
   have atl:atI (ys'++[.ref b]) (-1)=some (.ref b):=zn3 (by simp) (by simp)
   have le1:=t1' t (by simp)
   refine ⟨p,_,_,_,rfl,rfl,hP,atl,?_⟩
   nofun
   ·rename_i le2
    refine ⟨p,_,_,_,rfl,rfl,hP,atl,?_⟩
    nofun
    refine ⟨p,_,_,_,rfl,rfl,hP,atl,?_⟩
    nofun
    intro u2 nu2
    obtain ⟨m,hm⟩:∃ m:Int,m=if s.2 > t.2 then s.2 else t.2:=⟨_,rfl⟩
    rw[<-hm]
    have s5:=zb nu2 (.tup [.int t.1,.int m])
    have eP':=s5 _ _ eP
    have eQ':=s5 _ _ eQ
    nofun
    have ixe:ixN (ys'++[V.ref b]).length (-1)=some (ys'.length):=by
     unfold ixN
     rw[if_neg (by decide),if_pos (by rw[yaf,ybp];ac_rfl),yaf]
     show some ((-1:Int)+((ys'.length+1:Nat):Int)).toNat=_
     rw[show ((-1:Int)+((ys'.length+1:Nat):Int)).toNat=ys'.length by ac_rfl]
    refine ⟨p,_,_,_,rfl,rfl,eP',ixe,?_⟩
    have es:(ys'++[V.ref b]).set ys'.length (.ref u2)=ys'++[.ref u2]:=by
     rw[List.set_append_right _ _ (ycu _),ydj]
     rfl
    rw[es]
    have st2:(upd (upd H' u2 (.tup [.int t.1,.int m])) p (.lst (ys'++[.ref u2]))) u2=some (.tup [.int t.1,.int m]):=by
     rw[zi (zU eP nu2).symm]
     exact ze
    exact ⟨ys'++[.ref u2],acc'++[(t.1,m)],_,⟨zD (sH.trans s5) np,by rw[zi npq];exact eQ',ze⟩,⟨((rA'.same s5).put eP').push (s:=(t.1,m)) st2,(rW.same s5).put eP'⟩,J.grow up le1 le2 hm,by rw[yaf] at al ⊢;exact ydh al,rfl⟩
   ·rename_i gt
    refine ⟨.inl ⟨rfl,_,SqL.of eP⟩,?_⟩
    nofun
    refine ⟨p,_,_,rfl,rfl,eP,by ac_rfl,?_⟩
    have st2:(upd H' p (.lst (ys'++[.ref b]++[.ref u]))) u=some (.tup [.int s.1,.int s.2]):=by
     rw[zi (zaj ht eP (by intro z;cases z))]
     exact ht
    exact ⟨ys'++[.ref b]++[.ref u],acc'++[t]++[s],_,⟨zD sH np,by rw[zi npq];exact eQ,ze⟩,⟨(rA.put eP).push (s:=s) st2,rW.put eP⟩,J.add up (by ac_rfl),by rw[yaf];exact Nat.succ_le_succ al,rfl⟩
  ·rename_i no
   have y0:ys=[]:=by cases ys with | nil=>rfl | cons _ _=>exact absurd (by simp) no
   subst y0
   have a0:acc=[]:=by cases acc with | nil=>rfl | cons _ _=>simp at yl
   subst a0
   refine ⟨.inl ⟨rfl,_,SqL.of eP⟩,?_⟩
   nofun
   refine ⟨p,_,_,rfl,rfl,eP,by simp;ac_rfl,?_⟩
   have st2:(upd H' p (.lst ([]++[.ref u]))) u=some (.tup [.int s.1,.int s.2]):=by
    rw[zi (zaj ht eP (by intro z;cases z))]
    exact ht
   exact ⟨[]++[.ref u],[]++[s],_,⟨zD sH np,by rw[zi npq];exact eQ,ze⟩,⟨(zu.put .nil eP).push (s:=s) st2,rW.put eP⟩,J.begin_ up,by simp,rfl⟩
 ·rintro σ H' ⟨ys,acc,z,⟨sH,eQ,eP⟩,⟨rA,rW⟩,J,al,rfl⟩
  rw[wl,yau (ycu _)] at J
  nofun
  refine h p ys acc H' sH np eP rA J.j (fun d=>?_) (by ac_rfl)
  rw[J.c]
  exact Stills.zn8 (fun s=>pm.mem_iff) d
def zg2 (K:W.Frag):Sp:=fun vs H Q _=>∃ (a:Addr) (A:BkA) (b:BkT),vs=[.ref a]/\zaU K H a A b/\Q (.ref A.c) H
theorem zlh:zj qaa qaa (zh zc8):=by walk_at "sp"
theorem zlP (S:zr K (cA K "Book") "count" "Book.count" zc8 qaa) (T:Txt K mg)  : zB P w K mg base 1 (cA K "Book") "count" qaa (zg2 K):=by
 exists S.ok,zlh,0
 all_goals obtain ⟨a,A,b,rfl,B,h⟩:=h
 ·rfl
 refine ⟨_,(zg (zk (zao T.zv T.zaR (pv 0)))),?_⟩
 nofun
 refine ⟨a,A.dx,_,_,rfl,B.ins,rfl,?_⟩
 exact h
def zcj (K:W.Frag):Sp:=fun vs H Q _=>∃ (a:Addr) (A:BkA) (b:BkT),vs=[.ref a]/\zaU K H a A b/\b.outs.length+b.fees.length+b.pays.length+b.turns.length<650/\(∃ td:List Int,td.length<=61/\∀ d,DDay b d->d∈td) /\
 ∀ p (ns:List Int) H',H p=none->Same H H'->H' p=some (.lst (ns.map V.int))->ns.Pairwise (·<·)->(∀ d,d∈ns↔DDay b d)->ns.length<=b.outs.length+b.fees.length+b.pays.length+b.turns.length->Q (.ref p) H'
theorem zeh:zj ["self", "days"] qaa (zh zbA):=by walk_at "sp"
theorem ziM (S:zr K (cA K "Book") "deed_days" "Book.deed_days" zbA qaa) (T:Txt K mg)  : zB P w K mg base 1 (cA K "Book") "deed_days" qaa (zcj K):=by
 exists S.ok,zeh,0
 all_goals obtain ⟨a,A,b,rfl,B,osz,⟨td,tdl,tdm⟩,h⟩:=h
 ·rfl
 refine ⟨_,(zf (zex (i:=1) zeh.nd rfl rfl (ix:=[]) ⟨rfl,by decide +kernel,rfl,by decide +kernel,rfl,(show (["row"]:List Str).Nodup by decide +kernel),by walk_at "cap", by walk_at "sub", by walk_at "has"⟩ (zM (zo zbT (zo zbT (zao T.zv T.za7 (pv 0)) (zao T.zv T.zaZ (pv 0))) (zao T.zv T.zaY (pv 0)))) (fun b=>(zx (zgz K) (pv 0) zd (fun _ _=>rfl))))
  (zg (zk (zI (zdc rfl) rfl T.zaN PyProof.Rows.boot_sorted (za (zae (zfA rfl) rfl T.zh8 PyProof.Rows.boot_set (za (zo zbT (pv 1) (zao T.zv T.zaQ (pv 0))) zc)) zc))))),?_⟩
 have sz:=sizeLine_eq
 obtain ⟨x1,e1,r1,l1⟩:=B.outs
 obtain ⟨x2,e2,r2,l2⟩:=B.fees
 obtain ⟨x3,e3,r3,l3⟩:=B.pays
 have c1:=r1.length
 have c2:=r2.length
 have c3:=r3.length
 nofun
 refine ⟨a,A.dx,_,_,rfl,B.ins,rfl,?_⟩
 nofun
 refine ⟨a,A.dx,_,_,rfl,B.ins,rfl,?_⟩
 nofun
 refine ⟨A.o,A.f,x1,x2,rfl,rfl,e1,e2,by ac_rfl,fun q3 n3=>?_⟩
 have t3:=zb n3 (.lst (x1++x2))
 have f3:=zq (.lst (x1++x2)) n3
 have B3:=B.same t3
 nofun
 refine ⟨a,A.dx,_,_,rfl,B3.ins,rfl,?_⟩
 nofun
 refine ⟨q3,A.p,x1++x2,x3,rfl,rfl,f3,t3 _ _ e3,by rw[yaf];ac_rfl,fun q5 n5=>?_⟩
 have t5:=zb n5 (.lst (x1++x2++x3))
 have f5:=zq (.lst (x1++x2++x3)) n5
 have s5:=t3.trans t5
 have rX:zu K _ (x1++x2++x3) (b.outs++b.fees++b.pays):=zmG (zmG (r1.same s5) (r2.same s5)) (r3.same s5)
 have B5:=B.same s5
 generalize upd (upd H q3 (.lst (x1++x2))) q5 (.lst (x1++x2++x3))=H5 at rX s5 f5 B5 ⊢
 have xl:=rX.length
 nofun
 refine ⟨⟨_,SqL.of f5⟩,fun l6 n6=>?_⟩
 have gd:∀ (u:List (Int × Int)) (f:Int × Int->Int) (i:Nat) (s:Int × Int),u[i]?=some s->(u.map f).getD i 0=f s:=fun u f i s e=>by
  rw[yac,yam,e];rfl
 have xl2:(x1++x2++x3).length<=650:=by rw[yaf,yaf];ac_rfl
 refine zpW (fun i v=>v=.int (((b.outs++b.fees++b.pays).map (·.1)).getD i 0)) (SqL.of f5) n6 (by ac_rfl) ?_ ?_
 ·intro i x H' Q' hx sH hq
  obtain ⟨p,s,rfl,e,ht⟩:=rX.get hx
  nofun
  exact ⟨p,_,_,_,rfl,rfl,SqT.of (sH _ _ ht),rfl,hq _ (by rw[gd _ _ i s e])⟩
 intro ys1 len1 hp1
 obtain rfl:=zrO (ns:=(b.outs++b.fees++b.pays).map (·.1)) (by rw[len1,yab,xl]) hp1
 have s6:=zb n6 (.lst (((b.outs++b.fees++b.pays).map (·.1)).map V.int))
 have e6:=zq (.lst (((b.outs++b.fees++b.pays).map (·.1)).map V.int)) n6
 have kl:((b.outs++b.fees++b.pays).map (·.1)).length=b.outs.length+b.fees.length+b.pays.length:=by rw[yab,yaf,yaf]
 have B6:=B5.same s6
 generalize hD1:(b.outs++b.fees++b.pays).map (·.1)=D1 at *
 nofun
 refine ⟨a,A.dx,_,_,rfl,B6.ins,rfl,?_⟩
 nofun
 refine ⟨l6,A.t,_,_,rfl,rfl,e6,B6.turns,by rw[yab,yab];ac_rfl,fun q7 n7=>?_⟩
 have cat:D1.map V.int++b.turns.map V.int=(D1++b.turns).map V.int:=by rw[yba]
 rw[cat]
 have s7:=zb n7 (.lst ((D1++b.turns).map V.int))
 have e7:=zq (.lst ((D1++b.turns).map V.int)) n7
 have s07:=s5.trans (s6.trans s7)
 generalize upd (upd H5 l6 (.lst (D1.map V.int))) q7 (.lst ((D1++b.turns).map V.int))=H7 at s07 e7 ⊢
 have dl:(D1++b.turns).length=b.outs.length+b.fees.length+b.pays.length+b.turns.length:=by rw[yaf];ac_rfl
 nofun
 refine ⟨q7,_,rfl,SqL.of e7,by ac_rfl,fun pS HS ms nPS sPS ePS2 nd mm lm=>?_⟩
 nofun
 have few:=za6 (ys:=td) nd fun d hd=>tdm d (by
  have:=(mm d).mp hd
  rw[yal,<-hD1] at this
  exact this)
 refine ⟨pS,ms,rfl,ePS2,by ac_rfl,fun pR HR ns nPR sPR ePR pm up=>?_⟩
 refine h pR ns HR (zt (s07.trans sPS) nPR) (s07.trans (sPS.trans sPR)) ePR (zpU pm nd up) (fun d=>?_) (by rw[pm.length_eq];ac_rfl)
 rw[pm.mem_iff,mm,yal,<-hD1]
 exact Iff.rfl
def zhj (K:W.Frag):Sp:=fun vs H Q _=>∃ (a:Addr) (A:BkA) (b:BkT),vs=[.ref a]/\zaU K H a A b/\∀ q xs,H q=none->zu K H xs b.dues->b.dues.length<=1000->Q (.ref q) (upd H q (.lst xs))
theorem zmL:zj qaa qaa (zh zdL):=by walk_at "sp"
theorem znk (S:zr K (cA K "Book") "dues" "Book.dues" zdL qaa) (T:Txt K mg)  : zB P w K mg base 1 (cA K "Book") "dues" qaa (zhj K):=by
 exists S.ok,zmL,0
 all_goals obtain ⟨a,A,b,rfl,B,h⟩:=h
 ·rfl
 refine ⟨_,(zg (zk (zae zau rfl T.zbt PyProof.Rows.boot_list (za (zao T.zv T.zbz (pv 0)) zc)))),?_⟩
 obtain ⟨xs,e,hR,hl⟩:=B.dues
 nofun
 refine ⟨a,A.dx,_,_,rfl,B.ins,rfl,?_⟩
 nofun
 exact ⟨A.d,xs,rfl,.inl (SqL.of e),fun q nq=>h q xs nq hR hl⟩
def zcR (K:W.Frag):Sp:=fun vs H Q _=>∃ (a:Addr) (A:BkA) (b:BkT),vs=[.ref a]/\zaU K H a A b/\∀ q xs,H q=none->EL K H xs b.es->Q (.ref q) (upd H q (.lst xs))
theorem zi5:zj qaa qaa (zh zca):=by walk_at "sp"
theorem zj8 (S:zr K (cA K "Book") "entries" "Book.entries" zca qaa) (T:Txt K mg)  : zB P w K mg base 1 (cA K "Book") "entries" qaa (zcR K):=by
 exists S.ok,zi5,0
 all_goals obtain ⟨a,A,b,rfl,B,h⟩:=h
 ·rfl
 refine ⟨_,(zg (zk (zae zau rfl T.zbt PyProof.Rows.boot_list (za (zao T.zv T.zaE (pv 0)) zc)))),?_⟩
 obtain ⟨xs,e,hE⟩:=B.ents
 nofun
 refine ⟨a,A.dx,_,_,rfl,B.ins,rfl,?_⟩
 nofun
 exact ⟨A.e,xs,rfl,.inl (SqL.of e),fun q nq=>h q xs nq hE⟩
def zhz (K:W.Frag):Sp:=fun vs H Q _=>∃ (a:Addr) (A:BkA) (b:BkT),vs=[.ref a]/\zaU K H a A b/\∀ q xs,H q=none->zu K H xs b.fees->b.fees.length<=1000->Q (.ref q) (upd H q (.lst xs))
theorem zmM:zj qaa qaa (zh zdD):=by walk_at "sp"
theorem znn (S:zr K (cA K "Book") "fees" "Book.fees" zdD qaa) (T:Txt K mg)  : zB P w K mg base 1 (cA K "Book") "fees" qaa (zhz K):=by
 exists S.ok,zmM,0
 all_goals obtain ⟨a,A,b,rfl,B,h⟩:=h
 ·rfl
 refine ⟨_,(zg (zk (zae zau rfl T.zbt PyProof.Rows.boot_list (za (zao T.zv T.zaZ (pv 0)) zc)))),?_⟩
 obtain ⟨xs,e,hR,hl⟩:=B.fees
 nofun
 refine ⟨a,A.dx,_,_,rfl,B.ins,rfl,?_⟩
 nofun
 exact ⟨A.f,xs,rfl,.inl (SqL.of e),fun q nq=>h q xs nq hR hl⟩
def zhc (K:W.Frag):Sp:=fun vs H Q _=>∃ (a:Addr) (A:BkA) (b:BkT),vs=[.ref a]/\zaU K H a A b/\Q (.int b.g) H
theorem zkX:zj qaa qaa (zh zcZ):=by walk_at "sp"
theorem zlZ (S:zr K (cA K "Book") "grace" "Book.grace" zcZ qaa) (T:Txt K mg)  : zB P w K mg base 1 (cA K "Book") "grace" qaa (zhc K):=by
 exists S.ok,zkX,0
 all_goals obtain ⟨a,A,b,rfl,B,h⟩:=h
 ·rfl
 refine ⟨_,(zg (zk (zao T.zv T.zaP (pv 0)))),?_⟩
 nofun
 refine ⟨a,A.dx,_,_,rfl,B.ins,rfl,?_⟩
 exact h
def zhg (K:W.Frag):Sp:=fun vs H Q _=>∃ (a:Addr) (A:BkA) (b:BkT),vs=[.ref a]/\zaU K H a A b/\∀ q xs,H q=none->zu K H xs b.lates->b.lates.length<=1000->Q (.ref q) (upd H q (.lst xs))
theorem zk7:zj qaa qaa (zh zc3):=by walk_at "sp"
theorem zmP (S:zr K (cA K "Book") "lates" "Book.lates" zc3 qaa) (T:Txt K mg)  : zB P w K mg base 1 (cA K "Book") "lates" qaa (zhg K):=by
 exists S.ok,zk7,0
 all_goals obtain ⟨a,A,b,rfl,B,h⟩:=h
 ·rfl
 refine ⟨_,(zg (zk (zae zau rfl T.zbt PyProof.Rows.boot_list (za (zao T.zv T.zbl (pv 0)) zc)))),?_⟩
 obtain ⟨xs,e,hR,hl⟩:=B.lates
 nofun
 refine ⟨a,A.dx,_,_,rfl,B.ins,rfl,?_⟩
 nofun
 exact ⟨A.l,xs,rfl,.inl (SqL.of e),fun q nq=>h q xs nq hR hl⟩
def zhr (K:W.Frag):Sp:=fun vs H Q _=>∃ (a:Addr) (A:BkA) (b:BkT),vs=[.ref a]/\zaU K H a A b/\∀ q xs,H q=none->zu K H xs b.outs->b.outs.length<=1000->Q (.ref q) (upd H q (.lst xs))
theorem zl1:zj qaa qaa (zh zdI):=by walk_at "sp"
theorem zna (S:zr K (cA K "Book") "outs" "Book.outs" zdI qaa) (T:Txt K mg)  : zB P w K mg base 1 (cA K "Book") "outs" qaa (zhr K):=by
 exists S.ok,zl1,0
 all_goals obtain ⟨a,A,b,rfl,B,h⟩:=h
 ·rfl
 refine ⟨_,(zg (zk (zae zau rfl T.zbt PyProof.Rows.boot_list (za (zao T.zv T.za7 (pv 0)) zc)))),?_⟩
 obtain ⟨xs,e,hR,hl⟩:=B.outs
 nofun
 refine ⟨a,A.dx,_,_,rfl,B.ins,rfl,?_⟩
 nofun
 exact ⟨A.o,xs,rfl,.inl (SqL.of e),fun q nq=>h q xs nq hR hl⟩
def zhK (K:W.Frag):Sp:=fun vs H Q _=>∃ (a:Addr) (A:BkA) (b:BkT),vs=[.ref a]/\zaU K H a A b/\∀ q xs,H q=none->zu K H xs b.pays->b.pays.length<=1000->Q (.ref q) (upd H q (.lst xs))
theorem zl9:zj qaa qaa (zh zdx):=by walk_at "sp"
theorem znl (S:zr K (cA K "Book") "pays" "Book.pays" zdx qaa) (T:Txt K mg)  : zB P w K mg base 1 (cA K "Book") "pays" qaa (zhK K):=by
 exists S.ok,zl9,0
 all_goals obtain ⟨a,A,b,rfl,B,h⟩:=h
 ·rfl
 refine ⟨_,(zg (zk (zae zau rfl T.zbt PyProof.Rows.boot_list (za (zao T.zv T.zaY (pv 0)) zc)))),?_⟩
 obtain ⟨xs,e,hR,hl⟩:=B.pays
 nofun
 refine ⟨a,A.dx,_,_,rfl,B.ins,rfl,?_⟩
 nofun
 exact ⟨A.p,xs,rfl,.inl (SqL.of e),fun q nq=>h q xs nq hR hl⟩
def zg6 (K:W.Frag):Sp:=fun vs H Q _=>∃ (a:Addr) (A:BkA) (b:BkT),vs=[.ref a]/\zaU K H a A b/\∀ q xs,H q=none->zu K H xs b.rates->b.rates.length<=1000->Q (.ref q) (upd H q (.lst xs))
theorem zkU:zj qaa qaa (zh zcX):=by walk_at "sp"
theorem zmk (S:zr K (cA K "Book") "rates" "Book.rates" zcX qaa) (T:Txt K mg)  : zB P w K mg base 1 (cA K "Book") "rates" qaa (zg6 K):=by
 exists S.ok,zkU,0
 all_goals obtain ⟨a,A,b,rfl,B,h⟩:=h
 ·rfl
 refine ⟨_,(zg (zk (zae zau rfl T.zbt PyProof.Rows.boot_list (za (zao T.zv T.zbm (pv 0)) zc)))),?_⟩
 obtain ⟨xs,e,hR,hl⟩:=B.rates
 nofun
 refine ⟨a,A.dx,_,_,rfl,B.ins,rfl,?_⟩
 nofun
 exact ⟨A.r,xs,rfl,.inl (SqL.of e),fun q nq=>h q xs nq hR hl⟩
def zgo (K:W.Frag):Sp:=fun vs H Q _=>∃ (a:Addr) (A:BkA) (b:BkT),vs=[.ref a]/\zaU K H a A b/\∀ q xs,H q=none->zu K H xs b.spans->b.spans.length<=1000->Q (.ref q) (upd H q (.lst xs))
theorem zkd:zj qaa qaa (zh zcr):=by walk_at "sp"
theorem zle (S:zr K (cA K "Book") "stills" "Book.stills" zcr qaa) (T:Txt K mg)  : zB P w K mg base 1 (cA K "Book") "stills" qaa (zgo K):=by
 exists S.ok,zkd,0
 all_goals obtain ⟨a,A,b,rfl,B,h⟩:=h
 ·rfl
 refine ⟨_,(zg (zk (zae zau rfl T.zbt PyProof.Rows.boot_list (za (zao T.zv T.zbE (pv 0)) zc)))),?_⟩
 obtain ⟨xs,e,hR,hl⟩:=B.spans
 nofun
 refine ⟨a,A.dx,_,_,rfl,B.ins,rfl,?_⟩
 nofun
 exact ⟨A.s,xs,rfl,.inl (SqL.of e),fun q nq=>h q xs nq hR hl⟩
def zg9 (K:W.Frag):Sp:=fun vs H Q _=>∃ (a:Addr) (A:BkA) (b:BkT),vs=[.ref a]/\zaU K H a A b/\∀ q,H q=none->Q (.ref q) (upd H q (.lst (b.turns.map V.int)))
theorem zk9:zj qaa qaa (zh zcK):=by walk_at "sp"
theorem zml (S:zr K (cA K "Book") "turns" "Book.turns" zcK qaa) (T:Txt K mg)  : zB P w K mg base 1 (cA K "Book") "turns" qaa (zg9 K):=by
 exists S.ok,zk9,0
 all_goals obtain ⟨a,A,b,rfl,B,h⟩:=h
 ·rfl
 refine ⟨_,(zg (zk (zae zau rfl T.zbt PyProof.Rows.boot_list (za (zao T.zv T.zaQ (pv 0)) zc)))),?_⟩
 nofun
 refine ⟨a,A.dx,_,_,rfl,B.ins,rfl,?_⟩
 nofun
 exact ⟨A.t,_,rfl,.inl (SqL.of B.turns),fun q nq=>h q nq⟩
noncomputable def cellAt (ns:List Int) (k:Nat):Int:=ns.getD k 0
def zar (K:W.Frag):Sp:=fun vs H Q _=>∃ (p:Addr) (ns:List Int) (k:Nat),vs=[.ref p,.int k]/\SqL K H p (ns.map V.int)/\Q (.int (cellAt ns k)) H
theorem zjr:zj qah qah (zh zb3):=by walk_at "sp"
theorem zkt (S:Src K mg "_law_cell_at" zb3 qah) (T:Txt K mg)  : Def P w K mg base 1 "_law_cell_at" qah (zar K):=by
 exists S.ok,zjr,0
 all_goals obtain ⟨p,ns,k,rfl,hp,h⟩:=h
 ·rfl
 refine ⟨_,(zf (zaa (zw zoJ (pv 1) (zI za2 rfl T.zeq PySem.boot_len (za (pv 0) zc)) (nomark _))
  (zg (zk (zx zA (pv 0) (pv 1) (fun _ _=>rfl))))
   zL)
  (zg (zk zd))),?_⟩
 nofun
 ·rename_i q
  rw[yab] at q
  have kl:k<ns.length:=by ac_rfl
  refine ⟨p,_,_,_,rfl,rfl,hp,zbL (by rw[yam,yaa kl];rfl),?_⟩
  unfold cellAt at h
  rw[yac,yaa kl] at h
  exact h
 ·rename_i q
  rw[yab] at q
  unfold cellAt at h
  rw[yac,yaq (by ac_rfl)] at h
  nofun
  exact h
def zdY (K:W.Frag):Sp:=fun vs H Q _=>∃ c k,vs=[.int c,.int k]/\0<=k/\k<=20/\∀ p (ns:List Int) H',Same H H'->H p=none->H' p=some (.lst (ns.map V.int))->(ns.length:Int)=k->(∀ x∈ns,(0:Int)<=x/\x<10000000000000)->Q (.ref p) H'
theorem zav:zj ["_law_cell", "_law_many", "_law_found", "_law_number", "_law_one", "_law_other", "_law_k"] qap (zh zda):=by walk_at "sp"
theorem zmO (S:Src K mg "_law_draws" zda qap) (T:Txt K mg)  : Def P w K mg base 1 "_law_draws" qap (zdY K):=by
 exists S.ok,zav,0
 all_goals obtain ⟨c,k,rfl,k0,k1,h⟩:=h
 ·rfl
 refine ⟨_,(zf (zE (i:=2) zav.nd rfl (by walk_at "lc") (zW zc))
  (zf (zE (i:=3) zav.nd rfl (by walk_at "lc") (zo zbs (pv 0) zd))
  (zf (zE (i:=4) zav.nd rfl (by walk_at "lc") (zo zaF (zo zK (pv 0) zd) zd))
  (zf (zE (i:=5) zav.nd rfl (by walk_at "lc") (zo zaF (zo zK (pv 0) zd) zd))
  (zf (zbW PassesOwn.never rfl (zkz rfl T.zgg (za (pv 1) zc)) (zO (i:=6) zav.nd rfl (by walk_at "lc"))
  (zf (zE (i:=4) zav.nd rfl (by walk_at "lc") (zo zK (zo zhx (pv 4) zd) zd))
  (zf (zE (i:=5) zav.nd rfl (by walk_at "lc") (zo zK (zo zaF (zo zhx (pv 5) (pv 5)) (pv 4)) zd))
  (zg (zaa (PW.pt (zjF (zw zlw (pv 0) (zcb (v:=1000000000000000000) (by decide +kernel) ⟨by decide,by decide,by decide⟩) (nomark _)) (zjF (zw zah (zo zK (pv 0) zd) zd (nomark _)) (zkg (zw zlw (pv 3) zd (nomark _))))))
  (zf (zan (zer PySem.F.plainAttrs_list PySem.F.slot_list_append PySem.F.type_list_append zaD (pv 2) (za (zo zK (pv 3) (zcb (v:=10000000000000) (by decide +kernel) ⟨by decide,by decide,by decide⟩)) zc)))
  (zg (zE (i:=3) zav.nd rfl (by walk_at "lc") (zo zqc (pv 3) (zcb (v:=10000000000000) (by decide +kernel) ⟨by decide,by decide,by decide⟩)))))
  (zg (zan (zer PySem.F.plainAttrs_list PySem.F.slot_list_append PySem.F.type_list_append zaD (pv 2) (za (zo zbs (zo zK (zo zaF (pv 4) (zo zhx (pv 5) zd)) zd) zd) zc)))))))))
  (zg (zk (pv 2)))))))),?_⟩
 have sz:=sizeLine_eq
 nofun
 intro p np
 have sp:=zb np (.lst [])
 nofun
 have o0:0<=c % 2147483647:=ydt _ (by decide)
 have o1:c % 2147483647<2147483647:=yds _ (by decide)
 have p0:0<=c % 998244353:=ydt _ (by decide)
 have p1:c % 998244353<998244353:=yds _ (by decide)
 refine zhy (fun i σ H'=>L2.Ee5 fun (ns:List Int) (a b e:Int) (z:Option V)=>L2.Aa5 ((Same H H'/\H' p=some (.lst (ns.map V.int)))) (ns.length=i) ((∀ x∈ns,(0:Int)<=x/\x<10000000000000)) ((0<=a/\a<4294967296/\0<=b/\b<4294967296)) (σ=[some (.int c),some (.int k),some (.ref p),some (.int e),some (.int a),some (.int b),z]))
  ⟨[],_,_,_,_,⟨sp,ze⟩,rfl,fun x hx=>(by cases hx),⟨by ac_rfl,by ac_rfl,by ac_rfl,by ac_rfl⟩,rfl⟩ ?_ ?_
 ·rintro i σ H' hi ⟨ns,a,b,e,z,⟨sH,eP⟩,nl,nn,⟨a0,a1,b0,b1⟩,rfl⟩
  have ab:=ydt (a*48271) (show (2147483647:Int)≠0 by decide)
  have ab1:=yds (a*48271) (show (0:Int)<2147483647 by decide)
  have bb:=ydt (b*b+a*48271 % 2147483647) (show (998244353:Int)≠0 by decide)
  have bb1:=yds (b*b+a*48271 % 2147483647) (show (0:Int)<998244353 by decide)
  have snoc:∀ y:Int,(0<=y/\y<10000000000000)->∀ x∈ns++[y],(0:Int)<=x/\x<10000000000000:=fun y hy x hx=>by
   rcases yal.mp hx with hx | hx
   ·exact nn x hx
   ·obtain rfl:x=y:=by simpa using hx
    exact hy
  have eP':∀ y:Int,(upd H' p (.lst (ns.map V.int++[.int y]))) p=some (.lst ((ns++[y]).map V.int)):=fun y=>by rw[yba];exact ze
  have small:∀ z:Int,(0:Int)<=z % 2147483647 / 7/\z % 2147483647 / 7<10000000000000:=fun z=>by
   have:=ydt z (show (2147483647:Int)≠0 by decide)
   have:=yds z (show (0:Int)<2147483647 by decide)
   ac_rfl
  have i20:i<20:=by ac_rfl
  nofun
  ·refine ⟨.inl ⟨rfl,_,SqL.of eP⟩,?_⟩
   nofun
   refine ⟨p,_,_,rfl,rfl,eP,by rw[yab];ac_rfl,?_⟩
   nofun
   exact ⟨ns++[_],_,_,_,_,⟨zD sH np,eP' _⟩,by rw[yaf,nl];rfl,snoc _ ⟨ydt _ (by decide),yds _ (by decide)⟩,⟨ab,by ac_rfl,bb,by ac_rfl⟩,rfl⟩
  all_goals
   refine ⟨.inl ⟨rfl,_,SqL.of eP⟩,?_⟩
   nofun
   refine ⟨p,_,_,rfl,rfl,eP,by rw[yab];ac_rfl,?_⟩
   exact ⟨ns++[_],_,_,_,_,⟨zD sH np,eP' _⟩,by rw[yaf,nl];rfl,snoc _ (small _),⟨ab,by ac_rfl,bb,by ac_rfl⟩,rfl⟩
 ·rintro σ H' ⟨ns,a,b,e,z,⟨sH,eP⟩,nl,nn,_,rfl⟩
  nofun
  exact h p ns H' sH np eP (by ac_rfl) nn
theorem zoZ {ns:List Int} (h:ns.length=8):∃ a b c d e f g i,ns=[a,b,c,d,e,f,g,i]:=by
 match ns,h with
 | [a,b,c,d,e,f,g,i],_=>exact ⟨a,b,c,d,e,f,g,i,rfl⟩
def zqe (k:Ek) (d x:Int):Prop:=zrs k d x/\(k=.still->x<=d+40)
def zhb (K:W.Frag):Sp:=fun vs H Q _=>L2.Ee4 fun (k:Ek) d p (ns:List Int)=>L2.Aa7 (vs=[.str k.word,.int d,.ref p]) (SqL K H p (ns.map V.int)) (ns.length=8) ((∀ x∈ns,(0:Int)<=x/\x<10000000000000)) ((0<=d/\d<=999999)) (k≠.base) (∀ x,zqe k d x->Q (.int x) H)
theorem zd3:zj ["_law_word", "_law_day", "_law_xs", "_law_value_here"] qax (zh zc5):=by walk_at "sp"
theorem zlM (S:Src K mg "_law_value" zc5 qax) (T:Txt K mg)  : Def P w K mg base 1 "_law_value" qax (zhb K):=by
 exists S.okF,zd3,0
 all_goals obtain ⟨k,d,p,ns,rfl,hp,nl,nn,⟨d0,d1⟩,hk,h⟩:=h
 ·rfl
 refine ⟨_,(zf (zE (i:=3) zd3.nd rfl (by walk_at "lc") (zo zaF zd (zo zK (zx zA (pv 2) zd (fun _ _=>rfl)) (zx zA (zW (za zd (za zd (za (zcb (v:=1000000000) (by decide +kernel) ⟨by decide,by decide,by decide⟩) zc)))) (zo zK (zx zA (pv 2) zd (fun _ _=>rfl)) zd) (fun _ _=>rfl)))))
  (zf (zsB (zaa (zw zah (zo zK (zo zbs (zx zA (pv 2) zd (fun _ _=>rfl)) zd) zd) zd (nomark _))
  (zg (zE (i:=3) zd3.nd rfl (by walk_at "lc") (zo zaF zd (zo zK (zo zhx (zx zA (pv 2) zd (fun _ _=>rfl)) (zx zA (pv 2) zd (fun _ _=>rfl))) (zcb (v:=1000000000000) (by decide +kernel) ⟨by decide,by decide,by decide⟩)))))
   zL))
  (zf (zaa (zw zah (pv 0) zp (nomark _))
  (zg (zk (zx zA (zW (za (pv 3) (za (pv 3) (za (zo zeH zd (pv 3)) (za zd zc))))) (zo zK (zx zA (pv 2) zd (fun _ _=>rfl)) zd) (fun _ _=>rfl))))
   zL)
  (zf (zaa (zw zkF (pv 0) (zN (za zp (za zp zc))) (by with_unfolding_all rfl))
  (zg (zk (zx zA (zW (za zd (za (zo zK (zx zA (pv 2) zd (fun _ _=>rfl)) zd) (za (zo zK (zx zA (pv 2) zd (fun _ _=>rfl)) zd) (za (zo zK (zx zA (pv 2) zd (fun _ _=>rfl)) (zo zaF (zcb (v:=1000000) (by decide +kernel) ⟨by decide,by decide,by decide⟩) zd)) zc))))) (zo zK (zx zA (pv 2) zd (fun _ _=>rfl)) zd) (fun _ _=>rfl))))
   zL)
  (zf (zaa (zw zah (pv 0) zp (nomark _))
  (zg (zk (zI (zpl rfl) rfl T.zlu PyProof.Rows.boot_min (za (zcb (v:=1000000) (by decide +kernel) ⟨by decide,by decide,by decide⟩) (za (zo zaF (zo zaF (pv 1) zd) (zo zK (zx zA (pv 2) zd (fun _ _=>rfl)) (zx zA (zW (za zd (za zd zc))) (zo zK (zx zA (pv 2) zd (fun _ _=>rfl)) zd) (fun _ _=>rfl)))) zc)))))
   zL)
  (zg (zk (pv 3)))))))),?_⟩
 have sz:=sizeLine_eq
 obtain ⟨n0,n1,n2,n3,n4,n5,n6,n7,rfl⟩:=zoZ nl
 have p3:=nn n3 (by simp)
 have p4:=nn n4 (by simp)
 have p5:=nn n5 (by simp)
 have p6:=nn n6 (by simp)
 nofun
 refine ⟨p,_,_,_,rfl,rfl,hp,rfl,?_⟩
 nofun
 intro l1 m1
 have s1:=zb m1 (.lst [.int 9,.int 5000,.int 1000000000])
 have hp1:=s1.seq hp
 have z1:SqL K (upd H l1 (.lst [.int 9,.int 5000,.int 1000000000])) l1 [.int 9,.int 5000,.int 1000000000]:=SqL.of ze
 generalize upd H l1 (.lst [.int 9,.int 5000,.int 1000000000])=H1 at s1 hp1 z1 ⊢
 have a40:=ydt n4 (show (3:Int)≠0 by decide)
 have a41:=yds n4 (show (0:Int)<3 by decide)
 nofun
 refine ⟨p,_,_,_,rfl,rfl,hp1,rfl,?_⟩
 nofun
 obtain ⟨m,am,hm⟩:=zl7 (a:=9) (b:=5000) (c:=1000000000) a40 a41
 refine ⟨l1,_,_,_,rfl,rfl,z1,am,?_⟩
 have mp:0<m:=by ac_rfl
 have b0:=ydt n3 (show m≠0 by ac_rfl)
 have b1:=yds n3 mp
 nofun
 have t0:∀ z:Int,1<=1+z % 1000000000000/\1+z % 1000000000000<=1000000000000:=fun z=>by
  have:=ydt z (show (1000000000000:Int)≠0 by decide)
  have:=yds z (show (0:Int)<1000000000000 by decide)
  ac_rfl
 refine ⟨fun σ' H'=>∃ w:Int,(1<=w/\w<=1000000000000)/\H'=H1/\σ'=[some (.str k.word),some (.int d),some (.ref p),some (.int w)],?_,?_⟩
 ·nofun
  refine ⟨p,_,_,_,rfl,rfl,hp1,rfl,?_⟩
  nofun
  ·refine ⟨p,_,_,_,rfl,rfl,hp1,rfl,?_⟩
   nofun
   refine ⟨p,_,_,_,rfl,rfl,hp1,rfl,?_⟩
   nofun
   exact ⟨_,t0 _,rfl,rfl⟩
  ·exact ⟨_,⟨by ac_rfl,by ac_rfl⟩,rfl,rfl⟩
 rintro σ' H' ⟨w,⟨w0,w1⟩,rfl,rfl⟩
 cases k
 all_goals first | exact absurd rfl hk | skip
 all_goals dsimp only [Ek.word]
 all_goals nofun
 case out =>
  intro t nt
  have st:=zb nt (.tup [.str "rate", .str "late"])
  nofun
  refine ⟨t,_,rfl,.inr (SqT.of ze),rfl,rfl,_,rfl,?_⟩
  nofun
  exact ⟨s1.trans st,h _ ⟨⟨w0,w1⟩,fun z=>by cases z⟩⟩
 case pay =>
  intro t nt
  have st:=zb nt (.tup [.str "rate", .str "late"])
  nofun
  refine ⟨t,_,rfl,.inr (SqT.of ze),rfl,rfl,_,rfl,?_⟩
  nofun
  exact ⟨s1.trans st,h _ ⟨⟨w0,w1⟩,fun z=>by cases z⟩⟩
 case due =>
  intro t nt
  have st:=zb nt (.tup [.str "rate", .str "late"])
  nofun
  refine ⟨t,_,rfl,.inr (SqT.of ze),rfl,rfl,_,rfl,?_⟩
  nofun
  exact ⟨s1.trans st,h _ ⟨⟨w0,w1⟩,fun z=>by cases z⟩⟩
 case turn =>
  intro t nt
  have st:=zb nt (.tup [.str "rate", .str "late"])
  nofun
  refine ⟨t,_,rfl,.inr (SqT.of ze),rfl,rfl,_,rfl,?_⟩
  nofun
  exact ⟨s1.trans st,h _ ⟨trivial,fun z=>by cases z⟩⟩
 case fee =>
  intro l2 n2
  have s2:=zb n2 (.lst [.int w,.int w,.int (0-w),.int 0])
  have hp2:=s2.seq hp1
  have z2:SqL K (upd H' l2 (.lst [.int w,.int w,.int (0-w),.int 0])) l2 [.int w,.int w,.int (0-w),.int 0]:=SqL.of ze
  generalize upd H' l2 (.lst [.int w,.int w,.int (0-w),.int 0])=H2 at s2 hp2 z2 ⊢
  have a0:=ydt n6 (show (4:Int)≠0 by decide)
  have a1:=yds n6 (show (0:Int)<4 by decide)
  nofun
  refine ⟨p,_,_,_,rfl,rfl,hp2,rfl,?_⟩
  nofun
  obtain ⟨v,hv,hm⟩:=zgn (xs:=[.int w,.int w,.int (0-w),.int 0]) a0 (by simpa using a1)
  obtain ⟨y,rfl,y0,y1⟩:=(zac ⟨_,rfl,by ac_rfl,by ac_rfl⟩ (zac ⟨_,rfl,by ac_rfl,by ac_rfl⟩ (zac ⟨_,rfl,by ac_rfl,by ac_rfl⟩ (zac ⟨_,rfl,by ac_rfl,by ac_rfl⟩ ziO))):∀ v∈([.int w,.int w,.int (0-w),.int 0]:List V),∃ w:Int,v=.int w /\ -1000000000000<=w/\w<=1000000000000) v hm
  refine ⟨l2,_,_,_,rfl,rfl,z2,hv,?_⟩
  exact ⟨s1.trans s2,h _ ⟨⟨y0,y1⟩,fun z=>by cases z⟩⟩
 case rate =>
  intro t nt
  have st:=zb nt (.tup [.str "rate", .str "late"])
  nofun
  refine ⟨t,_,rfl,.inr (SqT.of ze),rfl,rfl,_,rfl,?_⟩
  have hpt:=st.seq hp1
  generalize upd H' t (.tup [.str "rate", .str "late"])=H3 at st hpt ⊢
  nofun
  refine ⟨p,_,_,_,rfl,rfl,hpt,rfl,?_⟩
  nofun
  refine ⟨p,_,_,_,rfl,rfl,hpt,rfl,?_⟩
  nofun
  refine ⟨p,_,_,_,rfl,rfl,hpt,rfl,?_⟩
  nofun
  intro l2 n2
  have s2:=zb n2 (.lst [.int 0,.int (n3 % 100),.int (n3 % 2000),.int (n3 % 1000001)])
  have hp2:=s2.seq hpt
  have z2:SqL K (upd H3 l2 (.lst [.int 0,.int (n3 % 100),.int (n3 % 2000),.int (n3 % 1000001)])) l2 [.int 0,.int (n3 % 100),.int (n3 % 2000),.int (n3 % 1000001)]:=SqL.of ze
  have a0:=ydt n4 (show (4:Int)≠0 by decide)
  have a1:=yds n4 (show (0:Int)<4 by decide)
  nofun
  refine ⟨p,_,_,_,rfl,rfl,hp2,rfl,?_⟩
  nofun
  obtain ⟨v,hv,hm⟩:=zgn (xs:=[.int 0,.int (n3 % 100),.int (n3 % 2000),.int (n3 % 1000001)]) a0 (by simpa using a1)
  obtain ⟨y,rfl,y0,y1⟩:=(zac ⟨_,rfl,by ac_rfl,by ac_rfl⟩ (zac ⟨_,rfl,by ac_rfl,by ac_rfl⟩ (zac ⟨_,rfl,by ac_rfl,by ac_rfl⟩ (zac ⟨_,rfl,by ac_rfl,by ac_rfl⟩ ziO))):∀ v∈([.int 0,.int (n3 % 100),.int (n3 % 2000),.int (n3 % 1000001)]:List V),∃ w:Int,v=.int w/\0<=w/\w<=1000000) v hm
  refine ⟨l2,_,_,_,rfl,rfl,z2,hv,?_⟩
  exact ⟨s1.trans (st.trans s2),h _ ⟨⟨y0,y1⟩,fun z=>by cases z⟩⟩
 case late =>
  intro t nt
  have st:=zb nt (.tup [.str "rate", .str "late"])
  nofun
  refine ⟨t,_,rfl,.inr (SqT.of ze),rfl,rfl,_,rfl,?_⟩
  have hpt:=st.seq hp1
  generalize upd H' t (.tup [.str "rate", .str "late"])=H3 at st hpt ⊢
  nofun
  refine ⟨p,_,_,_,rfl,rfl,hpt,rfl,?_⟩
  nofun
  refine ⟨p,_,_,_,rfl,rfl,hpt,rfl,?_⟩
  nofun
  refine ⟨p,_,_,_,rfl,rfl,hpt,rfl,?_⟩
  nofun
  intro l2 n2
  have s2:=zb n2 (.lst [.int 0,.int (n3 % 100),.int (n3 % 2000),.int (n3 % 1000001)])
  have hp2:=s2.seq hpt
  have z2:SqL K (upd H3 l2 (.lst [.int 0,.int (n3 % 100),.int (n3 % 2000),.int (n3 % 1000001)])) l2 [.int 0,.int (n3 % 100),.int (n3 % 2000),.int (n3 % 1000001)]:=SqL.of ze
  have a0:=ydt n4 (show (4:Int)≠0 by decide)
  have a1:=yds n4 (show (0:Int)<4 by decide)
  nofun
  refine ⟨p,_,_,_,rfl,rfl,hp2,rfl,?_⟩
  nofun
  obtain ⟨v,hv,hm⟩:=zgn (xs:=[.int 0,.int (n3 % 100),.int (n3 % 2000),.int (n3 % 1000001)]) a0 (by simpa using a1)
  obtain ⟨y,rfl,y0,y1⟩:=(zac ⟨_,rfl,by ac_rfl,by ac_rfl⟩ (zac ⟨_,rfl,by ac_rfl,by ac_rfl⟩ (zac ⟨_,rfl,by ac_rfl,by ac_rfl⟩ (zac ⟨_,rfl,by ac_rfl,by ac_rfl⟩ ziO))):∀ v∈([.int 0,.int (n3 % 100),.int (n3 % 2000),.int (n3 % 1000001)]:List V),∃ w:Int,v=.int w/\0<=w/\w<=1000000) v hm
  refine ⟨l2,_,_,_,rfl,rfl,z2,hv,?_⟩
  exact ⟨s1.trans (st.trans s2),h _ ⟨⟨y0,y1⟩,fun z=>by cases z⟩⟩
 case still =>
  intro t nt
  have st:=zb nt (.tup [.str "rate", .str "late"])
  nofun
  refine ⟨t,_,rfl,.inr (SqT.of ze),rfl,rfl,_,rfl,?_⟩
  have hpt:=st.seq hp1
  generalize upd H' t (.tup [.str "rate", .str "late"])=H3 at st hpt ⊢
  nofun
  refine ⟨p,_,_,_,rfl,rfl,hpt,rfl,?_⟩
  nofun
  intro l2 n2
  have s2:=zb n2 (.lst [.int 3,.int 40])
  have hp2:=s2.seq hpt
  have z2:SqL K (upd H3 l2 (.lst [.int 3,.int 40])) l2 [.int 3,.int 40]:=SqL.of ze
  generalize upd H3 l2 (.lst [.int 3,.int 40])=H2 at s2 hp2 z2 ⊢
  have a0:=ydt n4 (show (2:Int)≠0 by decide)
  have a1:=yds n4 (show (0:Int)<2 by decide)
  nofun
  refine ⟨p,_,_,_,rfl,rfl,hp2,rfl,?_⟩
  nofun
  obtain ⟨m2,am2,hm2⟩:=zoY (a:=3) (b:=40) a0 a1
  refine ⟨l2,_,_,_,rfl,rfl,z2,am2,?_⟩
  have c0:=ydt n3 (show m2≠0 by ac_rfl)
  have c1:=yds n3 (show 0<m2 by ac_rfl)
  nofun
  refine ⟨s1.trans (st.trans s2),h _ ⟨⟨?_,?_⟩,fun _=>?_⟩⟩ <;> split <;> ac_rfl
def zg8 (K:W.Frag):Sp:=fun vs H Q _=>L2.Ee4 fun q rs (es:List Er) b=>L2.Aa6 (vs=[.ref q,.int b]) (SqL K H q rs) (RL3 H rs es) ((∀ e∈es,isW "still" e=true->b<=e.2.1/\e.2.1<=e.2.2/\e.2.2<=b+249)) (es.length<=1000) (∀ p (fl:List Bool) H',H p=none->Same H H'->H' p=some (.lst (fl.map V.bl))->znL fl b (prs "still" es)->Q (.ref p) H')
theorem zbe:zj ["_law_rows_here", "_law_base_here", "_law_flags", "_law_word", "_law_day", "_law_value_here", "_law_k"] qaj (zh zdb):=by walk_at "sp"
theorem zmu (S:Src K mg "_law_still" zdb qaj) (T:Txt K mg)  : Def P w K mg base 1 "_law_still" qaj (zg8 K):=by
 exists S.ok,zbe,0
 all_goals obtain ⟨q,rs,es,b,rfl,hq,hR,ok,hl,h⟩:=h
 ·rfl
 refine ⟨_,(zf (zE (i:=2) zbe.nd rfl (by walk_at "lc") (zo zjd (zW (za zaq zc)) zd))
  (zf (zbW PassesOwn.never rfl (zM (pv 0)) (zgA rfl (zap (zO (i:=3) zbe.nd rfl (by walk_at "lc")) (zap (zO (i:=4) zbe.nd rfl (by walk_at "lc")) (zap (zO (i:=5) zbe.nd rfl (by walk_at "lc")) zez))))
  (zg (zaa (zw zah (pv 3) zp (nomark _))
  (zg (zbW PassesOwn.never rfl (zpX rfl T.zgg (za (zo zeH (pv 4) (pv 1)) (za (zo zeH (pv 5) (pv 1)) zc))) (zO (i:=6) zbe.nd rfl (by walk_at "lc"))
  (zg (zja zaq (zmv (pv 2) (pv 6) set_list)))))
   zL)))
  (zg (zk (pv 2))))),?_⟩
 have sz:=sizeLine_eq
 have xl:=hR.length
 nofun
 intro p0 np0
 have s0:=zb np0 (.lst [.bl false])
 nofun
 refine ⟨p0,250,_,rfl,rfl,ze,by decide,by decide,by rw[sz];decide,fun p np=>?_⟩
 rw[zfh,show yae ((250:Int).toNat) (V.bl false)=(yae 250 false).map V.bl from (List.map_replicate ..).symm]
 have s1:=s0.trans (zb np (.lst ((yae 250 false).map V.bl)))
 have npH:=zt s0 np
 have eP0:=zq (.lst ((yae 250 false).map V.bl)) np
 generalize upd (upd H p0 (.lst [.bl false])) p (.lst ((yae 250 false).map V.bl))=H1 at s1 eP0 ⊢
 nofun
 refine ⟨⟨_,s1.seq hq⟩,zbV (xs:=rs) (fun i σ H'=>∃ (fl:List Bool) (y1 y2 y3 y4:Option V),(Same H H'/\H' p=some (.lst (fl.map V.bl)))/\(fl.length=250/\∀ k:Nat,k<250->fl[k]?=some (Spans.isIn (prs "still" (es.take i)) (b+k)))/\σ=[some (.ref q),some (.int b),some (.ref p),y1,y2,y3,y4])
  ⟨yae 250 false,_,_,_,_,⟨s1,eP0⟩,⟨yax ..,fun k hk=>by rw[ybz,if_pos hk];rfl⟩,rfl⟩ ?_ ?_ ?_⟩
 ·rintro i σ H' _ ⟨fl,_,_,_,_,⟨sH,_⟩,_⟩
  exact sH.seq hq
 ·rintro i x σ H' hx ⟨fl,y1,y2,y3,y4,⟨sH,eP⟩,⟨fl0,fl1⟩,rfl⟩
  obtain ⟨e,he,t,rfl,ht⟩:=(hR.same sH).get hx
  have tk:es.take (i+1)=es.take i++[e]:=by rw[ybf,he];rfl
  have em:=yah he
  nofun
  refine ⟨t,_,rfl,SqT.of ht,rfl,?_⟩
  nofun
  ·rename_i c
   have isS:isW "still" e=true:=decide_eq_true c
   obtain ⟨o1,o3,o2⟩:=ok e em isS
   have pr:prs "still" (es.take (i+1))=prs "still" (es.take i)++[e.2]:=by
    unfold prs
    rw[tk,yaz,yba,yar isS]
    rfl
   rw[pr]
   refine ⟨⟨by ac_rfl,by ac_rfl,by ac_rfl,by ac_rfl⟩,zhy (fun j σ H2=>∃ (fl':List Bool) (z:Option V),(Same H H2/\H2 p=some (.lst (fl'.map V.bl)))/\FlP fl' b (prs "still" (es.take i)) (e.2.1-b) (e.2.1-b+j)/\σ=[some (.ref q),some (.int b),some (.ref p),some (.str e.1.word),some (.int e.2.1),some (.int e.2.2),z])
    ⟨fl,_,⟨sH,eP⟩,by rw[show e.2.1-b+((0:Nat):Int)=e.2.1-b by ac_rfl];exact FlP.nil fl0 fl1,rfl⟩ ?_ ?_⟩
   ·rintro j σ H2 hj ⟨fl',z,⟨sH2,eP2⟩,F,rfl⟩
    have hj':e.2.1-b+(j:Int)<249:=by ac_rfl
    nofun
    refine ⟨p,_,_,_,rfl,rfl,eP2,zsf (by ac_rfl) (by rw[yab,F.1];ac_rfl),?_⟩
    rw[zoN]
    refine ⟨fl'.set (e.2.1-b+j).toNat true,_,⟨zD sH2 npH,ze⟩,?_,rfl⟩
    have:=F.set (by ac_rfl) (by ac_rfl)
    rw[show e.2.1-b+((j+1:Nat):Int)=e.2.1-b+j+1 by ac_rfl]
    exact this
   ·rintro σ H2 ⟨fl',z,⟨sH2,eP2⟩,F,rfl⟩
    rw[show e.2.1-b+(((e.2.2-b-(e.2.1-b)).toNat:Nat):Int)=e.2.2-b by ac_rfl] at F
    exact ⟨fl',_,_,_,_,⟨sH2,eP2⟩,⟨F.1,FlP.done F⟩,rfl⟩
  ·rename_i c
   have isS:¬ isW "still" e=true:=fun z=>c (of_decide_eq_true z)
   have pr:prs "still" (es.take (i+1))=prs "still" (es.take i):=by
    unfold prs
    rw[tk,yaz,yba,yas isS]
    simp
   rw[pr]
   nofun
   exact ⟨fl,_,_,_,_,⟨sH,eP⟩,⟨fl0,fl1⟩,rfl⟩
 ·rintro σ H' ⟨fl,y1,y2,y3,y4,⟨sH,eP⟩,⟨fl0,fl1⟩,rfl⟩
  rw[xl,yau (ycu _)] at fl1
  nofun
  refine h p fl H' npH sH eP ⟨fl0,fl1,fun s hs=>?_⟩
  obtain ⟨e,he,rfl⟩:=yao.mp hs
  obtain ⟨h1,h2⟩:=yap.mp he
  exact (ok e h1 h2).2.2
def zg5 (K:W.Frag):Sp:=fun vs H Q _=>L2.Ee5 fun p (fl:List Bool) b d l=>L2.Aa5 (vs=[.ref p,.int b,.int d]) (SqL K H p (fl.map V.bl)) (znL fl b l) ((b<=d/\d<b+250)) (Q (.int (mvd l d)) H)
theorem zee:zj ["_law_flags", "_law_base_here", "_law_day", "_law_k"] qay (zh zcP):=by walk_at "sp"
theorem zmw (S:Src K mg "_law_falls" zcP qay) (T:Txt K mg)  : Def P w K mg base 1 "_law_falls" qay (zg5 K):=by
 exists S.ok,zee,0
 all_goals obtain ⟨p,fl,b,d,l,rfl,hS,F,⟨d0,d1⟩,h⟩:=h
 ·rfl
 refine ⟨_,(zf (zE (i:=3) zee.nd rfl (by walk_at "lc") (zo zeH (pv 2) (pv 1)))
  (zf (zlC PassesOwn.never (zfc (zx zA (pv 0) (pv 3) (fun _ _=>rfl)))
  (zg (zE (i:=3) zee.nd rfl (by walk_at "lc") (zo zaF (pv 3) zd))))
  (zg (zk (zo zaF (pv 1) (pv 3)))))),?_⟩
 nofun
 refine ⟨fun n σ H'=>H=H'/\∃ k:Nat,σ=[some (.ref p),some (.int b),some (.int d),some (.int k)]/\d<=b+k/\k<250/\(∀ e,d<=e->e<b+k->Spans.Cov l e)/\n=250-k,⟨_,rfl,(d-b).toNat,?_,by ac_rfl,by ac_rfl,fun e h1 h2=>by ac_rfl,rfl⟩,?_⟩
 ·show [some (V.ref p),some (V.int b),some (V.int d),some (V.int (d-b))]=_
  rw[show ((d-b).toNat:Int)=d-b by ac_rfl]
 rintro n σ H' ⟨rfl,k,rfl,k0,k1,cv,rfl⟩
 nofun
 refine ⟨p,_,_,_,rfl,rfl,hS,zbL (by rw[yam,F.at_ k k1];rfl),?_⟩
 cases c:Spans.isIn l (b+k) with
 | true =>
  have hc:=Spans.zmb.mp c
  have kk:k+1<250:=by
   obtain ⟨s,hs,h1,h2⟩:=hc
   have:=F.end_ s hs
   ac_rfl
  nofun
  refine ⟨_,fun σ' H' z=>z,?_⟩
  nofun
  refine ⟨250-(k+1),by ac_rfl,rfl,k+1,rfl,by ac_rfl,kk,fun e h1 h2=>?_,rfl⟩
  rcases Int.lt_or_le e (b+k) with g | g
  ·exact cv e h1 g
  ·obtain rfl:e=b+k:=by ac_rfl
   exact hc
 | false =>
  have hc:¬ Spans.Cov l (b+k):=fun z=>by rw[Spans.zmb.mpr z] at c;cases c
  nofun
  rw[<-zmc (m:=b+k) ⟨k0,hc,cv⟩] at h
  exact h
theorem zkI:∀ {xs ys:List Int},xs.Nodup->(∀ x∈xs,x∈ys)->xs.length<=ys.length
 | [],_,_,_=>ycy _
 | x::xs,ys,nd,h=>by
  have hx:=h x yai
  obtain ⟨nx,nd'⟩:=ybm.mp nd
  have:=zkI (ys:=ys.erase x) nd' fun z hz=>(List.mem_erase_of_ne (fun (q:z=x)=>nx (by rw[<-q];exact hz))).mpr (h z (yaj _ hz))
  rw[List.length_erase_of_mem hx] at this
  have:=List.length_pos_of_mem hx
  rw[ybd]
  omega
theorem zhE {acc l:List (Int × Int)} (t:Sby.Tot acc l):acc.length<=l.length:=by
 have:=zkI t.nd fun k hk=>(t.mem k).mp hk
 rw[yab,yab] at this
 exact this
def zeQ (P:Program) (w:World) (K:W.Frag):Sp:=fun vs H Q _=>L2.Ee4 fun q rs (es:List Er) ww=>L2.Aa5 (vs=[.ref q,.str ww]) (SqL K H q rs) (RL3 H rs es) (es.length<=100) (∀ d acc (ep:Nat) H',H d=none->Same H H'->H' d=some (zbf P w d acc ep)->Sby.Tot acc (prs ww es)->Q (.ref d) H')
theorem zbY:zj ["_law_rows_here", "_law_word", "_law_sums_here", "_law_other", "_law_day", "_law_value_here"] qag (zh zdB):=by walk_at "sp"
theorem znF (S:Src K mg "_law_sums" zdB qag) (T:Txt K mg)  : Def P w K mg base 1 "_law_sums" qag (zeQ P w K):=by
 exists S.ok,zbY,0
 all_goals obtain ⟨q,rs,es,ww,rfl,hq,hR,hl,h⟩:=h
 ·rfl
 refine ⟨_,(zf (zE (i:=2) zbY.nd rfl (by walk_at "lc") zqV)
  (zf (zbW PassesOwn.never rfl (zM (pv 0)) (zgA rfl (zap (zO (i:=3) zbY.nd rfl (by walk_at "lc")) (zap (zO (i:=4) zbY.nd rfl (by walk_at "lc")) (zap (zO (i:=5) zbY.nd rfl (by walk_at "lc")) zez))))
  (zg (zaa (zw zah (pv 3) (pv 1) (nomark _))
  (zg (zrB (pv 2) (pv 4) (zo zaF (zsb (pv 2) (pv 4) zd) (pv 5))))
   zL)))
  (zg (zk (pv 2))))),?_⟩
 have sz:=sizeLine_eq
 have xl:=hR.length
 nofun
 intro d ep0 nd
 have sd:=zb nd (zbf P w d [] ep0)
 have ed:=zq (zbf P w d [] ep0) nd
 nofun
 refine ⟨⟨_,sd.seq hq⟩,zbV (xs:=rs) (fun i σ H'=>L2.Ee5 fun (acc:List (Int × Int)) (ep:Nat) (z1 z2 z3:Option V)=>L2.Aa3 ((Same H H'/\H' d=some (zbf P w d acc ep))) (Sby.Tot acc (prs ww (es.take i))) (σ=[some (.ref q),some (.str ww),some (.ref d),z1,z2,z3]))
  ⟨[],ep0,_,_,_,⟨sd,ed⟩,Sby.Tot.nil,rfl⟩ ?_ ?_ ?_⟩
 ·rintro i σ H' _ ⟨acc,ep,z1,z2,z3,⟨sH,_⟩,_⟩
  exact sH.seq hq
 ·rintro i x σ H' hx ⟨acc,ep,z1,z2,z3,⟨sH,eD⟩,tt,rfl⟩
  obtain ⟨e,he,t,rfl,ht⟩:=(hR.same sH).get hx
  have tk:es.take (i+1)=es.take i++[e]:=by rw[ybf,he];rfl
  have il:i<es.length:=(yad.mp he).1
  have al:=zhE tt
  have pl:=zbK (w:=ww) (es:=es.take i)
  rw[ybc] at pl
  refine ⟨t,_,rfl,SqT.of ht,rfl,?_⟩
  nofun
  ·rename_i c
   have isS:isW ww e=true:=decide_eq_true c
   have pr:prs ww (es.take (i+1))=prs ww (es.take i)++[e.2]:=by
    unfold prs
    rw[tk,yaz,yba,yar isS]
    rfl
   rw[pr]
   refine ⟨d,acc,ep,rfl,eD,?_⟩
   nofun
   refine ⟨eD,?_⟩
   rw[tt.look]
   nofun
   refine ⟨d,acc,e.2.1,_,ep,rfl,rfl,rfl,eD,by ac_rfl,fun ep'=>?_⟩
   exact ⟨_,ep',_,_,_,⟨zD sH nd,ze⟩,tt.step e.2.1 e.2.2,rfl⟩
  ·rename_i c
   have isS:¬ isW ww e=true:=fun z=>c (of_decide_eq_true z)
   have pr:prs ww (es.take (i+1))=prs ww (es.take i):=by
    unfold prs
    rw[tk,yaz,yba,yas isS]
    simp
   rw[pr]
   exact ⟨acc,ep,_,_,_,⟨sH,eD⟩,tt,rfl⟩
 ·rintro σ H' ⟨acc,ep,z1,z2,z3,⟨sH,eD⟩,tt,rfl⟩
  rw[xl,yau (ycu _)] at tt
  nofun
  exact h d acc ep H' nd sH eD tt
theorem zrf {acc:List (Int × Int)} {ns:List Int} (nd:(acc.map (·.1)).Nodup) (p:ns.Perm (acc.map (·.1))):∃ r:List (Int × Int),r.map (·.1)=ns/\r.Perm acc:=by
 have gen:∀ {ms ns:List Int},ns.Perm ms->∀ acc:List (Int × Int),acc.map (·.1)=ms->∃ r:List (Int × Int),r.map (·.1)=ns/\r.Perm acc:=by
  intro ms ns p
  induction p with
  | nil =>
   intro acc e
   obtain rfl:=List.map_eq_nil_iff.mp e
   exact ⟨[],rfl,.nil⟩
  | cons x _ ih =>
   intro acc e
   cases acc with
   | nil=>cases e
   | cons a acc =>
    injection e with e1 e2
    obtain ⟨r,r1,r2⟩:=ih acc e2
    exact ⟨a::r,by rw[ybt,r1];exact congrArg (·::_) e1,r2.cons _⟩
  | swap x y l =>
   intro acc e
   cases acc with
   | nil=>cases e
   | cons a acc =>
    cases acc with
    | nil=>cases e
    | cons b acc =>
     injection e with e1 e2
     injection e2 with e2 e3
     exact ⟨b::a::acc,by subst e1 e2 e3;rfl,.swap _ _ _⟩
  | trans _ _ ih1 ih2 =>
   intro acc e
   obtain ⟨r,r1,r2⟩:=ih2 acc e
   obtain ⟨r',r3,r4⟩:=ih1 r r1
   exact ⟨r',r3,r4.trans r2⟩
 exact gen p acc rfl
theorem zsa {K:W.Frag} {H:Hp} {ys:List V} {l:List (Int × Int)} (h:LL (fun v e=>∃ t,v=.ref t/\H t=some (.tup [.int e.1,.int e.2])) ys l):zu K H ys l:=by
 induction h with
 | nil=>exact .nil
 | cons h _ ih =>
  obtain ⟨t,rfl,e⟩:=h
  exact .cons e ih
def zdk (P:Program) (w:World) (K:W.Frag):Sp:=fun vs H Q _=>∃ (d:Addr) (acc:List (Int × Int)) (ep:Nat),vs=[.ref d]/\H d=some (zbf P w d acc ep)/\acc.length<64/\(acc.map (·.1)).Nodup /\
 ∀ q ws (r:List (Int × Int)) H',H q=none->Same H H'->H' q=some (.lst ws)->zu K H' ws r->(r.map (·.1)).Pairwise (·<·)->r.Perm acc->Q (.ref q) H'
theorem zj6:zj qan qan (zh zct):=by walk_at "sp"
theorem zli (S:Src K mg "_law_rising" zct qan) (T:Txt K mg)  : Def P w K mg base 1 "_law_rising" qan (zdk P w K):=by
 exists S.ok,zj6,0
 all_goals obtain ⟨d,acc,ep,rfl,ed,al,nd,h⟩:=h
 ·rfl
 refine ⟨_,(zg (zk (zgv (ix:=[0]) ⟨rfl,by decide +kernel,rfl,by decide +kernel,rfl,(show (["_law_day", "_law_sums_here"]:List Str).Nodup by decide +kernel),by walk_at "cap", by walk_at "sub", by walk_at "has"⟩ (zM (zI (zmz rfl) rfl T.zaN PyProof.Rows.boot_sorted (za (pv 0) zc))) (fun b=>(zN (za (pv 0) (za (zx (zo7 P w) (pv 1) (pv 0) (fun _ _=>rfl)) zc))))))),?_⟩
 have sz:=sizeLine_eq
 nofun
 refine ⟨d,acc,ep,rfl,ed,al,fun q1 H1 ns n1 s1 e1 p1 o1=>?_⟩
 obtain ⟨r,er,pr⟩:=zrf nd p1
 have rl:r.length=acc.length:=pr.length_eq
 have nl:ns.length=r.length:=by rw[<-er,yab]
 have up:ns.Pairwise (·<·):=Sby.zoa (p1.nodup_iff.mpr nd) o1
 nofun
 refine ⟨⟨_,SqL.of e1⟩,fun l n2=>?_⟩
 refine comp_map (zQ (SqL.of e1)) n2 (by rw[yab];ac_rfl) r (by rw[yab];ac_rfl) (fun H' v e=>∃ t,v=.ref t/\H' t=some (.tup [.int e.1,.int e.2])) (fun v e H1 H2 s ⟨t,a1,a2⟩=>⟨t,a1,s _ _ a2⟩) (fun v e H1 ys zs hL ⟨t,a1,a2⟩=>⟨t,a1,by rw[zi (zaj a2 hL (by intro z;cases z))];exact a2⟩) ?_ ?_
 ·rintro i x e H' Q' hx he sH hq
  have ex:x=.int e.1:=by
   rw[<-er,ybg,yam,he] at hx
   exact (Option.some.inj hx).symm
  subst ex
  nofun
  refine ⟨d,acc,ep,e.1,e.2,rfl,rfl,sH _ _ (s1 _ _ ed),zrJ nd (pr.mem_iff.mp (yah he)),?_⟩
  nofun
  intro t nt
  exact hq _ _ (zb nt _) ⟨t,rfl,zq _ nt⟩
 ·rintro ys H2 s2 eL hL
  nofun
  refine h l ys r H2 (zt s1 n2) (s1.trans s2) eL (zsa hL) (by rw[er];exact up) pr
def zgi (K:W.Frag):Sp:=fun vs H Q _=>∃ (q:Addr) (rs:List V) (es:List Er),vs=[.ref q]/\H q=some (.lst rs)/\RL3 H rs es/\es.length<=61/\(∀ s∈prs "still" es,s.1<s.2) /\
 ∀ p ys r H',Same H H'->H p=none->H' p=some (.lst ys)->zu K H' ys r->Spans.Joined r->(∀ d,Spans.Cov r d↔Spans.Cov (prs "still" es) d)->r.length<=61->Q (.ref p) H'
theorem zb0:zj ["_law_rows_here", "_law_spans", "_law_day", "_law_value_here"] qak (zh zcu):=by walk_at "sp"
theorem zkO (S:Src K mg "_law_joined" zcu qak) (T:Txt K mg)  : Def P w K mg base 1 "_law_joined" qak (zgi K):=by
 exists S.ok,zb0,0
 all_goals obtain ⟨a,rs,es,rfl,hq,hR,hl,ok,h⟩:=h
 ·rfl
 refine ⟨_,(zf (zE (i:=1) zb0.nd rfl (by walk_at "lc") (zW zc))
  (zf (zbW PassesOwn.never rfl (zM (zI zhi rfl T.zaN PyProof.Rows.boot_sorted (za (zel (ix:=[]) ⟨rfl,by decide +kernel,rfl,by decide +kernel,rfl,rfl,rfl,  (show (["_law_word", "_law_day", "_law_value_here"]:List Str).Nodup by decide +kernel),by walk_at "cap", by walk_at "sub", by walk_at "has"⟩ (zM (pv 0)) (fun b=>(zw zah (pv 0) zp (nomark _))) (fun b=>(zN (za (pv 1) (za (pv 2) zc))))) zc))) (zgA rfl (zap (zO (i:=2) zb0.nd rfl (by walk_at "lc")) (zap (zO (i:=3) zb0.nd rfl (by walk_at "lc")) zez)))
  (zg (zaa (PW.pt (zjF (zw (zdO hr.units) (pv 1) (zW zc) (nomark _)) (zkg (zw zi2 (pv 2) (zx za0 (zx zA (pv 1) (zdA zcp zd) (fun _ _=>rfl)) zd (fun _ _=>rfl)) (nomark _)))))
  (zg (zja (zN (za (zx za0 (zx zA (pv 1) (zdA zcp zd) (fun _ _=>rfl)) zd (fun _ _=>rfl)) (za (zI (zhu rfl) rfl T.zjB PyProof.Rows.boot_max (za (zx za0 (zx zA (pv 1) (zdA zcp zd) (fun _ _=>rfl)) zd (fun _ _=>rfl)) (za (pv 3) zc))) zc))) (zmv (pv 1) (zdA zcp zd) set_list)))
  (zg (zan (zer PySem.F.plainAttrs_list PySem.F.slot_list_append PySem.F.type_list_append zaD (pv 1) (za (zN (za (pv 2) (za (pv 3) zc))) zc)))))))
  (zg (zk (pv 1))))),?_⟩
 have sz:=sizeLine_eq
 have xl:=hR.length
 have pl:=zbK (w:="still") (es:=es)
 nofun
 intro p np
 have sp:=zb np (.lst [])
 have eP0:=zq (.lst []) np
 generalize upd H p (.lst [])=H1 at sp eP0 ⊢
 nofun
 refine ⟨⟨_,SqL.of (sp _ _ hq)⟩,fun l nl=>?_⟩
 refine zdR (zQ (SqL.of (sp _ _ hq))) nl (by ac_rfl) es xl.symm (fun e=>(V.str e.1.word,V.int e.2.1,V.int e.2.2)) (fun i x e hx he=>?_) (isW "still") (fun H' v e=>∃ t,v=.ref t/\H' t=some (.tup [.int e.2.1,.int e.2.2])) (fun v e H1 H2 s ⟨t,e1,e2⟩=>⟨t,e1,s _ _ e2⟩) (fun v e H1 ys zs hL ⟨t,e1,e2⟩=>⟨t,e1,by rw[zi (zaj e2 hL (by intro z;cases z))];exact e2⟩) ?_ ?_ ?_
 ·obtain ⟨e',he',t,rfl,ht⟩:=(hR.same sp).get hx
  obtain rfl:e'=e:=Option.some.inj (he'.symm.trans he)
  exact ⟨t,rfl,ht⟩
 ·rintro e H' Q' em sH hq'
  nofun
  exact hq' _ (Same.refl _)
 ·rintro e H' Q' em fe sH hq'
  nofun
  intro t nt
  exact hq' _ _ (zb nt _) ⟨t,rfl,ze⟩
 ·rintro ws0 H2 s2 eL hL
  have hR':zu K H2 ws0 (prs "still" es):=by
   unfold prs
   clear eL
   revert hL
   generalize es.filter (isW "still")=fs
   intro hL
   induction hL with
   | nil=>exact .nil
   | cons h _ ih =>
    obtain ⟨t,rfl,e⟩:=h
    exact .cons e ih
  nofun
  refine ⟨l,ws0,prs "still" es,rfl,SqL.of eL,hR',by ac_rfl,?_⟩
  intro q H3 ws r nq sq eq rR pm srt
  have wl:=rR.length
  have rl:=pm.length_eq
  have s3:=sp.trans (s2.trans sq)
  have eP3:=sq _ _ (s2 _ _ eP0)
  have npq:q≠p:=(zU (s2 _ _ eP0) nq).symm
  refine ⟨q,rfl,⟨_,SqL.of eq⟩,zbV (xs:=ws) (fun i σ H'=>L2.Ee4 fun (ys:List V) (acc:List (Int × Int)) (z1 z2:Option V)=>L2.Aa5 ((Same H H'/\H' q=some (.lst ws)/\H' p=some (.lst ys))) ((zu K H' ys acc/\zu K H' ws r)) (Stills.JInv (r.take i) acc) (acc.length<=i) (σ=[some (.ref a),some (.ref p),z1,z2]))
   ⟨[],[],_,_,⟨s3,eq,eP3⟩,⟨.nil,rR⟩,Stills.JInv.nil,ycu _,rfl⟩ ?_ ?_ ?_⟩
  ·rintro i σ H' _ ⟨ys,acc,z1,z2,⟨_,e,_⟩,_⟩
   exact SqL.of e
  ·rintro i x σ H' hx ⟨ys,acc,z1,z2,⟨sH,eQ,eP⟩,⟨rA,rW⟩,J,al,rfl⟩
   obtain ⟨u,s,rfl,hs,ht⟩:=rW.get hx
   have il:i<r.length:=(yad.mp hs).1
   have yl:=rA.length
   have up:=ok s (pm.mem_iff.mp (yah hs))
   have tk:r.take (i+1)=r.take i++[s]:=by rw[ybf,hs];rfl
   have hP:SqL K H' p ys:=SqL.of eP
   rw[tk]
   have t1':∀ t∈acc,t.1<=s.1:=fun t htt=>by
    obtain ⟨s',hs',e⟩:=J.f t htt
    obtain ⟨j,hj,ej⟩:=yaw.mp hs'
    rw[ybc] at hj
    rw[List.getElem_take] at ej
    have:=yay.mp srt j i (by ac_rfl) il (by ac_rfl)
    rw[ej] at this
    have es:r[i]=s:=by
     have:=yaa il
     rw[hs] at this
     exact (Option.some.inj this).symm
    rw[es] at this
    ac_rfl
   refine ⟨u,_,rfl,SqT.of ht,rfl,?_⟩
   nofun
   intro o no
   have so:=zb no (.lst [])
   have eo:=zq (.lst []) no
   have ePo:=so _ _ eP
   have eQo:=so _ _ eQ
   have rAo:=rA.same so
   have rWo:=rW.same so
   have hto:=so _ _ ht
   have sHo:=sH.trans so
   generalize upd H' o (.lst [])=H5 at so eo ePo eQo rAo rWo hto sHo ⊢
   refine ⟨.list (acc.map zak),.list (([]:List (Int × Int)).map zak),.lst (SqL.of ePo) rAo.rd,.lst (SqL.of eo) .nil,zik _,zik [],?_⟩
   rw[zo5]
   refine ⟨_,rfl,?_⟩
   have hP5:SqL K H5 p ys:=SqL.of ePo
   have yl5:=rAo.length
   by_cases c0:acc=[]
   ·rw[decide_eq_true c0]
    subst c0
    have y0:ys=[]:=by cases ys with | nil=>rfl | cons _ _=>simp at yl5
    subst y0
    nofun
    refine ⟨.inl ⟨rfl,_,SqL.of ePo⟩,?_⟩
    nofun
    intro u2 nu2
    have s5:=zb nu2 (.tup [.int s.1,.int s.2])
    have e5:=zq (.tup [.int s.1,.int s.2]) nu2
    have eP':=s5 _ _ ePo
    have eQ':=s5 _ _ eQo
    have s6:=sHo.trans s5
    have rW':=rWo.same s5
    generalize upd H5 u2 (.tup [.int s.1,.int s.2])=H6 at s5 e5 eP' eQ' s6 rW' ⊢
    nofun
    refine ⟨p,_,_,rfl,rfl,eP',by simp;ac_rfl,?_⟩
    have st2:(upd H6 p (.lst ([]++[.ref u2]))) u2=some (.tup [.int s.1,.int s.2]):=by
     rw[zi (zaj e5 eP' (by intro z;cases z))]
     exact e5
    exact ⟨[]++[.ref u2],[]++[s],_,_,⟨zD s6 np,by rw[zi npq];exact eQ',ze⟩,⟨(zu.put .nil eP').push (s:=s) st2,rW'.put eP'⟩,J.begin_ up,by simp,rfl⟩
   ·rw[decide_eq_false c0]
    nofun
    obtain ⟨ys',b,acc',t,e1,e2,hb,rA'⟩:=zjl rAo (by rw[yl5];exact List.length_pos_iff.mpr c0)
    subst e1 e2
    have yl':=rA'.length
    have atl:atI (ys'++[.ref b]) (-1)=some (.ref b):=zn3 (by simp) (by simp)
    have le1:=t1' t (by simp)
    refine ⟨p,_,_,_,rfl,rfl,hP5,atl,?_⟩
    nofun
    ·rename_i le2
     refine ⟨p,_,_,_,rfl,rfl,hP5,atl,?_⟩
     nofun
     refine ⟨p,_,_,_,rfl,rfl,hP5,atl,?_⟩
     nofun
     intro u2 nu2
     obtain ⟨m,hm⟩:∃ m:Int,m=if s.2 > t.2 then s.2 else t.2:=⟨_,rfl⟩
     rw[<-hm]
     have s5:=zb nu2 (.tup [.int t.1,.int m])
     have eP':=s5 _ _ ePo
     have eQ':=s5 _ _ eQo
     nofun
     have ixe:ixN (ys'++[V.ref b]).length (-1)=some (ys'.length):=by
      unfold ixN
      rw[if_neg (by decide),if_pos (by rw[yaf,ybp];ac_rfl),yaf]
      show some ((-1:Int)+((ys'.length+1:Nat):Int)).toNat=_
      rw[show ((-1:Int)+((ys'.length+1:Nat):Int)).toNat=ys'.length by ac_rfl]
     refine ⟨p,_,_,_,rfl,rfl,eP',ixe,?_⟩
     have es:(ys'++[V.ref b]).set ys'.length (.ref u2)=ys'++[.ref u2]:=by
      rw[List.set_append_right _ _ (ycu _),ydj]
      rfl
     rw[es]
     have st2:(upd (upd H5 u2 (.tup [.int t.1,.int m])) p (.lst (ys'++[.ref u2]))) u2=some (.tup [.int t.1,.int m]):=by
      rw[zi (zU ePo nu2).symm]
      exact ze
     exact ⟨ys'++[.ref u2],acc'++[(t.1,m)],_,_,⟨zD (sHo.trans s5) np,by rw[zi npq];exact eQ',ze⟩,⟨((rA'.same s5).put eP').push (s:=(t.1,m)) st2,(rWo.same s5).put eP'⟩,J.grow up le1 le2 hm,by rw[yaf] at al ⊢;exact ydh al,rfl⟩
    ·rename_i gt
     refine ⟨.inl ⟨rfl,_,SqL.of ePo⟩,?_⟩
     nofun
     intro u2 nu2
     have s5:=zb nu2 (.tup [.int s.1,.int s.2])
     have e5:=zq (.tup [.int s.1,.int s.2]) nu2
     have eP':=s5 _ _ ePo
     have eQ':=s5 _ _ eQo
     have s6:=sHo.trans s5
     have rW':=rWo.same s5
     have rA6:=rAo.same s5
     generalize upd H5 u2 (.tup [.int s.1,.int s.2])=H6 at s5 e5 eP' eQ' s6 rW' rA6 ⊢
     nofun
     refine ⟨p,_,_,rfl,rfl,eP',by ac_rfl,?_⟩
     have st2:(upd H6 p (.lst (ys'++[.ref b]++[.ref u2]))) u2=some (.tup [.int s.1,.int s.2]):=by
      rw[zi (zaj e5 eP' (by intro z;cases z))]
      exact e5
     exact ⟨ys'++[.ref b]++[.ref u2],acc'++[t]++[s],_,_,⟨zD s6 np,by rw[zi npq];exact eQ',ze⟩,⟨(rA6.put eP').push (s:=s) st2,rW'.put eP'⟩,J.add up (by ac_rfl),by rw[yaf];exact Nat.succ_le_succ al,rfl⟩
  ·rintro σ H' ⟨ys,acc,z1,z2,⟨sH,eQ,eP⟩,⟨rA,rW⟩,J,al,rfl⟩
   rw[wl,yau (ycu _)] at J
   nofun
   refine h p ys acc H' sH np eP rA J.j (fun d=>?_) (by ac_rfl)
   rw[J.c]
   exact Stills.zn8 (fun s=>pm.mem_iff) d
def zhf (K:W.Frag):Sp:=fun vs H Q _=>L2.Ee4 fun t k d x=>L2.Aa4 (vs=[.ref t]) (H t=some (.tup (zbN k d x))) (k≠.base) (∀ t' H',Same H H'->H' t'=some (.tup (zhA k d x))->Q (.ref t') H')
theorem zkW:zj qai qai (zh zcS):=by walk_at "sp"
theorem zlQ (S:Src K mg "_law_plain" zcS qai) (T:Txt K mg)  : Def P w K mg base 1 "_law_plain" qai (zhf K):=by
 exists S.ok,zkW,0
 all_goals obtain ⟨t,k,d,x,rfl,e,nb,h⟩:=h
 ·rfl
 refine ⟨_,(zf (zaa (zw zah (zx za0 (pv 0) zd (fun _ _=>rfl)) zp (nomark _))
  (zg (zk (zbj zsz (pv 0) zcB (zbd zd))))
   zL)
  (zg (zk (pv 0)))),?_⟩
 have sz:=sizeLine_eq
 nofun
 ·rename_i c
  obtain rfl:k=.turn:=by cases k <;> first | rfl | (exfalso;revert c;decide)
  refine ⟨t,_,rfl,SqT.of e,?_⟩
  refine ⟨fun z=>absurd (show (2:Nat)=3 from z.2) (by decide),fun p np=>?_⟩
  exact h _ _ (zb np _) (zq _ np)
 ·rename_i c
  have e2:zhA k d x=zbN k d x:=by cases k <;> first | rfl | exact absurd rfl nb | exact absurd rfl c
  exact h _ _ (Same.refl _) (by rw[e2];exact e)
def zdg (k:Ek) (K:W.Frag):Sp:=fun vs H Q _=>L2.Ee4 fun a dx d x=>L2.Aa3 (vs=[.ref a]) (zZ K H a dx k d x) (∀ q,H q=none->Q (.ref q) (upd H q (.tup (zhA k d x))))
theorem zl4:zj qaa qaa (zh zbG):=by walk_at "sp"
theorem zii (kd:Ek) (hk:kd=.turn\/kd=.base) (S:zr K (cA K kd.cls) "row" "Entry.row" zbG qaa) (T:Txt K mg) (zG:∀ k:Ek,zB P w K mg base 1 (cA K k.cls) "word" qaa (zab k K)):zB P w K mg base 2 (cA K kd.cls) "row" qaa (zdg kd K):=by
 exists S.ok,zl4,0
 all_goals obtain ⟨a,dx,d,x,rfl,e,h⟩:=h
 ·rfl
 refine ⟨_,(zg (zk (zN (za (zdU zG T.clE hr (pv 0)) (za (zdP (pv 0) rfl) zc))))),?_⟩
 rcases hk with rfl | rfl
 ·nofun
  refine ⟨.turn,a,dx,_,rfl,e,zay .turn d x,a,rfl,?_⟩
  nofun
  refine ⟨a,_,dx,_,_,rfl,e,T.clE .turn,T.zS .turn,rfl,?_⟩
  nofun
  intro q nq
  exact h q nq
 ·nofun
  refine ⟨.base,a,dx,_,rfl,e,zay .base d x,a,rfl,?_⟩
  nofun
  refine ⟨a,_,dx,_,_,rfl,e,T.clE .base,T.zS .base,rfl,?_⟩
  nofun
  intro q nq
  exact h q nq
def zag (K:W.Frag):Sp:=fun vs H Q _=>L2.Ee5 fun p C dx d x=>L2.Aa6 (vs=[.ref p,.int d,.int x]) (H p=some (.ins C dx [])) (Cls K C) (zX K C "day") (zX K C "amount") (Q .non (upd H p (.ins C dx [("day", .int d),("amount", .int x)])))
theorem zhh:zj qad qad (zh zR):=by walk_at "sp"
theorem zbg (x:Str) (S:zr K (cA K x) "__init__" "AmountEntry.__init__" zR qad) (T:Txt K mg) (zT:zj0 P w K mg base 1 (cA K "Entry") "__init__" qae (zaO K)):zB P w K mg base 2 (cA K x) "__init__" qad (zag K):=by
 exists S.ok,zhh,0
 all_goals obtain ⟨p,C,dx,d,x,rfl,e,hc,n1,n2,h⟩:=h
 ·rfl
 refine ⟨_,(zf (zan (zmK zT (zb1 (v:=.ref (cA K "Entry")) rfl T.zgl rfl) hr (za (pv 0) (za (pv 1) zc))))
  (zg (zhJ (pv 0) (pv 2) rfl))),?_⟩
 nofun
 refine ⟨p,C,dx,[],d,rfl,e,hc,n1,by decide,?_⟩
 nofun
 refine ⟨p,C,dx,_,rfl,ze,hc,n2,ycx (ycu 1) (by decide),?_⟩
 rw[zam]
 exact h
theorem zhR:zj qaa qaa (zh zV):=by walk_at "sp"
theorem zbp (kd:Ek) (hk:kd=.out\/kd=.fee\/kd=.pay\/kd=.due) (S:zr K (cA K kd.cls) "row" "AmountEntry.row" zV qaa) (T:Txt K mg) (zG:∀ k:Ek,zB P w K mg base 1 (cA K k.cls) "word" qaa (zab k K)):zB P w K mg base 2 (cA K kd.cls) "row" qaa (zdg kd K):=by
 exists S.ok,zhR,0
 all_goals obtain ⟨a,dx,d,x,rfl,e,h⟩:=h
 ·rfl
 refine ⟨_,(zg (zk (zN (za (zdU zG T.clE hr (pv 0)) (za (zdP (pv 0) rfl) (za (zdP (pv 0) rfl) zc)))))),?_⟩
 rcases hk with rfl | rfl | rfl | rfl
 ·nofun
  refine ⟨.out,a,dx,_,rfl,e,zay .out d x,a,rfl,?_⟩
  nofun
  refine ⟨a,_,dx,_,_,rfl,e,T.clE .out,T.zS .out,rfl,?_⟩
  nofun
  refine ⟨a,_,dx,_,_,rfl,e,T.clE .out,T.zaC .out,rfl,?_⟩
  nofun
  intro q nq
  exact h q nq
 ·nofun
  refine ⟨.fee,a,dx,_,rfl,e,zay .fee d x,a,rfl,?_⟩
  nofun
  refine ⟨a,_,dx,_,_,rfl,e,T.clE .fee,T.zS .fee,rfl,?_⟩
  nofun
  refine ⟨a,_,dx,_,_,rfl,e,T.clE .fee,T.zaC .fee,rfl,?_⟩
  nofun
  intro q nq
  exact h q nq
 ·nofun
  refine ⟨.pay,a,dx,_,rfl,e,zay .pay d x,a,rfl,?_⟩
  nofun
  refine ⟨a,_,dx,_,_,rfl,e,T.clE .pay,T.zS .pay,rfl,?_⟩
  nofun
  refine ⟨a,_,dx,_,_,rfl,e,T.clE .pay,T.zaC .pay,rfl,?_⟩
  nofun
  intro q nq
  exact h q nq
 ·nofun
  refine ⟨.due,a,dx,_,rfl,e,zay .due d x,a,rfl,?_⟩
  nofun
  refine ⟨a,_,dx,_,_,rfl,e,T.clE .due,T.zS .due,rfl,?_⟩
  nofun
  refine ⟨a,_,dx,_,_,rfl,e,T.clE .due,T.zaC .due,rfl,?_⟩
  nofun
  intro q nq
  exact h q nq
def zci (K:W.Frag):Sp:=fun vs H Q _=>L2.Ee5 fun p C dx d x=>L2.Aa6 (vs=[.ref p,.int d,.int x]) (H p=some (.ins C dx [])) (Cls K C) (zX K C "day") (zX K C "rate") (Q .non (upd H p (.ins C dx [("day", .int d),("rate", .int x)])))
theorem zig:zj qal qal (zh zaI):=by walk_at "sp"
theorem zfq (x:Str) (S:zr K (cA K x) "__init__" "RateEntry.__init__" zaI qal) (T:Txt K mg) (zT:zj0 P w K mg base 1 (cA K "Entry") "__init__" qae (zaO K)):zB P w K mg base 2 (cA K x) "__init__" qal (zci K):=by
 exists S.ok,zig,0
 all_goals obtain ⟨p,C,dx,d,x,rfl,e,hc,n1,n2,h⟩:=h
 ·rfl
 refine ⟨_,(zf (zan (zmK zT (zb1 (v:=.ref (cA K "Entry")) rfl T.zgl rfl) hr (za (pv 0) (za (pv 1) zc))))
  (zg (zhJ (pv 0) (pv 2) rfl))),?_⟩
 nofun
 refine ⟨p,C,dx,[],d,rfl,e,hc,n1,by decide,?_⟩
 nofun
 refine ⟨p,C,dx,_,rfl,ze,hc,n2,ycx (ycu 1) (by decide),?_⟩
 rw[zam]
 exact h
theorem ziB:zj qaa qaa (zh zaL):=by walk_at "sp"
theorem zfE (kd:Ek) (hk:kd=.rate\/kd=.late) (S:zr K (cA K kd.cls) "row" "RateEntry.row" zaL qaa) (T:Txt K mg) (zG:∀ k:Ek,zB P w K mg base 1 (cA K k.cls) "word" qaa (zab k K)):zB P w K mg base 2 (cA K kd.cls) "row" qaa (zdg kd K):=by
 exists S.ok,ziB,0
 all_goals obtain ⟨a,dx,d,x,rfl,e,h⟩:=h
 ·rfl
 refine ⟨_,(zg (zk (zN (za (zdU zG T.clE hr (pv 0)) (za (zdP (pv 0) rfl) (za (zdP (pv 0) rfl) zc)))))),?_⟩
 rcases hk with rfl | rfl
 ·nofun
  refine ⟨.rate,a,dx,_,rfl,e,zay .rate d x,a,rfl,?_⟩
  nofun
  refine ⟨a,_,dx,_,_,rfl,e,T.clE .rate,T.zS .rate,rfl,?_⟩
  nofun
  refine ⟨a,_,dx,_,_,rfl,e,T.clE .rate,T.zeF .rate,rfl,?_⟩
  nofun
  intro q nq
  exact h q nq
 ·nofun
  refine ⟨.late,a,dx,_,rfl,e,zay .late d x,a,rfl,?_⟩
  nofun
  refine ⟨a,_,dx,_,_,rfl,e,T.clE .late,T.zS .late,rfl,?_⟩
  nofun
  refine ⟨a,_,dx,_,_,rfl,e,T.clE .late,T.zeF .late,rfl,?_⟩
  nofun
  intro q nq
  exact h q nq
def zg4 (K:W.Frag):Sp:=fun vs H Q _=>L2.Ee5 fun p C dx d x=>L2.Aa6 (vs=[.ref p,.int d,.int x]) (H p=some (.ins C dx [])) (Cls K C) (zX K C "day") (zX K C "until") (Q .non (upd H p (.ins C dx [("day", .int d),("until", .int x)])))
theorem zlj:zj qaq qaq (zh zc0):=by walk_at "sp"
theorem zm3 (x:Str) (S:zr K (cA K x) "__init__" "Still.__init__" zc0 qaq) (T:Txt K mg) (zT:zj0 P w K mg base 1 (cA K "Entry") "__init__" qae (zaO K)):zB P w K mg base 2 (cA K x) "__init__" qaq (zg4 K):=by
 exists S.ok,zlj,0
 all_goals obtain ⟨p,C,dx,d,x,rfl,e,hc,n1,n2,h⟩:=h
 ·rfl
 refine ⟨_,(zf (zan (zmK zT (zb1 (v:=.ref (cA K "Entry")) rfl T.zgl rfl) hr (za (pv 0) (za (pv 1) zc))))
  (zg (zhJ (pv 0) (pv 2) rfl))),?_⟩
 nofun
 refine ⟨p,C,dx,[],d,rfl,e,hc,n1,by decide,?_⟩
 nofun
 refine ⟨p,C,dx,_,rfl,ze,hc,n2,ycx (ycu 1) (by decide),?_⟩
 rw[zam]
 exact h
theorem zlE:zj qaa qaa (zh zdy):=by walk_at "sp"
theorem znB (kd:Ek) (hk:kd=.still) (S:zr K (cA K kd.cls) "row" "Still.row" zdy qaa) (T:Txt K mg) (zG:∀ k:Ek,zB P w K mg base 1 (cA K k.cls) "word" qaa (zab k K)):zB P w K mg base 2 (cA K kd.cls) "row" qaa (zdg kd K):=by
 subst hk
 exists S.ok,zlE,0
 all_goals obtain ⟨a,dx,d,x,rfl,e,h⟩:=h
 ·rfl
 refine ⟨_,(zg (zk (zN (za (zdU zG T.clE hr (pv 0)) (za (zdP (pv 0) rfl) (za (zdP (pv 0) rfl) zc)))))),?_⟩
 ·nofun
  refine ⟨.still,a,dx,_,rfl,e,zay .still d x,a,rfl,?_⟩
  nofun
  refine ⟨a,_,dx,_,_,rfl,e,T.clE .still,T.zS .still,rfl,?_⟩
  nofun
  refine ⟨a,_,dx,_,_,rfl,e,T.clE .still,T.zfC .still,rfl,?_⟩
  nofun
  intro q nq
  exact h q nq
def zhI (K:W.Frag):Sp:=fun vs H Q _=>L2.Ee4 fun x (T:String) a b=>L2.Aa3 (vs=[x,.int a,.int b]) (zjc K H x T) (Q (.bl (zgQ x a b)) H)
theorem zmT:zj qar qar (zh zdM):=by walk_at "sp"
theorem znw (S:Src K mg "is_within" zdM qar) (T:Txt K mg) (zgR:Def P w K mg base 1 "is_whole" ["thing"] (zim K)):Def P w K mg base 2 "is_within" qar (zhI K):=by
 exists S.ok,zmT,0
 all_goals obtain ⟨x,Tk,a,b,rfl,hk,h⟩:=h
 ·rfl
 refine ⟨_,(zg (zk (zm2 (zy zgR hr (za (pv 0) zc)) (zl6 (zqC zi2 zi2 (pv 1) (pv 0) (pv 2)))))),?_⟩
 nofun
 refine ⟨_,_,rfl,hk,?_⟩
 nofun
 ·rename_i z
  subst z
  obtain ⟨i,rfl⟩:=ty_int hk.1
  nofun
  ·exact qb h (by simp[zgQ, *])
  ·exact qb h (by simp[zgQ, *])
 ·rename_i z
  refine qb h ?_
  cases x with
  | int i=>exact absurd (zsY hk.1) z
  | _=>rfl
def zhm (K:W.Frag):Sp:=fun vs H Q _=>L2.Ee4 fun p xs (es:List Er) w=>L2.Aa6 (vs=[.ref p,.str w]) (SqL K H p xs) (EL K H xs es) ((es.length<=500/\∃ td:List Int,td.length<=61/\∀ e∈es,e.2.1∈td)) (AmW w) (∀ q H' ws r,H q=none->Same H H'->H' q=some (.lst ws)->zu K H' ws r->Sby.Tab r (prs w es)->Q (.ref q) H')
theorem zp0:zj qac qac (zh zgN):=by walk_at "sp"
theorem zqK (S:Src K mg "sum_by" zgN qac) (T:Txt K mg) (zdq:Def P w K mg base 1 "summed" qaf (zhT K)) (zG:∀ k:Ek,zB P w K mg base 1 (cA K k.cls) "word" qaa (zab k K)):Def P w K mg base 2 "sum_by" qac (zhm K):=by
 exists S.ok,zp0,0
 all_goals obtain ⟨p,xs,es,ww,rfl,ep,hE,⟨hl,td,tdl,tdm⟩,hw,h⟩:=h
 ·rfl
 refine ⟨_,(zg (zk (zy zdq hr (za (zcC (ix:=[1]) ⟨rfl,by decide +kernel,rfl,by decide +kernel,rfl,(show (["entry", "word"]:List Str).Nodup by decide +kernel),by walk_at "cap", by walk_at "sub", by walk_at "has"⟩ (zM (pv 0)) (fun b=>(zw zah (zc7 K zG T.clE hr (pv 0)) (pv 1) (nomark _))) (fun b=>(zN (za (zch K (pv 0) rfl) (za (zch K (pv 0) rfl) zc))))) zc)))),?_⟩
 have sz:=sizeLine_eq
 nofun
 have xl:=hE.length
 refine ⟨⟨_,ep⟩,fun l nl=>?_⟩
 refine zdm (zQ ep) nl (by ac_rfl) es xl.symm (isW ww) (fun H' v e=>∃ t,v=.ref t/\H' t=some (.tup [.int e.2.1,.int e.2.2])) (fun v e H1 H2 s ⟨t,e1,e2⟩=>⟨t,e1,s _ _ e2⟩) (fun v e H1 ys zs hL ⟨t,e1,e2⟩=>⟨t,e1,by rw[zi (zaj e2 hL (by intro z;cases z))];exact e2⟩) ?_ ?_ ?_
 ·rintro i x e H' Q' hx he sH hq
  obtain ⟨e',he',a,dx,rfl,hi⟩:=(hE.same sH).get hx
  obtain rfl:e'=e:=Option.some.inj (he'.symm.trans he)
  nofun
  refine ⟨e'.1,a,dx,_,rfl,hi,zay _ _ _,a,rfl,?_⟩
  nofun
  exact hq
 ·rintro i x e H' Q' hx he fe sH hq
  obtain ⟨e',he',a,dx,rfl,hi⟩:=(hE.same sH).get hx
  obtain rfl:e'=e:=Option.some.inj (he'.symm.trans he)
  nofun
  refine ⟨a,_,dx,_,_,rfl,hi,T.clE _,T.zS _,zff _ _ _,?_⟩
  nofun
  refine ⟨a,_,dx,_,_,rfl,hi,T.clE _,T.zaC _,(amt hw fe).1,?_⟩
  nofun
  intro t nt
  exact hq _ _ (zb nt _) ⟨t,rfl,ze⟩
 ·rintro ys H' sH eL hL
  have hR:zu K H' ys (prs ww es):=zko hL
  nofun
  refine ⟨l,ys,prs ww es,rfl,eL,hR,?_,⟨td,tdl,fun k hk=>?_⟩,fun q H2 ws r nq s2 eq hr' tb=>?_⟩
  ·unfold prs
   rw[yab]
   exact ycz (yat _ _) hl
  ·obtain ⟨s,hs,rfl⟩:=yao.mp hk
   obtain ⟨e,he,rfl⟩:=yao.mp hs
   exact tdm e (yap.mp he).1
  ·exact h q H2 ws r (zt sH nq) (sH.trans s2) eq hr' tb
def zjy (K:W.Frag):Sp:=fun vs H Q _=>L2.Ee4 fun p xs (es:List Er) w=>L2.Aa6 (vs=[.ref p,.str w]) (SqL K H p xs) (EL K H xs es) (es.length<=500) ((∃ td:List Int,td.length<=61/\∀ d∈dys w es,d∈td)) (∀ q H' (ns:List Int),H q=none->Same H H'->H' q=some (.lst (ns.map V.int))->Days ns (dys w es)->Q (.ref q) H')
theorem zoL:zj qac qac (zh zfu):=by walk_at "sp"
theorem zpI (S:Src K mg "days_of" zfu qac) (T:Txt K mg) (zG:∀ k:Ek,zB P w K mg base 1 (cA K k.cls) "word" qaa (zab k K)):Def P w K mg base 2 "days_of" qac (zjy K):=by
 exists S.ok,zoL,0
 all_goals obtain ⟨p,xs,es,ww,rfl,ep,hE,hl,⟨td,tl,tm⟩,h⟩:=h
 ·rfl
 refine ⟨_,(zg (zk (zI (zdc rfl) rfl T.zaN PyProof.Rows.boot_sorted (za (zae (zfA rfl) rfl T.zh8 PyProof.Rows.boot_set (za (zcC (ix:=[1]) ⟨rfl,by decide +kernel,rfl,by decide +kernel,rfl,(show (["entry", "word"]:List Str).Nodup by decide +kernel),by walk_at "cap", by walk_at "sub", by walk_at "has"⟩ (zM (pv 0)) (fun b=>(zw zah (zc7 K zG T.clE hr (pv 0)) (pv 1) (nomark _))) (fun b=>(zch K (pv 0) rfl))) zc)) zc)))),?_⟩
 have sz:=sizeLine_eq
 have xl:=hE.length
 nofun
 refine ⟨⟨_,ep⟩,fun l nl=>?_⟩
 refine zdm (zQ ep) nl (by ac_rfl) es xl.symm (isW ww) (fun _ v e=>v=.int e.2.1) (fun v e H1 H2 s q=>q) (fun v e H1 ys zs hL q=>q) ?_ ?_ ?_
 ·rintro i x e H' Q' hx he sH hq
  obtain ⟨e',he',a,dx,rfl,hi⟩:=(hE.same sH).get hx
  obtain rfl:e'=e:=Option.some.inj (he'.symm.trans he)
  nofun
  refine ⟨e'.1,a,dx,_,rfl,hi,zay _ _ _,a,rfl,?_⟩
  nofun
  exact hq
 ·rintro i x e H' Q' hx he fe sH hq
  obtain ⟨e',he',a,dx,rfl,hi⟩:=(hE.same sH).get hx
  obtain rfl:e'=e:=Option.some.inj (he'.symm.trans he)
  nofun
  refine ⟨a,_,dx,_,_,rfl,hi,T.clE _,T.zS _,zff _ _ _,?_⟩
  exact hq _ _ (Same.refl _) rfl
 ·rintro ys H' sH eL hL
  have ey:ys=(dys ww es).map V.int:=by
   have:=hL.eqm (g:=fun e:Er=>V.int e.2.1)
   rw[this]
   unfold dys
   rw[ybg]
   rfl
  subst ey
  nofun
  refine ⟨l,dys ww es,rfl,SqL.of eL,ycx zrR (by ac_rfl),fun p1 H1 ms np1 s1 e1 nd mm ml=>?_⟩
  nofun
  refine ⟨p1,ms,rfl,e1,?_,fun q H2 ns nq s2 eq pm up=>?_⟩
  ·exact ycx (za6 nd fun d hd=>tm d ((mm d).mp hd)) (by ac_rfl)
  ·exact h q H2 ns (zt (sH.trans s1) nq) (sH.trans (s1.trans s2)) eq (Days.of nd mm pm up)
def zlB (K:W.Frag):Sp:=fun vs H Q _=>L2.Ee4 fun a xs l d=>L2.Aa5 (vs=[.ref a,.int d]) (SqL K H a xs) (zu K H xs l) (Spans.Joined l) (∀ m,Stills.Free l d m->Q (.int m) H)
theorem zmV:zj ["spans", "day", "many"] qaz (zh zh4):=by walk_at "sp"
theorem zrN (S:Src K mg "moved" zh4 qaz) (T:Txt K mg) (zj5:Def P w K mg base 1 "begun" qaw (zlY K)):Def P w K mg base 2 "moved" qaz (zlB K):=by
 exists S.ok,zmV,0
 all_goals obtain ⟨a,xs,l,d,rfl,hS,hR,J,h⟩:=h
 ·rfl
 refine ⟨_,(zf (zE (i:=2) zmV.nd rfl (by walk_at "lc") (zy zj5 hr (za (pv 0) (za (pv 1) zc))))
  (zf (zaa (zw zah (pv 2) zd (nomark _))
  (zg (zk (pv 1)))
   zL)
  (zg (zk (zI (zhu rfl) rfl T.zjB PyProof.Rows.boot_max (za (pv 1) (za (zx za0 (zx zA (pv 0) (zo zeH (pv 2) zd) (fun _ _=>rfl)) zd (fun _ _=>rfl)) zc))))))),?_⟩
 have xl:=hR.length
 nofun
 refine ⟨a,xs,l,d,rfl,hS,hR,Stills.zpD J,?_⟩
 intro n B
 nofun
 ·rename_i q
  have:n=0:=by ac_rfl
  subst this
  exact h _ (Stills.zor B)
 ·rename_i q
  obtain ⟨k,rfl⟩:∃ k,n=k+1:=⟨n-1,by ac_rfl⟩
  have kl:=B.le
  obtain ⟨p,s,ex,es,hp⟩:=hR.get (yaa (by ac_rfl:k<xs.length))
  have ek:((k+1:Nat):Int)-1=(k:Int):=by ac_rfl
  have at_:atI xs (((k+1:Nat):Int)-1)=some (.ref p):=by
   rw[ek]
   exact zbL (by rw[yaa (by ac_rfl:k<xs.length),ex])
  refine ⟨a,_,_,_,rfl,rfl,hS,at_,?_⟩
  nofun
  exact h _ (Stills.zos J B es)
def zg3 (K:W.Frag):Sp:=fun vs H Q _=>L2.Ee4 fun p xs (es:List Er) w=>L2.Aa7 (vs=[.ref p,.str w]) (SqL K H p xs) (EL K H xs es) ((es.length<=500/\(prs w es).length<=61)) (RtW w) ((∀ e∈es,0<=e.2.1)) (∀ q H' ws (r:List (Int × Int)),H q=none->Same H H'->H' q=some (.lst ws)->zu K H' ws r->Stills.TabOf (prs w es) r->r=(r.map (·.1)).map (fun d=>(d,Sums.valOf (prs w es) d))->r.length<=61->Q (.ref q) H')
theorem zkS:zj qac qac (zh zcV):=by walk_at "sp"
theorem zmY (S:Src K mg "rate_table" zcV qac) (T:Txt K mg) (zgP:Def P w K mg base 1 "table_of" qaf (zix K)) (zG:∀ k:Ek,zB P w K mg base 1 (cA K k.cls) "word" qaa (zab k K)):Def P w K mg base 2 "rate_table" qac (zg3 K):=by
 exists S.ok,zkS,0
 all_goals obtain ⟨p,xs,es,ww,rfl,ep,hE,⟨hl,pl⟩,hw,e0,h⟩:=h
 ·rfl
 refine ⟨_,(zg (zk (zy zgP hr (za (zcC (ix:=[1]) ⟨rfl,by decide +kernel,rfl,by decide +kernel,rfl,(show (["entry", "word"]:List Str).Nodup by decide +kernel),by walk_at "cap", by walk_at "sub", by walk_at "has"⟩ (zM (pv 0)) (fun b=>(zw zah (zc7 K zG T.clE hr (pv 0)) (pv 1) (nomark _))) (fun b=>(zN (za (zch K (pv 0) rfl) (za (zch K (pv 0) rfl) zc))))) zc)))),?_⟩
 have sz:=sizeLine_eq
 nofun
 have xl:=hE.length
 refine ⟨⟨_,ep⟩,fun l nl=>?_⟩
 refine zdm (zQ ep) nl (by ac_rfl) es xl.symm (isW ww) (fun H' v e=>∃ t,v=.ref t/\H' t=some (.tup [.int e.2.1,.int e.2.2])) (fun v e H1 H2 s ⟨t,e1,e2⟩=>⟨t,e1,s _ _ e2⟩) (fun v e H1 ys zs hL ⟨t,e1,e2⟩=>⟨t,e1,by rw[zi (zaj e2 hL (by intro z;cases z))];exact e2⟩) ?_ ?_ ?_
 ·rintro i x e H' Q' hx he sH hq
  obtain ⟨e',he',a,dx,rfl,hi⟩:=(hE.same sH).get hx
  obtain rfl:e'=e:=Option.some.inj (he'.symm.trans he)
  nofun
  refine ⟨e'.1,a,dx,_,rfl,hi,zay _ _ _,a,rfl,?_⟩
  nofun
  exact hq
 ·rintro i x e H' Q' hx he fe sH hq
  obtain ⟨e',he',a,dx,rfl,hi⟩:=(hE.same sH).get hx
  obtain rfl:e'=e:=Option.some.inj (he'.symm.trans he)
  nofun
  refine ⟨a,_,dx,_,_,rfl,hi,T.clE _,T.zS _,zff _ _ _,?_⟩
  nofun
  refine ⟨a,_,dx,_,_,rfl,hi,T.clE _,T.zeF _,rtl hw fe,?_⟩
  nofun
  intro t nt
  exact hq _ _ (zb nt _) ⟨t,rfl,ze⟩
 ·rintro ys H' sH eL hL
  have hR:zu K H' ys (prs ww es):=zko hL
  nofun
  refine ⟨l,ys,prs ww es,rfl,eL,hR,by ac_rfl,?_,fun q H2 ws r nq s2 eq hr' tb er rl=>?_⟩
  ·intro s hs
   obtain ⟨e,he,rfl⟩:=yao.mp hs
   exact e0 e (yap.mp he).1
  ·exact h q H2 ws r (zt sH nq) (sH.trans s2) eq hr' tb er (by ac_rfl)
def zgD (K:W.Frag):Sp:=fun vs H Q _=>∃ (p:Addr) (xs:List V) (es:List Er),vs=[.ref p]/\SqL K H p xs/\EL K H xs es/\(es.length<=500/\(prs "still" es).length<=61) /\
 ∀ q H' ws (r:List (Int × Int)),H q=none->Same H H'->H' q=some (.lst ws)->zu K H' ws r->Spans.Joined r->(∀ d,Spans.Cov r d↔Spans.Cov (prs "still" es) d)->r.length<=61->Q (.ref q) H'
theorem zgu:zj ["entries", "stills"] qba (zh zcv):=by walk_at "sp"
theorem zkQ (S:Src K mg "still_spans" zcv qba) (T:Txt K mg) (zG:∀ k:Ek,zB P w K mg base 1 (cA K k.cls) "word" qaa (zab k K)) (ziR:Def P w K mg base 1 "joined" ["spans"] (zky K)):Def P w K mg base 2 "still_spans" qba (zgD K):=by
 exists S.ok,zgu,0
 all_goals obtain ⟨p,xs,es,rfl,ep,hE,⟨hl,hl2⟩,h⟩:=h
 ·rfl
 refine ⟨_,(zf (zpw (i:=1) zgu.nd rfl rfl (ix:=[]) ⟨rfl,by decide +kernel,rfl,by decide +kernel,rfl,(show (["entry"]:List Str).Nodup by decide +kernel),by walk_at "cap", by walk_at "sub", by walk_at "has"⟩ (zM (pv 0)) (fun b=>(zw zah (zc7 K zG T.clE hr (pv 0)) zp (nomark _))) (fun b=>(pv 0)))
  (zg (zk (zy ziR hr (za (zcC (ix:=[]) ⟨rfl,by decide +kernel,rfl,by decide +kernel,rfl,(show (["entry"]:List Str).Nodup by decide +kernel),by walk_at "cap", by walk_at "sub", by walk_at "has"⟩ (zM (pv 1)) (fun b=>(zw zoJ (zch K (pv 0) rfl) (zch K (pv 0) rfl) (nomark _))) (fun b=>(zN (za (zch K (pv 0) rfl) (za (zch K (pv 0) rfl) zc))))) zc))))),?_⟩
 have sz:=sizeLine_eq
 nofun
 have xl:=hE.length
 refine ⟨⟨_,ep⟩,fun l nl=>?_⟩
 refine zdm (zQ ep) nl (by ac_rfl) es xl.symm (isW "still") (fun H' v e=>∃ a dx,v=.ref a/\zZ K H' a dx e.1 e.2.1 e.2.2) (fun v e H1 H2 s ⟨t,dx,e1,e2⟩=>⟨t,dx,e1,s _ _ e2⟩) (fun v e H1 ys zs hL ⟨t,dx,e1,e2⟩=>⟨t,dx,e1,by rw[zZ,zi (zaj e2 hL (by intro z;cases z))];exact e2⟩) ?_ ?_ ?_
 ·rintro i x e H' Q' hx he sH hq
  obtain ⟨e',he',a,dx,rfl,hi⟩:=(hE.same sH).get hx
  obtain rfl:e'=e:=Option.some.inj (he'.symm.trans he)
  nofun
  refine ⟨e'.1,a,dx,_,rfl,hi,zay _ _ _,a,rfl,?_⟩
  nofun
  exact hq
 ·rintro i x e H' Q' hx he fe sH hq
  obtain ⟨e',he',a,dx,rfl,hi⟩:=(hE.same sH).get hx
  obtain rfl:e'=e:=Option.some.inj (he'.symm.trans he)
  nofun
  exact hq _ _ (Same.refl _) ⟨a,dx,rfl,hi⟩
 ·rintro ys H1 s1 eL hL
  have hE1:EL K H1 ys (es.filter (isW "still")):=hL
  have yl:=hE1.length
  have fl:=yat (isW "still") es
  nofun
  refine ⟨⟨_,SqL.of eL⟩,fun l2 nl2=>?_⟩
  have isS:∀ {i:Nat} {e:Er},(es.filter (isW "still"))[i]?=some e->isW "still" e=true:=fun {i e} he=>(yap.mp (yah he)).2
  refine zdm (zQ (SqL.of eL)) nl2 (by ac_rfl) (es.filter (isW "still")) yl.symm (fun e:Er=>decide (e.2.1<e.2.2)) (fun H' v e=>∃ t,v=.ref t/\H' t=some (.tup [.int e.2.1,.int e.2.2])) (fun v e H1 H2 s ⟨t,e1,e2⟩=>⟨t,e1,s _ _ e2⟩) (fun v e H1 ys zs hL ⟨t,e1,e2⟩=>⟨t,e1,by rw[zi (zaj e2 hL (by intro z;cases z))];exact e2⟩) ?_ ?_ ?_
  ·rintro i x e H' Q' hx he sH hq
   obtain ⟨e',he',a,dx,rfl,hi⟩:=(hE1.same sH).get hx
   obtain rfl:e'=e:=Option.some.inj (he'.symm.trans he)
   nofun
   refine ⟨a,_,dx,_,_,rfl,hi,T.clE _,T.zS _,zff _ _ _,?_⟩
   nofun
   refine ⟨a,_,dx,_,_,rfl,hi,T.clE _,T.zfC _,stl (isS he),?_⟩
   nofun
   exact hq
  ·rintro i x e H' Q' hx he fe sH hq
   obtain ⟨e',he',a,dx,rfl,hi⟩:=(hE1.same sH).get hx
   obtain rfl:e'=e:=Option.some.inj (he'.symm.trans he)
   nofun
   refine ⟨a,_,dx,_,_,rfl,hi,T.clE _,T.zS _,zff _ _ _,?_⟩
   nofun
   refine ⟨a,_,dx,_,_,rfl,hi,T.clE _,T.zfC _,stl (isS he),?_⟩
   nofun
   intro t nt
   exact hq _ _ (zb nt _) ⟨t,rfl,ze⟩
  ·rintro zs H2 s2 eL2 hL2
   have hR:zu K H2 zs (((es.filter (isW "still")).filter fun e:Er=>decide (e.2.1<e.2.2)).map (·.2)):=zko hL2
   have em:((es.filter (isW "still")).filter fun e:Er=>decide (e.2.1<e.2.2)).map (·.2)=(prs "still" es).filter fun s=>decide (s.1<s.2):=by
    unfold prs
    rw[List.filter_map]
    rfl
   rw[em] at hR
   have pl:=yat (fun s:Int × Int=>decide (s.1<s.2)) (prs "still" es)
   have pl2:=zbK (w:="still") (es:=es)
   nofun
   refine ⟨l2,zs,_,rfl,SqL.of eL2,hR,by ac_rfl,fun s hs=>?_,fun q ws r H3 s3 nq eq rR J cv rl=>?_⟩
   ·simpa using (yap.mp hs).2
   ·exact h q H3 ws r (zt (s1.trans s2) nq) (s1.trans (s2.trans s3)) eq rR J (fun d=>(cv d).trans (zqj _ d)) (by ac_rfl)
def zgb (K:W.Frag):Sp:=fun vs H Q _=>∃ c b wd,vs=[.int c,.int b,.int wd]/\(0<=b/\b<=999800)/\(1<=wd/\wd<=200)/\∀ r k d x H',Same H H'->H r=none->H' r=some (.tup (zbN k d x))->k≠.base->(b<=d/\d<b+200)->zqe k d x->Q (.ref r) H'
theorem zcl:zj ["_law_cell", "_law_base_here", "_law_wide", "_law_xs", "_law_day", "_law_words", "_law_word"] qas (zh zem):=by walk_at "sp"
theorem zoc (S:Src K mg "_law_row" zem qas) (T:Txt K mg) (zbv:Def P w K mg base 1 "_law_draws" qap (zdY K)) (zeU:Def P w K mg base 1 "_law_value" qax (zhb K)):Def P w K mg base 2 "_law_row" qas (zgb K):=by
 exists S.ok,zcl,0
 all_goals obtain ⟨c,b,wd,rfl,⟨b0,b1⟩,⟨w0,w1⟩,h⟩:=h
 ·rfl
 refine ⟨_,(zf (zE (i:=3) zcl.nd rfl (by walk_at "lc") (zy zbv hr (za (pv 0) (za zd zc))))
  (zf (zE (i:=4) zcl.nd rfl (by walk_at "lc") (zo zaF (pv 1) (zo zK (zx zA (pv 3) zd (fun _ _=>rfl)) (zx zA (zW (za zd (za zd (za (pv 2) zc)))) (zo zK (zx zA (pv 3) zd (fun _ _=>rfl)) zd) (fun _ _=>rfl)))))
  (zf (zE (i:=5) zcl.nd rfl (by walk_at "lc") (zW (za zp (za zp (za zp (za zp (za zp (za zp (za zp (za zp (za zp (za zp (za zp (za zp (za zp zc)))))))))))))))
  (zf (zE (i:=6) zcl.nd rfl (by walk_at "lc") (zx zA (pv 5) (zo zK (zx zA (pv 3) zd (fun _ _=>rfl)) zd) (fun _ _=>rfl)))
  (zg (zk (zN (za (pv 6) (za (pv 4) (za (zy zeU hr (za (pv 6) (za (pv 4) (za (pv 3) zc)))) zc)))))))))),?_⟩
 have sz:=sizeLine_eq
 nofun
 intro p ns H1 s1 np ep nl nn
 have nl8:ns.length=8:=by ac_rfl
 obtain ⟨n0,n1,n2,n3,n4,n5,n6,n7,rfl⟩:=zoZ nl8
 have p0:=nn n0 (by simp)
 have p1:=nn n1 (by simp)
 have p2:=nn n2 (by simp)
 have hp:SqL K H1 p (List.map V.int [n0,n1,n2,n3,n4,n5,n6,n7]):=SqL.of ep
 nofun
 refine ⟨p,_,_,_,rfl,rfl,hp,rfl,?_⟩
 nofun
 intro l2 m2
 have s2:=zb m2 (.lst [.int 4,.int 30,.int wd])
 have hp2:=s2.seq hp
 have z2:SqL K (upd H1 l2 (.lst [.int 4,.int 30,.int wd])) l2 [.int 4,.int 30,.int wd]:=SqL.of ze
 generalize upd H1 l2 (.lst [.int 4,.int 30,.int wd])=H2 at s2 hp2 z2 ⊢
 have a0:=ydt n1 (show (3:Int)≠0 by decide)
 have a1:=yds n1 (show (0:Int)<3 by decide)
 nofun
 refine ⟨p,_,_,_,rfl,rfl,hp2,rfl,?_⟩
 nofun
 obtain ⟨m,am,hm⟩:=zl7 (a:=4) (b:=30) (c:=wd) a0 a1
 refine ⟨l2,_,_,_,rfl,rfl,z2,am,?_⟩
 have c0:=ydt n0 (show m≠0 by ac_rfl)
 have c1:=yds n0 (show 0<m by ac_rfl)
 nofun
 intro l3 m3
 have s3:=zb m3 (.lst [.str "out", .str "pay", .str "due", .str "rate", .str "fee", .str "pay", .str "out", .str "late", .str "turn", .str "due", .str "still", .str "pay", .str "rate"])
 have hp3:=s3.seq hp2
 have z3:SqL K (upd H2 l3 (.lst [.str "out", .str "pay", .str "due", .str "rate", .str "fee", .str "pay", .str "out", .str "late", .str "turn", .str "due", .str "still", .str "pay", .str "rate"])) l3 [.str "out", .str "pay", .str "due", .str "rate", .str "fee", .str "pay", .str "out", .str "late", .str "turn", .str "due", .str "still", .str "pay", .str "rate"]:=SqL.of ze
 generalize upd H2 l3 (.lst [.str "out", .str "pay", .str "due", .str "rate", .str "fee", .str "pay", .str "out", .str "late", .str "turn", .str "due", .str "still", .str "pay", .str "rate"])=H3 at s3 hp3 z3 ⊢
 have e0:=ydt n2 (show (13:Int)≠0 by decide)
 have e1:=yds n2 (show (0:Int)<13 by decide)
 nofun
 refine ⟨p,_,_,_,rfl,rfl,hp3,rfl,?_⟩
 nofun
 obtain ⟨v,hv,hw⟩:=zgn (xs:=[.str "out", .str "pay", .str "due", .str "rate", .str "fee", .str "pay", .str "out", .str "late", .str "turn", .str "due", .str "still", .str "pay", .str "rate"]) e0 (by simpa using e1)
 obtain ⟨k,rfl,hk⟩:=((zac ⟨.out,rfl,by intro z;cases z⟩ (zac ⟨.pay,rfl,by intro z;cases z⟩ (zac ⟨.due,rfl,by intro z;cases z⟩ (zac ⟨.rate,rfl,by intro z;cases z⟩ (zac ⟨.fee,rfl,by intro z;cases z⟩ (zac ⟨.pay,rfl,by intro z;cases z⟩ (zac ⟨.out,rfl,by intro z;cases z⟩ (zac ⟨.late,rfl,by intro z;cases z⟩ (zac ⟨.turn,rfl,by intro z;cases z⟩ (zac ⟨.due,rfl,by intro z;cases z⟩ (zac ⟨.still,rfl,by intro z;cases z⟩ (zac ⟨.pay,rfl,by intro z;cases z⟩ (zac ⟨.rate,rfl,by intro z;cases z⟩ ziO))))))))))))):∀ v∈([.str "out", .str "pay", .str "due", .str "rate", .str "fee", .str "pay", .str "out", .str "late", .str "turn", .str "due", .str "still", .str "pay", .str "rate"]:List V),∃ k:Ek,v=.str k.word/\k≠.base) v hw
 refine ⟨l3,_,_,_,rfl,rfl,z3,hv,?_⟩
 nofun
 refine ⟨k,_,p,_,rfl,hp3,nl8,nn,⟨by ac_rfl,by ac_rfl⟩,hk,fun x hx=>?_⟩
 nofun
 intro r nr
 exact h r k _ x _ (s1.trans (s2.trans (s3.trans (zb nr _)))) (zt (s1.trans (s2.trans s3)) nr) ze hk ⟨by ac_rfl,by ac_rfl⟩ hx
noncomputable def baseOf (ns:List Int):Int:=cellAt ns 1 % 999801
theorem zkG (ns:List Int):0<=baseOf ns/\baseOf ns<=999800:=by
 unfold baseOf
 omega
def zfe (K:W.Frag):Sp:=fun vs H Q _=>∃ (p:Addr) (ns:List Int),vs=[.ref p]/\SqL K H p (ns.map V.int)/\Q (.int (baseOf ns)) H
theorem zm5:zj qab qab (zh zdz):=by walk_at "sp"
theorem znp (S:Src K mg "_law_base" zdz qab) (T:Txt K mg) (zC:Def P w K mg base 1 "_law_cell_at" qah (zar K)):Def P w K mg base 2 "_law_base" qab (zfe K):=by
 exists S.ok,zm5,0
 all_goals obtain ⟨p,ns,rfl,hp,h⟩:=h
 ·rfl
 refine ⟨_,(zg (zk (zo zK (zy zC hr (za (pv 0) (za zd zc))) zd))),?_⟩
 nofun
 refine ⟨p,ns,1,rfl,hp,?_⟩
 nofun
 exact h
noncomputable def zbF (ns:List Int):Int:=(fun c:Int=>if c % 5=4 then c / 5 % 367 else if c % 5=3 then 30 else if c % 5=2 then 3 else 0) (cellAt ns 0 / 4)
theorem zgO (ns:List Int):0<=zbF ns/\zbF ns<=366:=by
 unfold zbF
 generalize cellAt ns 0 / 4=c
 dsimp only
 split
 ·omega
 ·split
  ·omega
  ·split <;> omega
def zd7 (K:W.Frag):Sp:=fun vs H Q _=>∃ (p:Addr) (ns:List Int),vs=[.ref p]/\SqL K H p (ns.map V.int)/\Q (.int (zbF ns)) H
theorem zg7:zj ["_law_script", "_law_cell"] qab (zh zcY):=by walk_at "sp"
theorem zme (S:Src K mg "_law_grace" zcY qab) (T:Txt K mg) (zC:Def P w K mg base 1 "_law_cell_at" qah (zar K)):Def P w K mg base 2 "_law_grace" qab (zd7 K):=by
 exists S.okF,zg7,0
 all_goals obtain ⟨p,ns,rfl,hp,h⟩:=h
 ·rfl
 refine ⟨_,(zf (zE (i:=1) zg7.nd rfl (by walk_at "lc") (zo zbs (zy zC hr (za (pv 0) (za zd zc))) zd))
  (zg (zk (zx zA (zW (za zd (za zd (za zd (za zd (za (zo zK (zo zbs (pv 1) zd) zd) zc)))))) (zo zK (pv 1) zd) (fun _ _=>rfl))))),?_⟩
 nofun
 refine ⟨p,ns,0,rfl,hp,?_⟩
 nofun
 intro q nq
 have c0:=ydt (cellAt ns 0 / 4) (show (5:Int)≠0 by decide)
 have c1:=yds (cellAt ns 0 / 4) (show (0:Int)<5 by decide)
 nofun
 have at_:atI [V.int 0,V.int 0,V.int 3,V.int 30,V.int (cellAt ns 0 / 4 / 5 % 367)] (cellAt ns 0 / 4 % 5)=some (.int (zbF ns)):=by
  unfold zbF
  generalize cellAt ns 0 / 4=c at c0 c1 ⊢
  dsimp only
  rcases (show c % 5=0\/c % 5=1\/c % 5=2\/c % 5=3\/c % 5=4 by ac_rfl) with e | e | e | e | e <;> rw[e] <;> rfl
 refine ⟨q,_,_,_,rfl,rfl,SqL.of ze,at_,?_⟩
 exact ⟨zb nq _,h⟩
noncomputable def kindOf (ns:List Int):Kd:=(fun c:Int=>if c=0 then .plain else if c=1 then .bank else if c=2 then .thirty else .exact) (cellAt ns 0 % 4)
def zhe (K:W.Frag):Sp:=fun vs H Q _=>∃ (p:Addr) (ns:List Int),vs=[.ref p]/\SqL K H p (ns.map V.int)/\∀ c H',H c=none->Same H H'->zbb K H' c (kindOf ns)->Q (.ref c) H'
theorem zkV:zj qab qab (zh zcI):=by walk_at "sp"
theorem zmX (S:Src K mg "_law_count" zcI qab) (T:Txt K mg) (zC:Def P w K mg base 1 "_law_cell_at" qah (zar K)):Def P w K mg base 2 "_law_count" qab (zhe K):=by
 exists S.ok,zkV,0
 all_goals obtain ⟨p,ns,rfl,hp,h⟩:=h
 ·rfl
 refine ⟨_,(zg (zk (zx zA (zW (za (zds (T.mk0 .plain) T.zhV) (za (zds (T.mk0 .bank) T.zgj) (za (zds (T.mk0 .thirty) T.ziV) (za (zds (T.mk0 .exact) T.zjV) zc))))) (zo zK (zy zC hr (za (pv 0) (za zd zc))) zd) (fun _ _=>rfl)))),?_⟩
 have c0:=ydt (cellAt ns 0) (show (4:Int)≠0 by decide)
 have c1:=yds (cellAt ns 0) (show (0:Int)<4 by decide)
 have new:∀ (kd:Kd) (H1:Hp) (x dx:Addr),H1 x=none->H1 dx=none->dx≠x->Same H1 (upd (upd H1 dx (.own x)) x (.ins (cA K kd.cls) dx []))/\zbb K (upd (upd H1 dx (.own x)) x (.ins (cA K kd.cls) dx [])) x kd:=fun kd H1 x dx nx nd ne =>
  ⟨(zb nd _).trans (zb (by rw[zi ne.symm];exact nx) _),dx,ze⟩
 nofun
 intro x1 d1 nx1 nd1 ne1
 obtain ⟨s1,i1⟩:=new .plain _ x1 d1 nx1 nd1 ne1
 generalize upd (upd H d1 (.own x1)) x1 (.ins (cA K Kd.plain.cls) d1 [])=H1 at s1 i1 ⊢
 nofun
 intro x2 d2 nx2 nd2 ne2
 obtain ⟨s2,i2⟩:=new .bank _ x2 d2 nx2 nd2 ne2
 generalize upd (upd H1 d2 (.own x2)) x2 (.ins (cA K Kd.bank.cls) d2 [])=H2 at s2 i2 ⊢
 nofun
 intro x3 d3 nx3 nd3 ne3
 obtain ⟨s3,i3⟩:=new .thirty _ x3 d3 nx3 nd3 ne3
 generalize upd (upd H2 d3 (.own x3)) x3 (.ins (cA K Kd.thirty.cls) d3 [])=H3 at s3 i3 ⊢
 nofun
 intro x4 d4 nx4 nd4 ne4
 obtain ⟨s4,i4⟩:=new .exact _ x4 d4 nx4 nd4 ne4
 generalize upd (upd H3 d4 (.own x4)) x4 (.ins (cA K Kd.exact.cls) d4 [])=H4 at s4 i4 ⊢
 nofun
 intro q nq
 have s5:=zb nq (.lst [.ref x1,.ref x2,.ref x3,.ref x4])
 have sA:=s1.trans (s2.trans (s3.trans (s4.trans s5)))
 nofun
 refine ⟨p,ns,0,rfl,sA.seq hp,?_⟩
 nofun
 have:∃ x,atI [V.ref x1,V.ref x2,V.ref x3,V.ref x4] (cellAt ns 0 % 4)=some (.ref x)/\zbb K H4 x (kindOf ns)/\H x=none:=by
  unfold kindOf
  dsimp only
  rcases (show cellAt ns 0 % 4=0\/cellAt ns 0 % 4=1\/cellAt ns 0 % 4=2\/cellAt ns 0 % 4=3 by ac_rfl) with e | e | e | e <;> rw[e]
  ·exact ⟨x1,rfl,i1.same (s2.trans (s3.trans s4)),nx1⟩
  ·exact ⟨x2,rfl,i2.same (s3.trans s4),zt s1 nx2⟩
  ·exact ⟨x3,rfl,i3.same s4,zt (s1.trans s2) nx3⟩
  ·exact ⟨x4,rfl,i4,zt (s1.trans (s2.trans s3)) nx4⟩
 obtain ⟨x,ax,ix,nx⟩:=this
 refine ⟨q,_,_,_,rfl,rfl,SqL.of ze,ax,?_⟩
 exact h x _ nx sA (ix.same s5)
def zhF (P:Program) (w:World) (K:W.Frag):Sp:=fun vs H Q _=>L2.Ee4 fun q rs (es:List Er) b=>L2.Aa7 (vs=[.ref q,.int b]) (H q=some (.lst rs)) (RL3 H rs es) (es.length<=100) ((∀ e∈es,isW "still" e=true->b<=e.2.1/\e.2.1<=e.2.2/\e.2.2<=b+249)) ((∀ e∈es,b<=e.2.1/\e.2.1<b+250)) (∀ d acc (ep:Nat) H',H d=none->Same H H'->H' d=some (zbf P w d acc ep)->Sby.Tot acc (mvp (mvd (prs "still" es)) (prs "due" es))->Q (.ref d) H')
theorem zfn:zj ["_law_rows_here", "_law_base_here", "_law_flags", "_law_falls_here"] qaj (zh zdw):=by walk_at "sp"
theorem zne (S:Src K mg "_law_dues" zdw qaj) (T:Txt K mg) (ze3:Def P w K mg base 1 "_law_still" qaj (zg8 K)) (zeR:Def P w K mg base 1 "_law_falls" qay (zg5 K)) (zbJ:Def P w K mg base 1 "_law_sums" qag (zeQ P w K)):Def P w K mg base 2 "_law_dues" qaj (zhF P w K):=by
 exists S.ok,zfn,0
 all_goals obtain ⟨q,rs,es,b,rfl,hq,hR,hl,o1,o2,h⟩:=h
 ·rfl
 refine ⟨_,(zf (zE (i:=2) zfn.nd rfl (by walk_at "lc") (zy ze3 hr (za (pv 0) (za (pv 1) zc))))
  (zf (zoD (i:=3) zfn.nd rfl rfl (ix:=[1,2]) ⟨rfl,by decide +kernel,rfl,by decide +kernel,rfl,rfl,rfl,  (show (["_law_word", "_law_day", "_law_value_here", "_law_base_here", "_law_flags"]:List Str).Nodup by decide +kernel),by walk_at "cap", by walk_at "sub", by walk_at "has"⟩ (zM (pv 0)) (fun b=>(zw zah (pv 0) zp (nomark _))) (fun b=>(zN (za (pv 0) (za (zy zeR hr (za (pv 4) (za (pv 3) (za (pv 1) zc)))) (za (pv 2) zc))))))
  (zg (zk (zy zbJ hr (za (pv 3) (za zp zc))))))),?_⟩
 have sz:=sizeLine_eq
 have xl:=hR.length
 nofun
 refine ⟨q,rs,es,b,rfl,SqL.of hq,hR,o1,by ac_rfl,fun p fl H1 np s1 eP F=>?_⟩
 nofun
 refine ⟨⟨_,SqL.of (s1 _ _ hq)⟩,fun l nl=>?_⟩
 refine zdR (zQ (SqL.of (s1 _ _ hq))) nl (by ac_rfl) es xl.symm (fun e=>(V.str e.1.word,V.int e.2.1,V.int e.2.2)) (fun i x e hx he=>?_) (isW "due") (fun H' v e=>∃ t,v=.ref t/\H' t=some (.tup (zbN e.1 (mvd (prs "still" es) e.2.1) e.2.2))) (fun v e H1 H2 s ⟨t,e1,e2⟩=>⟨t,e1,s _ _ e2⟩) (fun v e H1 ys zs hL ⟨t,e1,e2⟩=>⟨t,e1,by rw[zi (zaj e2 hL (by intro z;cases z))];exact e2⟩) ?_ ?_ ?_
 ·obtain ⟨e',he',t,rfl,ht⟩:=(hR.same s1).get hx
  obtain rfl:e'=e:=Option.some.inj (he'.symm.trans he)
  exact ⟨t,rfl,ht⟩
 ·rintro e H' Q' em sH hq'
  nofun
  exact hq' _ (Same.refl _)
 ·rintro e H' Q' em fe sH hq'
  nofun
  refine ⟨p,fl,b,e.2.1,prs "still" es,rfl,SqL.of (sH _ _ eP),F,o2 e em,?_⟩
  nofun
  intro t nt
  exact hq' _ _ (zb nt _) ⟨t,rfl,ze⟩
 ·rintro ys H' sH eL hL
  have hR':RL3 H' ys ((es.filter (isW "due")).map fun e=>(e.1,mvd (prs "still" es) e.2.1,e.2.2)):=by
   clear eL
   revert hL
   generalize es.filter (isW "due")=fs
   intro hL
   induction hL with
   | nil=>exact .nil
   | cons h _ ih=>exact .cons h ih
  nofun
  refine ⟨l,ys,_, "due", rfl,SqL.of eL,hR',by rw[yab];exact ycz (yat _ _) hl,fun d acc ep H2 nd2 s2 eD tt=>?_⟩
  rw[zpN] at tt
  exact h d acc ep H2 (zt (s1.trans sH) nd2) (s1.trans (sH.trans s2)) eD tt
structure Tbl (r l:List (Int × Int)):Prop where
 up:(r.map (·.1)).Pairwise (·<·)
 day:∀ d,d∈r.map (·.1)↔∃ s∈l,d=s.1
 val:∀ s∈r,s.2=Sums.valOf l s.1
theorem zs1 {r l:List (Int × Int)} (up:(r.map (·.1)).Pairwise (·<·)) (h0:∀ s∈l,0<=s.1) (p:r.Perm (zcy l)):Tbl r l:=by
 have I:=Dct.dct_is l.length l rfl h0
 refine ⟨up,fun d=>?_,fun s hs=>I.val s (p.mem_iff.mp hs)⟩
 rw[(p.map (·.1)).mem_iff,yao]
 exact ⟨fun ⟨s,a,b⟩=>(I.days d).mp ⟨s,a,b.symm⟩,fun q=>by obtain ⟨s,a,b⟩:=(I.days d).mpr q;exact ⟨s,a,b.symm⟩⟩
theorem zpT {l:List (Int × Int)} (h0:∀ s∈l,0<=s.1):(zcy l).length<=l.length:=by
 have I:=Dct.dct_is l.length l rfl h0
 have:=za6 I.keys (ys:=l.map (·.1)) fun d hd=>by
  obtain ⟨s,a,b⟩:=yao.mp hd
  obtain ⟨t,c,e⟩:=(I.days d).mp ⟨s,a,b.symm⟩
  exact yao.mpr ⟨t,c,e.symm⟩
 rw[yab,yab] at this
 exact this
def zha (P:Program) (w:World) (K:W.Frag):Sp:=fun vs H Q _=>L2.Ee4 fun q rs (es:List Er) ww=>L2.Aa6 (vs=[.ref q,.str ww]) (H q=some (.lst rs)) (RL3 H rs es) (es.length<=61) ((∀ e∈es,0<=e.2.1)) (∀ p ws r H',H p=none->Same H H'->H' p=some (.lst ws)->zu K H' ws r->Tbl r (prs ww es)->Q (.ref p) H')
theorem zld:zj qag qag (zh zcL):=by walk_at "sp"
theorem zmN (S:Src K mg "_law_table" zcL qag) (T:Txt K mg) (zaM:Def P w K mg base 1 "_law_rising" qan (zdk P w K)):Def P w K mg base 2 "_law_table" qag (zha P w K):=by
 exists S.ok,zld,0
 all_goals obtain ⟨q,rs,es,ww,rfl,hq,hR,hl,h0,h⟩:=h
 ·rfl
 refine ⟨_,(zg (zk (zy zaM hr (za (zae (znz rfl) rfl T.zi6 PyProof.Rows.boot_dict (za (zel (ix:=[1]) ⟨rfl,by decide +kernel,rfl,by decide +kernel,rfl,rfl,rfl,  (show (["_law_other", "_law_day", "_law_value_here", "_law_word"]:List Str).Nodup by decide +kernel),by walk_at "cap", by walk_at "sub", by walk_at "has"⟩ (zM (pv 0)) (fun b=>(zw zah (pv 0) (pv 3) (nomark _))) (fun b=>(zN (za (pv 1) (za (pv 2) zc))))) zc)) zc)))),?_⟩
 have sz:=sizeLine_eq
 have xl:=hR.length
 have p0:∀ s∈prs ww es,0<=s.1:=fun s hs=>by
  obtain ⟨e,he,rfl⟩:=yao.mp hs
  exact h0 e (yap.mp he).1
 have pl:=zbK (w:=ww) (es:=es)
 nofun
 refine ⟨⟨_,SqL.of hq⟩,fun l nl=>?_⟩
 refine zdR (zQ (SqL.of hq)) nl (by ac_rfl) es xl.symm (fun e=>(V.str e.1.word,V.int e.2.1,V.int e.2.2)) (fun i x e hx he=>?_) (isW ww) (fun H' v e=>∃ t,v=.ref t/\H' t=some (.tup [.int e.2.1,.int e.2.2])) (fun v e H1 H2 s ⟨t,e1,e2⟩=>⟨t,e1,s _ _ e2⟩) (fun v e H1 ys zs hL ⟨t,e1,e2⟩=>⟨t,e1,by rw[zi (zaj e2 hL (by intro z;cases z))];exact e2⟩) ?_ ?_ ?_
 ·obtain ⟨e',he',t,rfl,ht⟩:=hR.get hx
  obtain rfl:e'=e:=Option.some.inj (he'.symm.trans he)
  exact ⟨t,rfl,ht⟩
 ·rintro e H' Q' em sH hq'
  nofun
  exact hq' _ (Same.refl _)
 ·rintro e H' Q' em fe sH hq'
  nofun
  intro t nt
  exact hq' _ _ (zb nt _) ⟨t,rfl,ze⟩
 ·rintro ys H' sH eL hL
  have hR':zu K H' ys (prs ww es):=by
   unfold prs
   clear eL
   revert hL
   generalize es.filter (isW ww)=fs
   intro hL
   induction hL with
   | nil=>exact .nil
   | cons h _ ih =>
    obtain ⟨t,rfl,e⟩:=h
    exact .cons e ih
  nofun
  refine ⟨l,ys,prs ww es,rfl,eL,hR',by ac_rfl,fun d ep H2 n2 s2 e2=>?_⟩
  nofun
  refine ⟨d,_,ep,rfl,e2,by have:=zpT p0;ac_rfl,(Dct.dct_is _ _ rfl p0).keys,fun p ws r H3 n3 s3 e3 r3 up pr=>?_⟩
  have sA:=sH.trans (s2.trans s3)
  exact h p ws r H3 (zt (sH.trans s2) n3) sA e3 r3 (zs1 up p0 pr)
noncomputable def zh5 (b:BkT) (ns:List Int):List PyData:=[.list (b.outs.map zak),.list (b.fees.map zak),.list (b.pays.map zak),.list (b.turns.map PyData.int),.list (b.rates.map zak),.list (b.lates.map zak),.list (b.spans.map zak),.list (b.dues.map zak),.list (ns.map PyData.int)]
structure Nl (K:W.Frag) (H H':Hp) (q:Addr) (d:PyData):Prop where
 new:H q=none
 lst:∃ ys,H' q=some (.lst ys)/\ys.length<=1000
 rd:RdV K H' (.ref q) d
def zhq (K:W.Frag):Sp:=fun vs H Q _=>∃ (a:Addr) (A:BkA) (b:BkT),vs=[.ref a]/\zaU K H a A b/\b.turns.length<=1000/\b.outs.length+b.fees.length+b.pays.length+b.turns.length<650/\(∃ td:List Int,td.length<=61/\∀ d,DDay b d->d∈td) /\
 ∀ p (qs:List Addr) (ns:List Int) H',H p=none->Same H H'->H' p=some (.lst (qs.map V.ref))->ns.Pairwise (·<·)->(∀ d,d∈ns↔DDay b d)->LL (fun v d=>∃ q,v=.ref q/\Nl K H H' q d) (qs.map V.ref) (zh5 b ns)->(∀ q∈qs,q≠p)->Q (.ref p) H'
mutual
theorem zaf {K:W.Frag} {H H':Hp} (s:Same H H'):∀ {x:V} {d:PyData},RdV K H x d->RdV K H' x d
 | _,_,.non=>.non
 | _,_,.bl b=>.bl b
 | _,_,.int i=>.int i
 | _,_,.str x=>.str x
 | _,_,.lst h r=>.lst (Same.seq s h) (zhC s r)
 | _,_,.tup h r=>.tup (Same.ztP s h) (zhC s r)
theorem zhC {K:W.Frag} {H H':Hp} (s:Same H H'):∀ {xs:List V} {ds:List PyData},zbD K H xs ds->zbD K H' xs ds
 | _,_,.nil=>.nil
 | _,_,.cons a r=>.cons (zaf s a) (zhC s r)
end
theorem Nl.same {K:W.Frag} {G H H':Hp} {q:Addr} {d:PyData} (n:Nl K G H q d) (s:Same H H'):Nl K G H' q d :=
 ⟨n.new,let ⟨ys,e,l⟩:=n.lst;⟨ys,s _ _ e,l⟩,zaf s n.rd⟩
theorem zdr {K:W.Frag} {G H:Hp} {q:Addr} {xs:List V} {l:List (Int × Int)} (g:Same G H) (n:H q=none) (r:zu K H xs l) (z:l.length<=1000):Nl K G (upd H q (.lst xs)) q (.list (l.map zak)) :=
 have e:=zq (.lst xs) n
 ⟨zt g n,⟨xs,e,by rw[r.length];exact z⟩,.lst (SqL.of e) (r.same (zb n _)).rd⟩
theorem znZ {K:W.Frag} {G H':Hp} {q:Addr} {ns:List Int} (g:G q=none) (e:H' q=some (.lst (ns.map V.int))) (z:ns.length<=1000):Nl K G H' q (.list (ns.map PyData.int)) :=
 ⟨g,⟨_,e,by rw[yab];exact z⟩,.lst (SqL.of e) (.ints ns)⟩
theorem zhv:zj ["_law_book", "_law_found"] qbb (zh zdK):=by walk_at "sp"
theorem znx (S:Src K mg "_law_told" zdK qbb) (T:Txt K mg) (zeg:zB P w K mg base 1 (cA K "Book") "stills" qaa (zgo K)) (zeT:zB P w K mg base 1 (cA K "Book") "lates" qaa (zhg K)) (zeC:zB P w K mg base 1 (cA K "Book") "rates" qaa (zg6 K)) (zeY:zB P w K mg base 1 (cA K "Book") "turns" qaa (zg9 K)) (zfL:zB P w K mg base 1 (cA K "Book") "pays" qaa (zhK K)) (zfR:zB P w K mg base 1 (cA K "Book") "fees" qaa (zhz K)) (zfM:zB P w K mg base 1 (cA K "Book") "outs" qaa (zhr K)) (zaw:zB P w K mg base 1 (cA K "Book") "deed_days" qaa (zcj K)) (zfX:zB P w K mg base 1 (cA K "Book") "dues" qaa (zhj K)):Def P w K mg base 2 "_law_told" qbb (zhq K):=by
 exists S.ok,zhv,0
 all_goals obtain ⟨a,A,b,rfl,B,tz,dz,df,h⟩:=h
 ·rfl
 refine ⟨_,(zf (zE (i:=1) zhv.nd rfl (by walk_at "lc") (zW (za (zal zfM T.zv hr (pv 0)) (za (zal zfR T.zv hr (pv 0)) (za (zal zfL T.zv hr (pv 0)) (za (zal zeY T.zv hr (pv 0)) (za (zal zeC T.zv hr (pv 0)) (za (zal zeT T.zv hr (pv 0)) (za (zal zeg T.zv hr (pv 0)) zc)))))))))
  (zg (zk (zo zbT (pv 1) (zW (za (zal zfX T.zv hr (pv 0)) (za (zal zaw T.zv hr (pv 0)) zc))))))),?_⟩
 have sz:=sizeLine_eq
 nofun
 refine ⟨a,A.dx,_,rfl,B.ins,rfl,a,A,b,rfl,B,fun q1 x1 n1 r1 z1=>?_⟩
 have N1:=zdr (Same.refl H) n1 r1 z1
 have t1:=zb n1 (.lst x1)
 generalize upd H q1 (.lst x1)=H1 at N1 t1 ⊢
 have B1:=B.same t1
 have s1:=(Same.refl H).trans t1
 nofun
 refine ⟨a,A.dx,_,rfl,B1.ins,rfl,a,A,b,rfl,B1,fun q2 x2 n2 r2 z2=>?_⟩
 have N2:=zdr s1 n2 r2 z2
 have t2:=zb n2 (.lst x2)
 generalize upd H1 q2 (.lst x2)=H2 at N2 t2 ⊢
 replace N1:=N1.same t2
 have B2:=B1.same t2
 have s2:=s1.trans t2
 nofun
 refine ⟨a,A.dx,_,rfl,B2.ins,rfl,a,A,b,rfl,B2,fun q3 x3 n3 r3 z3=>?_⟩
 have N3:=zdr s2 n3 r3 z3
 have t3:=zb n3 (.lst x3)
 generalize upd H2 q3 (.lst x3)=H3 at N3 t3 ⊢
 replace N1:=N1.same t3
 replace N2:=N2.same t3
 have B3:=B2.same t3
 have s3:=s2.trans t3
 nofun
 refine ⟨a,A.dx,_,rfl,B3.ins,rfl,a,A,b,rfl,B3,fun q4 n4=>?_⟩
 have N4:=znZ (K:=K) (zt s3 n4) (zq (.lst (b.turns.map V.int)) n4) tz
 have t4:=zb n4 (.lst (b.turns.map V.int))
 generalize upd H3 q4 (.lst (b.turns.map V.int))=H4 at N4 t4 ⊢
 replace N1:=N1.same t4
 replace N2:=N2.same t4
 replace N3:=N3.same t4
 have B4:=B3.same t4
 have s4:=s3.trans t4
 nofun
 refine ⟨a,A.dx,_,rfl,B4.ins,rfl,a,A,b,rfl,B4,fun q5 x5 n5 r5 z5=>?_⟩
 have N5:=zdr s4 n5 r5 z5
 have t5:=zb n5 (.lst x5)
 generalize upd H4 q5 (.lst x5)=H5 at N5 t5 ⊢
 replace N1:=N1.same t5
 replace N2:=N2.same t5
 replace N3:=N3.same t5
 replace N4:=N4.same t5
 have B5:=B4.same t5
 have s5:=s4.trans t5
 nofun
 refine ⟨a,A.dx,_,rfl,B5.ins,rfl,a,A,b,rfl,B5,fun q6 x6 n6 r6 z6=>?_⟩
 have N6:=zdr s5 n6 r6 z6
 have t6:=zb n6 (.lst x6)
 generalize upd H5 q6 (.lst x6)=H6 at N6 t6 ⊢
 replace N1:=N1.same t6
 replace N2:=N2.same t6
 replace N3:=N3.same t6
 replace N4:=N4.same t6
 replace N5:=N5.same t6
 have B6:=B5.same t6
 have s6:=s5.trans t6
 nofun
 refine ⟨a,A.dx,_,rfl,B6.ins,rfl,a,A,b,rfl,B6,fun q7 x7 n7 r7 z7=>?_⟩
 have N7:=zdr s6 n7 r7 z7
 have t7:=zb n7 (.lst x7)
 generalize upd H6 q7 (.lst x7)=H7 at N7 t7 ⊢
 replace N1:=N1.same t7
 replace N2:=N2.same t7
 replace N3:=N3.same t7
 replace N4:=N4.same t7
 replace N5:=N5.same t7
 replace N6:=N6.same t7
 have B7:=B6.same t7
 have s7:=s6.trans t7
 nofun
 intro p1 m1
 have u1:=zb m1 (.lst [.ref q1,.ref q2,.ref q3,.ref q4,.ref q5,.ref q6,.ref q7])
 have e1:=zq (.lst [.ref q1,.ref q2,.ref q3,.ref q4,.ref q5,.ref q6,.ref q7]) m1
 have B8:=B7.same u1
 have s8:=s7.trans u1
 generalize upd H7 p1 (.lst [.ref q1,.ref q2,.ref q3,.ref q4,.ref q5,.ref q6,.ref q7])=H8 at u1 e1 B8 s8 ⊢
 nofun
 refine ⟨a,A.dx,_,rfl,B8.ins,rfl,a,A,b,rfl,B8,fun q8 x8 n8 r8 z8=>?_⟩
 have N8:=zdr s8 n8 r8 z8
 have t8:=zb n8 (.lst x8)
 generalize upd H8 q8 (.lst x8)=H9 at N8 t8 ⊢
 have B9:=B8.same t8
 have s9:=s8.trans t8
 have e2:=t8 _ _ e1
 nofun
 refine ⟨a,A.dx,_,rfl,B9.ins,rfl,a,A,b,rfl,B9,dz,df,fun q9 ns H10 n9 t9 e9 up mem nz=>?_⟩
 have N9:=znZ (K:=K) (zt s9 n9) e9 (by ac_rfl)
 have s10:=s9.trans t9
 have e3:=t9 _ _ e2
 replace N8:=N8.same t9
 have uA:=u1.trans (t8.trans t9)
 nofun
 intro p2 m2
 have u2:=zb m2 (.lst [.ref q8,.ref q9])
 have e4:=zq (.lst [.ref q8,.ref q9]) m2
 generalize upd H10 p2 (.lst [.ref q8,.ref q9])=H11 at u2 e4 ⊢
 refine ⟨p1,p2,_,_,rfl,rfl,u2 _ _ e3,e4,by simp;ac_rfl,fun p3 m3=>?_⟩
 have u3:=zb m3 (.lst ([V.ref q1,.ref q2,.ref q3,.ref q4,.ref q5,.ref q6,.ref q7]++[.ref q8,.ref q9]))
 have uB:=u2.trans u3
 have uC:=uA.trans uB
 exact h p3 [q1,q2,q3,q4,q5,q6,q7,q8,q9] ns _ (zt (s10.trans u2) m3) (s10.trans uB) (zq _ m3) up mem
  (.cons ⟨_,rfl,N1.same uC⟩ (.cons ⟨_,rfl,N2.same uC⟩ (.cons ⟨_,rfl,N3.same uC⟩ (.cons ⟨_,rfl,N4.same uC⟩ (.cons ⟨_,rfl,N5.same uC⟩ (.cons ⟨_,rfl,N6.same uC⟩ (.cons ⟨_,rfl,N7.same uC⟩ (.cons ⟨_,rfl,N8.same uB⟩ (.cons ⟨_,rfl,N9.same uB⟩ .nil)))))))))
  (fun q hq z=>by
   subst z
   have no:∀ {G:Hp} {q':Addr} {d:PyData},Nl K H G q' d->Same G H11->q'≠q:=fun n s z=>by
    obtain ⟨ys,e,_⟩:=n.lst
    rw[<-z,s _ _ e] at m3
    cases m3
   have uD:=uA.trans u2
   simp only[yak,ybe,or_false] at hq
   rcases hq with z | z | z | z | z | z | z | z | z
   ·exact no N1 uD z.symm
   ·exact no N2 uD z.symm
   ·exact no N3 uD z.symm
   ·exact no N4 uD z.symm
   ·exact no N5 uD z.symm
   ·exact no N6 uD z.symm
   ·exact no N7 uD z.symm
   ·exact no N8 u2 z.symm
   ·exact no N9 u2 z.symm)
def zi3 (K:W.Frag) (H:Hp) (x y:V):Prop:=(∃ t,zbc K H x (.type t)/\PySem.W.kitOne K (.type t) (.ref (cA K "Count"))=some false)\/∃ c kd T,x=.ref c/\zbb K H c kd/\zjc K H y T/\zgQ y 0 366=false
def zgx (K:W.Frag):Sp:=fun vs H Q E=>∃ x y,vs=[x,y]/\((∃ c kd g,x=.ref c/\y=.int g/\zbb K H c kd/\(0<=g/\g<=366)/\Q .non H)\/(zi3 K H x y/\∀ H',Same H H'->E (.ref (cA K "NoTerms")) none H'))
theorem zkb:zj qat qat (zh zcs):=by walk_at "sp"
theorem zkP (S:Src K mg "check_terms" zcs qat) (T:Txt K mg) (zfP:Def P w K mg base 2 "is_within" qar (zhI K)):zoS P w K mg base 3 "check_terms" qat (zgx K):=by
 exists S.okX,zkb,0
 all_goals obtain ⟨x,y,rfl,h⟩:=h
 ·rfl
 refine ⟨_,(zf (zaa (zgB (zfc (zI zpp rfl T.zat PyProof.Rows.boot_isinstance (za (pv 0) (za (zb1 (v:=.ref (cA K "Count")) rfl T.zhV rfl) zc)))))
  (zg (ziE (E:=E) T.zcG T.x_NoTerms (fun _ _ _ _ _ _ _ I hx hE=>zki I hx hE) (za zp zc)))
   zL)
  (zg (zaa (zgB (zfc (zy zfP hr (za (pv 1) (za zd (za (znQ T.zfa) zc))))))
  (zg (ziE (E:=E) T.zcG T.x_NoTerms (fun _ _ _ _ _ _ _ I hx hE=>zki I hx hE) (za zp zc)))
   zL))),?_⟩
 rcases h with ⟨c,kd,g,rfl,rfl,hc,⟨g0,g1⟩,h⟩ | ⟨hb,h⟩
 ·have ty:=tyC (T.cls kd) (T.ikK kd) hc
  nofun
  refine ⟨_,_,_,_,rfl,ty,T.kitK0 kd,?_⟩
  rw[show zqk kd .plain=true from rfl]
  nofun
  refine ⟨_, "int", _,_,rfl,⟨.int _,by simp[kinds]⟩,?_⟩
  rw[show zgQ (.int g) 0 366=true by simp[zgQ,g0,g1]]
  nofun
  exact h
 ·rcases hb with ⟨t,ht,hk⟩ | ⟨c,kd,Tk,rfl,hc,hk,wb⟩
  ·nofun
   refine ⟨_,_,_,_,rfl,ht,hk,?_⟩
   nofun
   exact h H (Same.refl _)
  ·have ty:=tyC (T.cls kd) (T.ikK kd) hc
   nofun
   refine ⟨_,_,_,_,rfl,ty,T.kitK0 kd,?_⟩
   rw[show zqk kd .plain=true from rfl]
   nofun
   refine ⟨_,_,_,_,rfl,hk,?_⟩
   rw[wb]
   nofun
   exact h H (Same.refl _)
def zgp (K:W.Frag):Sp:=fun vs H Q _=>L2.Ee6 fun p sp xs ys (es:List Er) l=>L2.Aa6 (vs=[.ref p,.ref sp]) (SqL K H p xs) (EL K H xs es) ((es.length<=500/\∃ td:List Int,td.length<=61/\∀ e∈es,e.2.1∈td)) ((SqL K H sp ys/\zu K H ys l/\Spans.Joined l)) (∀ q H' ws r,H q=none->Same H H'->H' q=some (.lst ws)->zu K H' ws r->Sby.Tab r (mvp (mvd l) (prs "due" es))->Q (.ref q) H')
theorem zkc:zj qau qau (zh zcq):=by walk_at "sp"
theorem zlg (S:Src K mg "fallen_dues" zcq qau) (T:Txt K mg) (zdq:Def P w K mg base 1 "summed" qaf (zhT K)) (zbU:Def P w K mg base 2 "sum_by" qac (zhm K)) (zj7:Def P w K mg base 2 "moved" qaz (zlB K)):Def P w K mg base 3 "fallen_dues" qau (zgp K):=by
 exists S.ok,zkc,0
 all_goals obtain ⟨p,sp,xs,ys,es,l,rfl,ep,hE,hf,⟨eS,rS,J⟩,h⟩:=h
 ·rfl
 refine ⟨_,(zg (zk (zy zdq hr (za (zgv (ix:=[1]) ⟨rfl,by decide +kernel,rfl,by decide +kernel,rfl,(show (["row", "spans"]:List Str).Nodup by decide +kernel),by walk_at "cap", by walk_at "sub", by walk_at "has"⟩ (zM (zy zbU hr (za (pv 0) (za zp zc)))) (fun b=>(zN (za (zy zj7 hr (za (pv 1) (za (zx (zgz K) (pv 0) zd (fun _ _=>rfl)) zc))) (za (zx (zgz K) (pv 0) zd (fun _ _=>rfl)) zc))))) zc)))),?_⟩
 have sz:=sizeLine_eq
 nofun
 refine ⟨p,xs,es, "due", rfl,ep,hE,hf,.inr (.inr (.inr rfl)),fun q1 H1 ws1 r1 nq1 s1 e1 R1 T1=>?_⟩
 have eS1:=s1.seq eS
 have rS1:=rS.same s1
 have l1:=R1.length
 have pl:=zbK (w:="due") (es:=es)
 obtain ⟨hl,td,tdl,tdm⟩:=hf
 have rl:r1.length<=td.length:=by
  have:=za6 (ys:=td) (Sby.zjw T1.up) fun k hk=>by
   obtain ⟨s,hs,rfl⟩:=yao.mp ((T1.mem k).mp hk)
   obtain ⟨e,he,rfl⟩:=yao.mp hs
   exact tdm e (yap.mp he).1
  rw[yab] at this
  exact this
 refine ⟨q1,rfl,⟨_,SqL.of e1⟩,fun lt nlt=>?_⟩
 refine comp_map (zQ (SqL.of e1)) nlt (by ac_rfl) r1 l1.symm (fun H' v s=>∃ t,v=.ref t/\H' t=some (.tup [.int (mvd l s.1),.int s.2])) (fun v e H1 H2 s ⟨t,e1,e2⟩=>⟨t,e1,s _ _ e2⟩) (fun v e H1 ys zs hL ⟨t,e1,e2⟩=>⟨t,e1,by rw[zi (zaj e2 hL (by intro z;cases z))];exact e2⟩) ?_ ?_
 ·rintro i x s H' Q' hx hs sH hq
  obtain ⟨u,s',rfl,hs',hu⟩:=(R1.same sH).get hx
  obtain rfl:s'=s:=Option.some.inj (hs'.symm.trans hs)
  nofun
  refine ⟨sp,ys,l,s'.1,rfl,sH.seq eS1,rS1.same sH,J,fun m F=>?_⟩
  obtain rfl:=zmc F
  nofun
  intro t nt
  exact hq _ _ (zb nt _) ⟨t,rfl,ze⟩
 ·rintro zs H2 s2 eL hL
  have ml:(mvp (mvd l) r1).length=r1.length:=yab ..
  nofun
  refine ⟨lt,zs,mvp (mvd l) r1,rfl,eL,zqp hL,by ac_rfl,⟨(mvp (mvd l) r1).map (·.1),by rw[yab];ac_rfl,fun k hk=>hk⟩,fun q H3 ws r nq s3 eq hr' tb=>?_⟩
  exact h q H3 ws r (zt (s1.trans s2) nq) (s1.trans (s2.trans s3)) eq hr' (zrF _ T1 tb)
def OkE (b:Int) (e:Er):Prop:=e.1≠.base/\(b<=e.2.1/\e.2.1<b+200)/\zqe e.1 e.2.1 e.2.2
theorem zsZ {ns:List Int} (h:ns.length=3):∃ a b c,ns=[a,b,c]:=by
 match ns,h with
 | [a,b,c],_=>exact ⟨a,b,c,rfl⟩
def zhO (K:W.Frag):Sp:=fun vs H Q _=>L2.Ee5 fun p (ns:List Int) (lo hi:Nat) wd=>L2.Aa5 (vs=[.ref p,.int lo,.int hi,.int wd]) (SqL K H p (ns.map V.int)) (hi<=lo+60) ((1<=wd/\wd<=200)) (∀ q rs (es:List Er) H',H q=none->Same H H'->H' q=some (.lst rs)->RL3 H' rs es->es.length<=1+(hi-lo)->(∀ e∈es,OkE (baseOf ns) e)->Q (.ref q) H')
theorem zbX:zj ["_law_script", "_law_first", "_law_last", "_law_wide", "_law_base_here", "_law_xs", "_law_rows_here", "_law_cell"] qbc (zh zdG):=by walk_at "sp"
theorem znj (S:Src K mg "_law_rows" zdG qbc) (T:Txt K mg) (zbk:Def P w K mg base 2 "_law_base" qab (zfe K)) (zbv:Def P w K mg base 1 "_law_draws" qap (zdY K)) (zC:Def P w K mg base 1 "_law_cell_at" qah (zar K)) (zbZ:Def P w K mg base 2 "_law_row" qas (zgb K)):Def P w K mg base 3 "_law_rows" qbc (zhO K):=by
 exists S.ok,zbX,0
 all_goals obtain ⟨p,ns,lo,hi,wd,rfl,hp,l2,⟨w0,w1⟩,h⟩:=h
 ·rfl
 refine ⟨_,(zf (zE (i:=4) zbX.nd rfl (by walk_at "lc") (zy zbk hr (za (pv 0) zc)))
  (zf (zE (i:=5) zbX.nd rfl (by walk_at "lc") (zy zbv hr (za (zy zC hr (za (pv 0) (za zd zc))) (za zd zc))))
  (zf (zE (i:=6) zbX.nd rfl (by walk_at "lc") (zW (za (zN (za zp (za (zo zaF (pv 4) (zo zhx (zo zK (zx zA (pv 5) zd (fun _ _=>rfl)) zd) (zae zpR rfl T.zlq PyProof.Rows.boot_int (za (zhZ zah (zo zK (zx zA (pv 5) zd (fun _ _=>rfl)) zd) zd (nomark _)) zc)))) (za (zo zaF zd (zo zK (zx zA (pv 5) zd (fun _ _=>rfl)) (zcb (v:=10000000) (by decide +kernel) ⟨by decide,by decide,by decide⟩))) zc)))) zc)))
  (zf (zbW PassesOwn.never rfl (zM (zbj zcd (pv 0) (zbd (pv 1)) (zbd (pv 2)))) (zO (i:=7) zbX.nd rfl (by walk_at "lc"))
  (zg (zan (zer PySem.F.plainAttrs_list PySem.F.slot_list_append PySem.F.type_list_append zaD (pv 6) (za (zy zbZ hr (za (pv 7) (za (pv 4) (za (pv 3) zc)))) zc)))))
  (zf (zaa (zw zah (zo zK (zo zbs (zx zA (pv 5) zd (fun _ _=>rfl)) zd) zd) zd (nomark _))
  (zg (zk (zbj zcd (pv 6) (zbd zd) zcB)))
   zL)
  (zf (zaa (zw zah (zo zK (zo zbs (zx zA (pv 5) zd (fun _ _=>rfl)) zd) zd) zd (nomark _))
  (zg (zk (zcC (ix:=[]) ⟨rfl,by decide +kernel,rfl,by decide +kernel,rfl,(show (["_law_row_here"]:List Str).Nodup by decide +kernel),by walk_at "cap", by walk_at "sub", by walk_at "has"⟩ (zM (pv 6)) (fun b=>(zw (zi7 K) (zx (zgz K) (pv 0) zd (fun _ _=>rfl)) (zN (za zp (za zp (za zp (za zp zc))))) (by with_unfolding_all rfl))) (fun b=>(pv 0)))))
   zL)
  (zg (zk (pv 6))))))))),?_⟩
 have sz:=sizeLine_eq
 obtain ⟨b0,b1⟩:=zkG ns
 nofun
 refine ⟨p,ns,rfl,hp,?_⟩
 nofun
 refine ⟨p,ns,2,rfl,hp,?_⟩
 nofun
 intro px ms H1 s1 npx ep nl nn
 obtain ⟨n0,n1,n2,rfl⟩:=zsZ (ns:=ms) (by ac_rfl)
 have hx:SqL K H1 px (List.map V.int [n0,n1,n2]):=SqL.of ep
 have p0:=nn n0 (by simp)
 have p1:=nn n1 (by simp)
 have p2:=nn n2 (by simp)
 nofun
 refine ⟨px,_,_,_,rfl,rfl,hx,rfl,?_⟩
 nofun
 refine ⟨px,_,_,_,rfl,rfl,hx,rfl,?_⟩
 nofun
 intro i01 i0 i1
 have y0:=ydt n0 (show (40:Int)≠0 by decide)
 have y1:=yds n0 (show (0:Int)<40 by decide)
 nofun
 have y2:0<=n0 % 40*i01/\n0 % 40*i01<=39:=by
  rcases (show i01=0\/i01=1 by ac_rfl) with z | z <;> rw[z] <;> ac_rfl
 clear i0
 generalize n0 % 40*i01=dd at y2 ⊢
 refine ⟨px,_,_,_,rfl,rfl,hx,rfl,?_⟩
 have z0:=ydt n2 (show (10000000:Int)≠0 by decide)
 have z1:=yds n2 (show (0:Int)<10000000 by decide)
 nofun
 intro t nt
 have s2:=zb nt (.tup [.str "out", .int (baseOf ns+dd),.int (1+n2 % 10000000)])
 have et:=zq (.tup [.str "out", .int (baseOf ns+dd),.int (1+n2 % 10000000)]) nt
 have s12:=s1.trans s2
 generalize upd H1 t (.tup [.str "out", .int (baseOf ns+dd),.int (1+n2 % 10000000)])=H2 at s2 et s12 ⊢
 nofun
 intro q nq
 have s3:=zb nq (.lst [.ref t])
 have nqH:=zt s12 nq
 have eq:=zq (.lst [.ref t]) nq
 have et3:=s3 _ _ et
 have s13:=s12.trans s3
 generalize upd H2 q (.lst [.ref t])=H3 at s3 eq et3 s13 ⊢
 have hp3:=s13.seq hp
 nofun
 refine ⟨p,_,rfl,hp3,fun c nc=>?_⟩
 obtain ⟨ms,ml,ec⟩:=zlI ns lo hi
 rw[ec]
 have s4:=zb nc (.lst (ms.map V.int))
 have eC:=zq (.lst (ms.map V.int)) nc
 have eQ4:=s4 _ _ eq
 have et4:=s4 _ _ et3
 have s14:=s13.trans s4
 have s14':=s2.trans (s3.trans s4)
 have nq1:=zt s2 nq
 have ncq:c≠q:=(zU eq nc).symm
 generalize upd H3 c (.lst (ms.map V.int))=H4 at s4 eC eQ4 et4 s14 s14' ⊢
 nofun
 refine ⟨⟨_,SqL.of eC⟩,zbV (xs:=ms.map V.int) (fun i σ H'=>∃ (rs:List V) (es:List Er) (z:Option V),(Same H1 H'/\H' q=some (.lst rs)/\H' c=some (.lst (ms.map V.int))/\RL3 H' rs es)/\es.length=i+1/\(∀ e∈es,OkE (baseOf ns) e)/\σ=[some (.ref p),some (.int lo),some (.int hi),some (.int wd),some (.int (baseOf ns)),some (.ref px),some (.ref q),z])
  ⟨[.ref t],[(.out,baseOf ns+dd,1+n2 % 10000000)],_,⟨s14',eQ4,eC,.cons ⟨t,rfl,et4⟩ .nil⟩,rfl,fun e he=>?_,rfl⟩ ?_ ?_ ?_⟩
 ·obtain rfl:e=(.out,baseOf ns+dd,1+n2 % 10000000):=by simpa using he
  exact ⟨(by intro z;cases z),⟨by show baseOf ns<=baseOf ns+dd;ac_rfl,by show baseOf ns+dd<baseOf ns+200;ac_rfl⟩,⟨by show 1<=1+n2 % 10000000;ac_rfl,by show 1+n2 % 10000000<=1000000000000;ac_rfl⟩,fun z=>by cases z⟩
 ·rintro i σ H' _ ⟨rs,es,z,⟨_,_,e,_⟩,_⟩
  exact SqL.of e
 ·rintro i x σ H' hx' ⟨rs,es,z,⟨sH,eQ,eC',hR⟩,el,oe,rfl⟩
  rw[yam] at hx'
  obtain ⟨m,hm,rfl⟩:=Option.map_eq_some_iff.mp hx'
  have il:i<ms.length:=(yad.mp hm).1
  have rl:=hR.length
  nofun
  refine ⟨.inl ⟨rfl,_,SqL.of eQ⟩,?_⟩
  nofun
  intro r k d x H5 s5 nr er hk hd hv
  nofun
  have eQ5:=s5 _ _ eQ
  refine ⟨q,_,_,rfl,rfl,eQ5,by ac_rfl,?_⟩
  have er5:(upd H5 q (.lst (rs++[.ref r]))) r=some (.tup (zbN k d x)):=by
   rw[zi (zaj er eQ5 (by intro z;cases z))]
   exact er
  refine ⟨rs++[.ref r],es++[(k,d,x)],_,⟨zD (sH.trans s5) nq1,ze,by rw[zi ncq];exact s5 _ _ eC',((hR.same s5).put eQ5).push (e:=(k,d,x)) er5⟩,by rw[yaf,el];rfl,fun e he=>?_,rfl⟩
  rcases yal.mp he with he | he
  ·exact oe e he
  ·obtain rfl:e=(k,d,x):=by simpa using he
   exact ⟨hk,hd,hv⟩
 ·rintro σ H' ⟨rs,es,z,⟨sH,eQ,eC',hR⟩,el,oe,rfl⟩
  rw[yab] at el
  have rl:=hR.length
  nofun
  have sA:=s1.trans sH
  have hx':=sH.seq hx
  refine ⟨px,_,_,_,rfl,rfl,hx',rfl,?_⟩
  nofun
  ·refine ⟨q,_,rfl,SqL.of eQ,fun u nu=>?_⟩
   rw[show zbx rs (some (1:Int)) none=rs.drop 1 from zn6 rs 1]
   have s6:=zb nu (.lst (rs.drop 1))
   exact h u _ (es.drop 1) _ (zt sA nu) (sA.trans s6) ze ((LL.zq6 hR).imp fun v e ⟨t,e1,e2⟩=>⟨t,e1,s6 _ _ e2⟩) (by rw[ybu];ac_rfl) fun e he=>oe e (ycp he)
  ·refine ⟨px,_,_,_,rfl,rfl,hx',rfl,?_⟩
   nofun
   ·refine ⟨⟨_,SqL.of eQ⟩,fun l nl'=>?_⟩
    refine zpm (zQ (SqL.of eQ)) nl' (by ac_rfl) es rl.symm (fun e:Er=>inV (.str e.1.word) [.str "due", .str "rate", .str "late", .str "still"]) (fun H' v e=>∃ t,v=.ref t/\H' t=some (.tup (zbN e.1 e.2.1 e.2.2))) (fun v e H1 H2 s ⟨t,e1,e2⟩=>⟨t,e1,s _ _ e2⟩) (fun v e H1 ys zs hL ⟨t,e1,e2⟩=>⟨t,e1,by rw[zi (zaj e2 hL (by intro z;cases z))];exact e2⟩) ?_ ?_ ?_
    ·rintro i x e H5 Q' hx5 he s5 hq
     obtain ⟨e',he',t5,rfl,ht5⟩:=(hR.same s5).get hx5
     obtain rfl:e'=e:=Option.some.inj (he'.symm.trans he)
     nofun
     intro u nu
     nofun
     refine ⟨u,_,rfl,.inr (SqT.of ze),rfl,rfl,?_⟩
     exact ⟨_,rfl,hq _ (zb nu _)⟩
    ·rintro i x e H5 Q' hx5 he fe s5 hq
     obtain ⟨e',he',t5,rfl,ht5⟩:=(hR.same s5).get hx5
     obtain rfl:e'=e:=Option.some.inj (he'.symm.trans he)
     nofun
     exact hq _ _ (Same.refl _) ⟨t5,rfl,ht5⟩
    ·rintro ys H5 s5 eL hL
     refine h l ys _ H5 (zt sA nl') (sA.trans s5) eL hL (ycz (yat _ _) (by ac_rfl)) fun e he=>oe e (yap.mp he).1
   ·exact h q rs es H' nqH sA eQ hR (by ac_rfl) oe
theorem zpV {α:Type} {J:It} {ix:List Nat} {te:TE} {σ:St} {l:Addr} {xs:List V} {H:Hp} {R:Hp->Prop} (Y:zdS J H xs) (hl:H l=none) (hz:xs.length<=sizeLine) (es:List α) (len:es.length=xs.length)
  (P:Hp->V->α->Prop) (mono:∀ v e H1 H2,Same H1 H2->P H1 v e->P H2 v e) (put:∀ v e H1 ys zs,H1 l=some (.lst ys)->P H1 v e->P (upd H1 l (.lst zs)) v e)
  (he:∀ (i:Nat) x e H' zs Q',xs[i]?=some x->es[i]?=some e->Same H H'->H' l=some (.lst zs)->(∀ v H2,Same H' H2->P H2 v e->Q' v H2)->te (some x::capts σ ix) H' Q')
  (fin:∀ ys H',Same H H'->H' l=some (.lst ys)->LL (P H') ys es->R H') :
  ∃ W:Nat->Nat->List V->Hp->Prop,(∃ m,W 0 m [] (upd H l (.lst [])))/\Turns ix te σ J l R W:=by
 refine ⟨fun i m ys H'=>m=xs.length-i/\i<=xs.length/\LL (P H') ys (es.take i)/\Same H H'/\H' l=some (.lst ys),⟨xs.length,by simp,ycy _,.nil,zb hl _,ze⟩,?_⟩
 rintro i m ys H' ⟨rfl,hi,hp,sH,hL⟩
 have yl:=hp.length
 rw[ybc] at yl
 refine ⟨hL,?_⟩
 by_cases hlt:i<xs.length
 ·refine .inr ⟨Y.go i H' sH hlt,by omega,fun x H2 y=>?_⟩
  obtain ⟨rfl,e2⟩:=Y.yld i H' x H2 sH y
  have he2:es[i]?=some (es[i]'(by omega)):=yaa _
  refine he i x _ _ _ _ e2 he2 sH hL fun v H3 s3 hv=>⟨s3 _ _ hL,xs.length-(i+1),by omega,rfl,hlt,?_,zD (sH.trans s3) hl,ze⟩
  rw[ybf,he2]
  exact LL.push (LL.imp (fun w e h=>put w e _ _ _ (s3 _ _ hL) (mono w e _ _ s3 h)) hp) (put v _ _ _ _ (s3 _ _ hL) hv)
 ·exact .inl ⟨Y.stop i H' sH (by omega),fin ys H' sH hL (by rwa [yau (by omega)] at hp)⟩
def zkf (e:Er):Bool:=inV (.str e.1.word) [.str "out", .str "fee", .str "turn", .str "pay"]
theorem zmA (e:Er):zkf e=true↔(isW "out" e=true\/isW "fee" e=true\/isW "turn" e=true\/isW "pay" e=true):=by
 have q:zkf e=(isW "out" e || (isW "fee" e || (isW "turn" e || isW "pay" e))):=by
  obtain ⟨k,d,x⟩:=e
  cases k <;> rfl
 rw[q,Bool.or_eq_true,Bool.or_eq_true,Bool.or_eq_true]
structure zqY (es:List Er) (o f p:List (Int × Int)) (t:List Int) (r l s d:List (Int × Int)) (ns:List Int):Prop where
 o:Sby.Tab o (prs "out" es)
 f:Sby.Tab f (prs "fee" es)
 p:Sby.Tab p (prs "pay" es)
 t:Days t (dys "turn" es)
 r:Tbl r (prs "rate" es)
 l:Tbl l (prs "late" es)
 s:Spans.Joined s/\∀ x,Spans.Cov s x↔Spans.Cov (prs "still" es) x
 d:Sby.Tab d (mvp (mvd (prs "still" es)) (prs "due" es))
 up:ns.Pairwise (·<·)
 mem:∀ x,x∈ns↔∃ e∈es,(isW "out" e=true\/isW "fee" e=true\/isW "turn" e=true\/isW "pay" e=true)/\x=e.2.1
def zio (P:Program) (w:World) (K:W.Frag):Sp:=fun vs H Q _=>∃ (q:Addr) (rs:List V) (es:List Er),vs=[.ref q]/\H q=some (.lst rs)/\RL3 H rs es/\es.length<=61/\(∀ e∈es,0<=e.2.1)/\(∀ e∈es,∀ e'∈es,e.2.1<e'.2.1+200)/\(∀ e∈es,isW "still" e=true->e.2.1<e.2.2/\e.2.2<=e.2.1+40) /\
 ∀ v (o f p:List (Int × Int)) (t:List Int) (r l s d:List (Int × Int)) (ns:List Int) H',Same H H'->zqY es o f p t r l s d ns ->
  RdV K H' v (.list [.list (o.map zak),.list (f.map zak),.list (p.map zak),.list (t.map PyData.int),.list (r.map zak),.list (l.map zak),.list (s.map zak),.list (d.map zak),.list (ns.map PyData.int)])->Q v H'
theorem zgf:zj ["_law_rows_here", "_law_due_here"] qak (zh zej):=by walk_at "sp"
theorem zom (S:Src K mg "_law_due" zej qak) (T:Txt K mg) (zaM:Def P w K mg base 1 "_law_rising" qan (zdk P w K)) (zbJ:Def P w K mg base 1 "_law_sums" qag (zeQ P w K)) (zed:Def P w K mg base 1 "_law_joined" qak (zgi K)) (zcM:Def P w K mg base 2 "_law_table" qag (zha P w K)) (zfN:Def P w K mg base 2 "_law_dues" qaj (zhF P w K)):Def P w K mg base 3 "_law_due" qak (zio P w K):=by
 exists S.ok,zgf,0
 all_goals obtain ⟨q,rs,es,rfl,hq,hR,hl,d0,d1,d2,h⟩:=h
 ·rfl
 refine ⟨_,(zf (zex (i:=1) zgf.nd rfl rfl (ix:=[0]) ⟨rfl,by decide +kernel,rfl,by decide +kernel,rfl,(show (["_law_word", "_law_rows_here"]:List Str).Nodup by decide +kernel),by walk_at "cap", by walk_at "sub", by walk_at "has"⟩ (zsi (zN (za zp (za zp (za zp zc))))) (fun b=>(zy zaM hr (za (zy zbJ hr (za (pv 1) (za (pv 0) zc))) zc))))
  (zf (zan (zer PySem.F.plainAttrs_list PySem.F.slot_list_append PySem.F.type_list_append zaD (pv 1) (za (zI (zdc rfl) rfl T.zaN PyProof.Rows.boot_sorted (za (zae (zfA rfl) rfl T.zh8 PyProof.Rows.boot_set (za (zel (ix:=[]) ⟨rfl,by decide +kernel,rfl,by decide +kernel,rfl,rfl,rfl,  (show (["_law_word", "_law_day", "_law_value_here"]:List Str).Nodup by decide +kernel),by walk_at "cap", by walk_at "sub", by walk_at "has"⟩ (zM (pv 0)) (fun b=>(zw zah (pv 0) zp (nomark _))) (fun b=>(pv 1))) zc)) zc)) zc)))
  (zf (zE (i:=1) zgf.nd rfl (by walk_at "lc") (zo zbT (pv 1) (zW (za (zy zcM hr (za (pv 0) (za zp zc))) (za (zy zcM hr (za (pv 0) (za zp zc))) (za (zy zed hr (za (pv 0) zc)) zc))))))
  (zf (zan (zer PySem.F.plainAttrs_list PySem.F.slot_list_append PySem.F.type_list_append zaD (pv 1) (za (zy zaM hr (za (zy zfN hr (za (pv 0) (za (zro rfl rfl T.zlu (za (zgv (ix:=[]) ⟨rfl,by decide +kernel,rfl,by decide +kernel,rfl,(show (["_law_row_here"]:List Str).Nodup by decide +kernel),by walk_at "cap", by walk_at "sub", by walk_at "has"⟩ (zM (pv 0)) (fun b=>(zx (zgz K) (pv 0) zd (fun _ _=>rfl)))) zc) zd) zc))) zc)) zc)))
  (zg (zk (zo zbT (pv 1) (zW (za (zI (zdc rfl) rfl T.zaN PyProof.Rows.boot_sorted (za (zae (zfA rfl) rfl T.zh8 PyProof.Rows.boot_set (za (zel (ix:=[]) ⟨rfl,by decide +kernel,rfl,by decide +kernel,rfl,rfl,rfl,  (show (["_law_word", "_law_day", "_law_value_here"]:List Str).Nodup by decide +kernel),by walk_at "cap", by walk_at "sub", by walk_at "has"⟩ (zM (pv 0)) (fun b=>(zw (zi7 K) (pv 0) (zN (za zp (za zp (za zp (za zp zc))))) (by with_unfolding_all rfl))) (fun b=>(pv 1))) zc)) zc)) zc))))))))),?_⟩
 have sz:=sizeLine_eq
 have xl:=hR.length
 nofun
 intro tp ntp
 have st:=zb ntp (.tup [.str "out", .str "fee", .str "pay"])
 have et:=zq (.tup [.str "out", .str "fee", .str "pay"]) ntp
 generalize upd H tp (.tup [.str "out", .str "fee", .str "pay"])=H1 at st et ⊢
 have hq1:=st _ _ hq
 have hR1:=hR.same st
 refine ⟨tp,rfl,⟨_,SqT.of et⟩,fun l nl=>?_⟩
 refine zpV (zqb et) nl (by simp;ac_rfl) (["out", "fee", "pay"]:List Str) rfl (fun H' v ww=>∃ (q:Addr) (ys:List V) (r:List (Int × Int)),q≠l/\v=.ref q/\H' q=some (.lst ys)/\zu K H' ys r/\Sby.Tab r (prs ww es)) (fun v ww H1 H2 s ⟨q,ys,r,n,e1,e2,e3,e4⟩=>⟨q,ys,r,n,e1,s _ _ e2,e3.same s,e4⟩)
  (fun v ww H1 xs zs hL ⟨q,ys,r,n,e1,e2,e3,e4⟩=>⟨q,ys,r,n,e1,by rw[zi n];exact e2,e3.put hL,e4⟩) ?_ ?_
 ·rintro i x ww H2 zs Q' hx he s2 hL hq'
  have ex:x=.str ww:=by
   rcases i with _ | _ | _ | i
   ·cases hx;cases he;rfl
   ·cases hx;cases he;rfl
   ·cases hx;cases he;rfl
   ·simp at hx
  subst ex
  nofun
  refine ⟨q,rs,es,ww,rfl,SqL.of (s2 _ _ hq1),hR1.same s2,by ac_rfl,fun d acc ep H3 n3 s3 e3 tt=>?_⟩
  nofun
  refine ⟨d,acc,ep,rfl,e3,?_,tt.nd,fun p ws r H4 n4 s4 e4 r4 up pr=>?_⟩
  ·have:=zhE tt
   have:=zbK (w:=ww) (es:=es)
   ac_rfl
  ·refine hq' _ _ (s3.trans s4) ⟨p,ws,r,fun z=>?_,rfl,e4,r4,up,fun k=>?_,fun s hs=>?_⟩
   ·rw[z,s3 _ _ hL] at n4
    cases n4
   ·rw[(pr.map (·.1)).mem_iff]
    exact tt.mem k
   ·exact tt.val s (pr.mem_iff.mp hs)
 ·rintro ys H2 s2 eL hL
  cases hL with
  | cons a1 hL =>
  cases hL with
  | cons a2 hL =>
  cases hL with
  | cons a3 hL =>
  cases hL
  obtain ⟨q1,y1,o,k1,rfl,g1,ro,to⟩:=a1
  obtain ⟨q2,y2,fe,k2,rfl,g2,rf,tf⟩:=a2
  obtain ⟨q3,y3,pa,k3,rfl,g3,rp,tp'⟩:=a3
  have kq:q≠l:=zU hq1 nl
  have hq2:=s2 _ _ hq1
  have hR2:=hR1.same s2
  have sA:=st.trans s2
  nofun
  refine ⟨.inl ⟨rfl,_,SqL.of eL⟩,?_⟩
  nofun
  refine ⟨⟨_,SqL.of hq2⟩,fun l2 nl2=>?_⟩
  refine zdR (zQ (SqL.of hq2)) nl2 (by ac_rfl) es xl.symm (fun e=>(V.str e.1.word,V.int e.2.1,V.int e.2.2)) (fun i x e hx he=>?_) (isW "turn") (fun _ v e=>v=.int e.2.1) (fun v e H1 H2 s q=>q) (fun v e H1 ys zs hL q=>q) ?_ ?_ ?_
  ·obtain ⟨e',he',t,rfl,ht⟩:=hR2.get hx
   obtain rfl:e'=e:=Option.some.inj (he'.symm.trans he)
   exact ⟨t,rfl,ht⟩
  ·rintro e H' Q' em sH hq'
   nofun
   exact hq' _ (Same.refl _)
  ·rintro e H' Q' em fe sH hq'
   nofun
   exact hq' _ _ (Same.refl _) rfl
  ·rintro zs H3 s3 eL3 hL3
   have ez:zs=(dys "turn" es).map V.int:=by
    have:=hL3.eqm (g:=fun e:Er=>V.int e.2.1)
    rw[this]
    unfold dys
    rw[ybg]
    rfl
   subst ez
   have dl:(dys "turn" es).length<=es.length:=by
    unfold dys
    rw[yab]
    exact yat _ _
   nofun
   refine ⟨l2,dys "turn" es,rfl,SqL.of eL3,by ac_rfl,fun p1 H4 ms np1 s4 e4 nd mm ml=>?_⟩
   nofun
   refine ⟨p1,ms,rfl,e4,?_,fun q4 H5 tn n4 s5 e5 pm up=>?_⟩
   ·exact ycx (ycz (za6 nd fun d hd=>(mm d).mp hd) dl) (by ac_rfl)
   have TD:=Days.of nd mm pm up
   have s25:=s3.trans (s4.trans s5)
   have eL5:=s25 _ _ eL
   have k4:q4≠l:=fun z=>by rw[z,s4 _ _ (s3 _ _ eL)] at n4;cases n4
   nofun
   refine ⟨l,_,_,rfl,rfl,eL5,by simp;ac_rfl,?_⟩
   have sB:Same H (upd H5 l (.lst ([V.ref q1,.ref q2,.ref q3]++[.ref q4]))):=zD (sA.trans s25) (zt st nl)
   have eL6:(upd H5 l (.lst ([V.ref q1,.ref q2,.ref q3]++[.ref q4]))) l=some (.lst ([V.ref q1,.ref q2,.ref q3]++[.ref q4])):=ze
   have D1:RdV K (upd H5 l (.lst ([V.ref q1,.ref q2,.ref q3]++[.ref q4]))) (.ref q1) (.list (o.map zak)):=.lst (SqL.of (by rw[zi k1];exact s25 _ _ g1)) ((ro.same s25).put eL5).rd
   have D2:RdV K (upd H5 l (.lst ([V.ref q1,.ref q2,.ref q3]++[.ref q4]))) (.ref q2) (.list (fe.map zak)):=.lst (SqL.of (by rw[zi k2];exact s25 _ _ g2)) ((rf.same s25).put eL5).rd
   have D3:RdV K (upd H5 l (.lst ([V.ref q1,.ref q2,.ref q3]++[.ref q4]))) (.ref q3) (.list (pa.map zak)):=.lst (SqL.of (by rw[zi k3];exact s25 _ _ g3)) ((rp.same s25).put eL5).rd
   have D4:RdV K (upd H5 l (.lst ([V.ref q1,.ref q2,.ref q3]++[.ref q4]))) (.ref q4) (.list (tn.map PyData.int)):=.lst (SqL.of (by rw[zi k4];exact e5)) (.ints tn)
   have hq6:(upd H5 l (.lst ([V.ref q1,.ref q2,.ref q3]++[.ref q4]))) q=some (.lst rs):=by rw[zi kq];exact s25 _ _ hq2
   have hR6:=(hR2.same s25).put (zs:=[V.ref q1,.ref q2,.ref q3]++[.ref q4]) eL5
   generalize upd H5 l (.lst ([V.ref q1,.ref q2,.ref q3]++[.ref q4]))=H6 at sB eL6 D1 D2 D3 D4 hq6 hR6 ⊢
   nofun
   rename_i q5 y5 ra
   intro H7 n5 s7 e7 r5 tb5
   have hq7:=s7 _ _ hq6
   have hR7:=hR6.same s7
   nofun
   rename_i q6 y6 la
   intro H8 n6 s8 e8 r6 tb6
   have hq8:=s8 _ _ hq7
   have hR8:=hR7.same s8
   nofun
   refine ⟨q,rs,es,rfl,hq8,hR8,hl,fun s hs=>?_,fun q7 y7 jo H9 s9 n7 e9 r7 jj cv jl=>?_⟩
   ·obtain ⟨e,he,rfl⟩:=yao.mp hs
    exact (d2 e (yap.mp he).1 (yap.mp he).2).1
   have s69:=s7.trans (s8.trans s9)
   have hq9:=s9 _ _ hq8
   have hR9:=hR8.same s9
   nofun
   intro p2 m2
   have u2:=zb m2 (.lst [.ref q5,.ref q6,.ref q7])
   have f2:=zq (.lst [.ref q5,.ref q6,.ref q7]) m2
   have s6A:=s69.trans u2
   have E5:RdV K _ (.ref q5) (.list (ra.map zak)):=zaf (s8.trans (s9.trans u2)) (.lst (SqL.of e7) r5.rd)
   have E6:RdV K _ (.ref q6) (.list (la.map zak)):=zaf (s9.trans u2) (.lst (SqL.of e8) r6.rd)
   have E7:RdV K _ (.ref q7) (.list (jo.map zak)):=zaf u2 (.lst (SqL.of e9) r7.rd)
   have hq10:=u2 _ _ hq9
   have hR10:=hR9.same u2
   generalize upd H9 p2 (.lst [.ref q5,.ref q6,.ref q7])=H10 at u2 f2 s6A E5 E6 E7 hq10 hR10 ⊢
   replace D1:=zaf s6A D1
   replace D2:=zaf s6A D2
   replace D3:=zaf s6A D3
   replace D4:=zaf s6A D4
   have sC:=sB.trans s6A
   refine ⟨l,p2,_,_,rfl,rfl,s6A _ _ eL6,f2,by simp;ac_rfl,fun p3 m3=>?_⟩
   have u3:=zb m3 (.lst ([V.ref q1,.ref q2,.ref q3]++[.ref q4]++[.ref q5,.ref q6,.ref q7]))
   have f3:=zq (.lst ([V.ref q1,.ref q2,.ref q3]++[.ref q4]++[.ref q5,.ref q6,.ref q7])) m3
   have hq11:=u3 _ _ hq10
   have hR11:=hR10.same u3
   generalize upd H10 p3 (.lst ([V.ref q1,.ref q2,.ref q3]++[.ref q4]++[.ref q5,.ref q6,.ref q7]))=H11 at u3 f3 hq11 hR11 ⊢
   nofun
   refine ⟨.inl ⟨rfl,_,SqL.of f3⟩,?_⟩
   nofun
   refine ⟨⟨_,SqL.of hq11⟩,fun l3 nl3=>?_⟩
   refine comp_map (zQ (SqL.of hq11)) nl3 (by ac_rfl) es xl.symm (fun _ v e=>v=.int e.2.1) (fun v e H1 H2 s q=>q) (fun v e H1 ys zs hL q=>q) ?_ ?_
   ·rintro i x e H' Q' hx he sH hq'
    obtain ⟨e',he',t,rfl,ht⟩:=(hR11.same sH).get hx
    obtain rfl:e'=e:=Option.some.inj (he'.symm.trans he)
    nofun
    exact hq' _ _ (Same.refl _) rfl
   ·rintro zs H12 s12 eL12 hL12
    have ez:zs=(es.map (·.2.1)).map V.int:=by
     have:=hL12.eqm (g:=fun e:Er=>V.int e.2.1)
     rw[this,ybg]
     rfl
    subst ez
    have hq12:=s12 _ _ hq11
    have hR12:=hR11.same s12
    nofun
    refine ⟨l3,es.map (·.2.1),rfl,SqL.of eL12,fun M hM=>?_⟩
    have bnd:∀ e∈es,M<=e.2.1/\e.2.1<M+200:=fun e he=>by
     rcases hM with ⟨z,_⟩ | ⟨z1,z2⟩
     ·obtain rfl:=List.map_eq_nil_iff.mp z
      cases he
     ·obtain ⟨e',he',rfl⟩:=yao.mp z1
      exact ⟨z2 _ (ybv he),d1 e he e' he'⟩
    nofun
    refine ⟨q,rs,es,M,rfl,hq12,hR12,by ac_rfl,fun e he w=>?_,fun e he=>?_,fun dd acc ep H13 n13 s13 e13 tt=>?_⟩
    ·have h1:=bnd e he
     have h2:=d2 e he w
     ac_rfl
    ·have h1:=bnd e he
     ac_rfl
    nofun
    refine ⟨dd,acc,ep,rfl,e13,?_,tt.nd,fun q8 y8 du H14 n14 s14 e14 r14 up14 pr14=>?_⟩
    ·have h1:=zhE tt
     have h2:=zbK (w:="due") (es:=es)
     have h3:(mvp (mvd (prs "still" es)) (prs "due" es)).length=(prs "due" es).length:=by unfold mvp;rw[yab]
     ac_rfl
    have TB:Sby.Tab du (mvp (mvd (prs "still" es)) (prs "due" es)):=⟨up14,fun k=>by rw[(pr14.map (·.1)).mem_iff];exact tt.mem k,fun s hs=>tt.val s (pr14.mem_iff.mp hs)⟩
    have s1014:=u3.trans (s12.trans (s13.trans s14))
    have f14:=s14 _ _ (s13 _ _ (s12 _ _ f3))
    have k8:q8≠p3:=fun z=>by rw[z,s13 _ _ (s12 _ _ f3)] at n14;cases n14
    nofun
    refine ⟨p3,_,_,rfl,rfl,f14,by simp;ac_rfl,?_⟩
    have uS:Same H10 (upd H14 p3 (.lst ([V.ref q1,.ref q2,.ref q3]++[.ref q4]++[.ref q5,.ref q6,.ref q7]++[.ref q8]))):=zD s1014 m3
    have f15:(upd H14 p3 (.lst ([V.ref q1,.ref q2,.ref q3]++[.ref q4]++[.ref q5,.ref q6,.ref q7]++[.ref q8]))) p3=some (.lst ([V.ref q1,.ref q2,.ref q3]++[.ref q4]++[.ref q5,.ref q6,.ref q7]++[.ref q8])):=ze
    have E8:RdV K (upd H14 p3 (.lst ([V.ref q1,.ref q2,.ref q3]++[.ref q4]++[.ref q5,.ref q6,.ref q7]++[.ref q8]))) (.ref q8) (.list (du.map zak)):=.lst (SqL.of (by rw[zi k8];exact e14)) (r14.put f14).rd
    generalize upd H14 p3 (.lst ([V.ref q1,.ref q2,.ref q3]++[.ref q4]++[.ref q5,.ref q6,.ref q7]++[.ref q8]))=H15 at uS f15 E8 ⊢
    have hq15:=uS _ _ hq10
    have hR15:=hR10.same uS
    nofun
    refine ⟨⟨_,SqL.of hq15⟩,fun l4 nl4=>?_⟩
    refine zdR (zQ (SqL.of hq15)) nl4 (by ac_rfl) es xl.symm (fun e=>(V.str e.1.word,V.int e.2.1,V.int e.2.2)) (fun i x e hx he=>?_) zkf (fun _ v e=>v=.int e.2.1) (fun v e H1 H2 s q=>q) (fun v e H1 ys zs hL q=>q) ?_ ?_ ?_
    ·obtain ⟨e',he',t,rfl,ht⟩:=hR15.get hx
     obtain rfl:e'=e:=Option.some.inj (he'.symm.trans he)
     exact ⟨t,rfl,ht⟩
    ·rintro e H' Q' em sH hq'
     nofun
     intro tq ntq
     exact ⟨tq,_,rfl,.inr (SqT.of (zq _ ntq)),rfl,rfl,_,rfl,hq' _ (zb ntq _)⟩
    ·rintro e H' Q' em fe sH hq'
     nofun
     exact hq' _ _ (Same.refl _) rfl
    ·rintro zs H16 s16 eL16 hL16
     have ez:zs=((es.filter zkf).map (·.2.1)).map V.int:=by
      have:=hL16.eqm (g:=fun e:Er=>V.int e.2.1)
      rw[this,ybg]
      rfl
     subst ez
     have dl2:((es.filter zkf).map (·.2.1)).length<=es.length:=by
      rw[yab]
      exact yat _ _
     nofun
     refine ⟨l4,(es.filter zkf).map (·.2.1),rfl,SqL.of eL16,by ac_rfl,fun p5 H17 ms2 np5 s17 e17 nd2 mm2 ml2=>?_⟩
     nofun
     refine ⟨p5,ms2,rfl,e17,?_,fun q9 H18 ns n18 s18 e18 pm2 up2=>?_⟩
     ·exact ycx (ycz (za6 nd2 fun d hd=>(mm2 d).mp hd) dl2) (by ac_rfl)
     have DS:=Days.of nd2 mm2 pm2 up2
     nofun
     intro p6 m6
     have sH18:=uS.trans (s16.trans (s17.trans s18))
     have s1518:=s16.trans (s17.trans s18)
     have u6:=zb m6 (.lst [.ref q9])
     have f6:=zq (.lst [.ref q9]) m6
     have E9:RdV K _ (.ref q9) (.list (ns.map PyData.int)):=zaf u6 (.lst (SqL.of e18) (.ints ns))
     generalize upd H18 p6 (.lst [.ref q9])=H19 at u6 f6 E9 ⊢
     refine ⟨p3,p6,_,_,rfl,rfl,u6 _ _ (s1518 _ _ f15),f6,by simp;ac_rfl,fun p7 m7=>?_⟩
     have u7:=zb m7 (.lst ([V.ref q1,.ref q2,.ref q3]++[.ref q4]++[.ref q5,.ref q6,.ref q7]++[.ref q8]++[.ref q9]))
     have f7:=zq (.lst ([V.ref q1,.ref q2,.ref q3]++[.ref q4]++[.ref q5,.ref q6,.ref q7]++[.ref q8]++[.ref q9])) m7
     have uX:=sH18.trans (u6.trans u7)
     refine h _ o fe pa tn ra la jo du ns _ (sC.trans uX) ⟨to,tf,tp',TD,tb5,tb6,⟨jj,cv⟩,TB,DS.up,fun x=>?_⟩ (.lst (SqL.of f7) (.cons (zaf uX D1) (.cons (zaf uX D2) (.cons (zaf uX D3) (.cons (zaf uX D4) (.cons (zaf uX E5) (.cons (zaf uX E6) (.cons (zaf uX E7) (.cons (zaf (s1518.trans (u6.trans u7)) E8) (.cons (zaf u7 E9) .nil))))))))))
     rw[DS.mem,yao]
     exact ⟨fun ⟨e,a1,a2⟩=>⟨e,(yap.mp a1).1,(zmA e).mp (yap.mp a1).2,a2.symm⟩,fun ⟨e,a1,a2,a3⟩=>⟨e,yap.mpr ⟨a1,(zmA e).mpr a2⟩,a3.symm⟩⟩
noncomputable def bG (c:Addr) (g:Int) (qs:List Addr):List (Str × V):=("own_count", V.ref c)::("own_grace", V.int g)::List.zipWith (fun (n:Str) q=>(n,V.ref q)) ["own_entries", "out_sums", "fee_sums", "pay_sums", "turn_days", "rate_rows", "late_rows", "spans", "due_sums"] qs
def Nw (H:Hp) (A:BkA):Prop:=∀ p∈[A.e,A.o,A.f,A.p,A.t,A.r,A.l,A.s,A.d],H p=none
theorem Nw.gone {G H:Hp} {A:BkA} (n:Nw H A) (s:Same G H):Nw G A:=fun p hp=>zt s (n p hp)
theorem zo3 {K:W.Frag} {H:Hp} {c q:Addr} {kd:Kd} {ys zs:List V} (h:zbb K H c kd) (hq:H q=some (.lst ys)):zbb K (upd H q (.lst zs)) c kd:=by
 obtain ⟨dx,e⟩:=h
 exact ⟨dx,by rw[zi (zaj e hq (by intro z;cases z))];exact e⟩
theorem zeB {K:W.Frag} {H:Hp} {a q:Addr} {l:List (Int × Int)} {ys zs:List V} (h:LP K H a l) (hq:H q=some (.lst ys)) (ne:a≠q):LP K (upd H q (.lst zs)) a l:=by
 obtain ⟨xs,e,r,z⟩:=h
 exact ⟨xs,by rw[zi ne];exact e,r.put hq,z⟩
theorem zsF {K:W.Frag} {H:Hp} {q:Addr} {xs ys zs:List V} {es:List Er} (h:EL K H xs es) (hq:H q=some (.lst ys)):EL K (upd H q (.lst zs)) xs es :=
 LL.imp (fun v e ⟨a,dx,e1,e2⟩=>⟨a,dx,e1,by rw[zZ,zi (zaj e2 hq (by intro z;cases z))];exact e2⟩) h
theorem zmQ {K:W.Frag} {H G:Hp} {a q:Addr} {A:BkA} {b:BkT} {ys zs us:List V} (B:zaU K H a A b) (N:Nw G A) (hG:G q=some (.lst us)) (hq:H q=some (.lst ys)):zaU K (upd H q (.lst zs)) a A b:=by
 have ne:∀ p∈[A.e,A.o,A.f,A.p,A.t,A.r,A.l,A.s,A.d],p≠q:=fun p hp e=>by
  have:=N p hp
  rw[e,hG] at this
  cases this
 obtain ⟨xs,e,r⟩:=B.ents
 exact ⟨by rw[zi (zaj B.ins hq (by intro z;cases z))];exact B.ins,zo3 B.cnt hq,⟨xs,by rw[zi (ne _ (by simp))];exact e,zsF r hq⟩,zeB B.outs hq (ne _ (by simp)),zeB B.fees hq (ne _ (by simp)),zeB B.pays hq (ne _ (by simp)),by rw[zi (ne _ (by simp))];exact B.turns,zeB B.rates hq (ne _ (by simp)),zeB B.lates hq (ne _ (by simp)),zeB B.spans hq (ne _ (by simp)),zeB B.dues hq (ne _ (by simp))⟩
def zcJ (K:W.Frag):Sp:=fun vs H Q E=>L2.Ee8 fun a dx p x y xs (es:List Er) G=>L2.Aa6 (vs=[.ref a,x,y,.ref p]) (H a=some (.ins (cA K "Book") dx [])) ((G a=none/\Same G H)) (SqL K G p xs) (EL K G xs es) (((zi3 K H x y/\∀ H',Same H H'->E (.ref (cA K "NoTerms")) none H')\/∃ c kd g,x=.ref c/\y=.int g/\zbb K G c kd/\(0<=g/\g<=366)/\((500<es.length/\∀ H',Same H H'->E (.ref (cA K "TooMany")) none H')\/(Fd es/\(∀ e∈es,0<=e.2.1)/\∀ A (b:BkT) H',Same G H'->Nw G A->zaU K H' a A b->zcm b->b.kd=kd->b.g=g->b.es=es->Q .non H'))))
theorem nw9 {H:Hp} {dx c e o f p t r l s d:Addr} (h1:H e=none) (h2:H o=none) (h3:H f=none) (h4:H p=none) (h5:H t=none) (h6:H r=none) (h7:H l=none) (h8:H s=none) (h9:H d=none):Nw H ⟨dx,c,e,o,f,p,t,r,l,s,d⟩:=by
 intro x hx
 simp at hx
 rcases hx with rfl | rfl | rfl | rfl | rfl | rfl | rfl | rfl | rfl <;> assumption
theorem zbI {r l:List (Int × Int)} (T:Sby.Tab r l):r.length<=l.length:=by
 have:=za6 (Sby.zjw T.up) fun k hk=>(T.mem k).mp hk
 rw[yab,yab] at this
 exact this
theorem zlW:zj qam qam (zh zdJ):=by walk_at "sp"
theorem zng (S:zr K (cA K "Book") "__init__" "Book.__init__" zdJ qam) (T:Txt K mg) (zd6:zoS P w K mg base 3 "check_terms" qat (zgx K)) (zbU:Def P w K mg base 2 "sum_by" qac (zhm K)) (zhk:Def P w K mg base 2 "days_of" qac (zjy K)) (zc9:Def P w K mg base 2 "rate_table" qac (zg3 K)) (zec:Def P w K mg base 2 "still_spans" qba (zgD K)) (zd4:Def P w K mg base 3 "fallen_dues" qau (zgp K)):zdE P w K mg base 4 (cA K "Book") "__init__" qam (zcJ K):=by
 exists S.okX,zlW,0
 all_goals obtain ⟨a,dx,p,x,y,xs,es,G,rfl,ea,⟨na,sG⟩,hp,hE,h⟩:=h
 ·rfl
 refine ⟨_,(zf (zan (zsw (E:=E) zd6 hr zq7 (za (pv 1) (za (pv 2) zc))))
  (zf (zaa (zw zlw (zI za2 rfl T.zeq PySem.boot_len (za (pv 3) zc)) (znQ T.zdt) (nomark _))
  (zg (ziE (E:=E) T.zcE T.x_TooMany (fun _ _ _ _ _ _ _ I hx hE=>zki I hx hE) (za zp zc)))
   zL)
  (zf (zbw T.zv T.zaR (pv 0) (pv 1))
  (zf (zbw T.zv T.zaP (pv 0) (pv 2))
  (zf (zbw T.zv T.zaE (pv 0) (zae zau rfl T.zbt PyProof.Rows.boot_list (za (pv 3) zc)))
  (zf (zbw T.zv T.za7 (pv 0) (zy zbU hr (za (pv 3) (za zp zc))))
  (zf (zbw T.zv T.zaZ (pv 0) (zy zbU hr (za (pv 3) (za zp zc))))
  (zf (zbw T.zv T.zaY (pv 0) (zy zbU hr (za (pv 3) (za zp zc))))
  (zf (zbw T.zv T.zaQ (pv 0) (zy zhk hr (za (pv 3) (za zp zc))))
  (zf (zbw T.zv T.zbm (pv 0) (zy zc9 hr (za (pv 3) (za zp zc))))
  (zf (zbw T.zv T.zbl (pv 0) (zy zc9 hr (za (pv 3) (za zp zc))))
  (zf (zbw T.zv T.zbE (pv 0) (zy zec hr (za (pv 3) zc)))
  (zg (zbw T.zv T.zbz (pv 0) (zy zd4 hr (za (pv 3) (za (zao T.zv T.zbE (pv 0)) zc))))))))))))))))),?_⟩
 have sz:=sizeLine_eq
 have xl:=hE.length
 rcases h with ⟨hb,h⟩ | ⟨c,kd,g,rfl,rfl,hc,hg,h⟩
 ·nofun
  exact .inr ⟨hb,h⟩
 have hp0:=sG.seq hp
 rcases h with ⟨hm,h⟩ | ⟨hl,e0,h⟩
 ·nofun
  refine .inl ⟨c,kd,g,rfl,rfl,hc.same sG,hg,?_⟩
  nofun
  ·exact h _ (Same.refl _)
  ·ac_rfl
 obtain ⟨td,tdl,tdm⟩:=hl.few
 have el:=hl.len
 have ef:es.length<=500/\∃ td:List Int,td.length<=61/\∀ e∈es,e.2.1∈td:=⟨el,td,by ac_rfl,tdm⟩
 have pl:∀ w,(prs w es).length<=500:=fun w=>ycz zbK el
 nofun
 refine .inl ⟨c,kd,g,rfl,rfl,hc.same sG,hg,?_⟩
 nofun
 ·ac_rfl
 refine ⟨a,dx,[],rfl,ea,by decide,?_⟩
 rw[show zas ("own_count" : Str) (V.ref c) ([]:List (Str × V))=([("own_count", V.ref c)]:List (Str × V)) from rfl]
 nofun
 refine ⟨a,dx,_,rfl,ze,ycx (ycu 1) (by decide),?_⟩
 rw[show zas ("own_grace" : Str) (V.int g) ([("own_count", V.ref c)]:List (Str × V))=(bG c g []) from rfl]
 rw[zam]
 have e2:upd H a (.ins (cA K "Book") dx (bG c g [])) a=some (.ins (cA K "Book") dx (bG c g [])):=ze
 have s2:Same G (upd H a (.ins (cA K "Book") dx (bG c g []))):=zD sG na
 generalize upd H a (.ins (cA K "Book") dx (bG c g []))=H2 at e2 s2 ⊢
 nofun
 refine ⟨p,xs,rfl,.inl (s2.seq hp),fun q3 n3=>?_⟩
 have t3:=zb n3 (.lst xs)
 have z3:=zq (.lst xs) n3
 have c3:=t3 _ _ e2
 nofun
 refine ⟨a,dx,_,rfl,c3,ycx (ycu 2) (by decide),?_⟩
 rw[show zas ("own_entries" : Str) (V.ref q3) (bG c g [])=(bG c g [q3]) from rfl]
 have k3:Same (wo H2 a) (wo (upd (upd H2 q3 (.lst xs)) a (.ins (cA K "Book") dx (bG c g [q3]))) a):=zb5 t3
 have s3:Same G (upd (upd H2 q3 (.lst xs)) a (.ins (cA K "Book") dx (bG c g [q3]))):=zD (s2.trans t3) na
 have e3:(upd (upd H2 q3 (.lst xs)) a (.ins (cA K "Book") dx (bG c g [q3]))) a=some (.ins (cA K "Book") dx (bG c g [q3])):=ze
 have L3:wo (upd (upd H2 q3 (.lst xs)) a (.ins (cA K "Book") dx (bG c g [q3]))) a q3=some (.lst xs):=by rw[zco];exact zmi z3 c3
 generalize upd (upd H2 q3 (.lst xs)) a (.ins (cA K "Book") dx (bG c g [q3]))=H3 at k3 s3 e3 L3 ⊢
 nofun
 refine ⟨p,xs,es, "out", rfl,s3.seq hp,hE.same s3,ef,.inl rfl,fun q4 G4 w4 r4 n4 t4 z4 R4 T4=>?_⟩
 have c4:=t4 _ _ e3
 nofun
 refine ⟨a,dx,_,rfl,c4,ycx (ycu 3) (by decide),?_⟩
 rw[show zas ("out_sums" : Str) (V.ref q4) (bG c g [q3])=(bG c g [q3,q4]) from rfl]
 have k4:Same (wo H3 a) (wo (upd G4 a (.ins (cA K "Book") dx (bG c g [q3,q4]))) a):=zb5 t4
 have s4:Same G (upd G4 a (.ins (cA K "Book") dx (bG c g [q3,q4]))):=zD (s3.trans t4) na
 have e4:(upd G4 a (.ins (cA K "Book") dx (bG c g [q3,q4]))) a=some (.ins (cA K "Book") dx (bG c g [q3,q4])):=ze
 have L4:LP K (wo (upd G4 a (.ins (cA K "Book") dx (bG c g [q3,q4]))) a) q4 r4:=by rw[zco];exact LP.wo ⟨w4,z4,R4,(by have:=zbI T4;have:=pl "out";ac_rfl)⟩ c4
 generalize upd G4 a (.ins (cA K "Book") dx (bG c g [q3,q4]))=H4 at k4 s4 e4 L4 ⊢
 nofun
 refine ⟨p,xs,es, "fee", rfl,s4.seq hp,hE.same s4,ef,.inr (.inl rfl),fun q5 G5 w5 r5 n5 t5 z5 R5 T5=>?_⟩
 have c5:=t5 _ _ e4
 nofun
 refine ⟨a,dx,_,rfl,c5,ycx (ycu 4) (by decide),?_⟩
 rw[show zas ("fee_sums" : Str) (V.ref q5) (bG c g [q3,q4])=(bG c g [q3,q4,q5]) from rfl]
 have k5:Same (wo H4 a) (wo (upd G5 a (.ins (cA K "Book") dx (bG c g [q3,q4,q5]))) a):=zb5 t5
 have s5:Same G (upd G5 a (.ins (cA K "Book") dx (bG c g [q3,q4,q5]))):=zD (s4.trans t5) na
 have e5:(upd G5 a (.ins (cA K "Book") dx (bG c g [q3,q4,q5]))) a=some (.ins (cA K "Book") dx (bG c g [q3,q4,q5])):=ze
 have L5:LP K (wo (upd G5 a (.ins (cA K "Book") dx (bG c g [q3,q4,q5]))) a) q5 r5:=by rw[zco];exact LP.wo ⟨w5,z5,R5,(by have:=zbI T5;have:=pl "fee";ac_rfl)⟩ c5
 generalize upd G5 a (.ins (cA K "Book") dx (bG c g [q3,q4,q5]))=H5 at k5 s5 e5 L5 ⊢
 nofun
 refine ⟨p,xs,es, "pay", rfl,s5.seq hp,hE.same s5,ef,.inr (.inr (.inl rfl)),fun q6 G6 w6 r6 n6 t6 z6 R6 T6=>?_⟩
 have c6:=t6 _ _ e5
 nofun
 refine ⟨a,dx,_,rfl,c6,ycx (ycu 5) (by decide),?_⟩
 rw[show zas ("pay_sums" : Str) (V.ref q6) (bG c g [q3,q4,q5])=(bG c g [q3,q4,q5,q6]) from rfl]
 have k6:Same (wo H5 a) (wo (upd G6 a (.ins (cA K "Book") dx (bG c g [q3,q4,q5,q6]))) a):=zb5 t6
 have s6:Same G (upd G6 a (.ins (cA K "Book") dx (bG c g [q3,q4,q5,q6]))):=zD (s5.trans t6) na
 have e6:(upd G6 a (.ins (cA K "Book") dx (bG c g [q3,q4,q5,q6]))) a=some (.ins (cA K "Book") dx (bG c g [q3,q4,q5,q6])):=ze
 have L6:LP K (wo (upd G6 a (.ins (cA K "Book") dx (bG c g [q3,q4,q5,q6]))) a) q6 r6:=by rw[zco];exact LP.wo ⟨w6,z6,R6,(by have:=zbI T6;have:=pl "pay";ac_rfl)⟩ c6
 generalize upd G6 a (.ins (cA K "Book") dx (bG c g [q3,q4,q5,q6]))=H6 at k6 s6 e6 L6 ⊢
 nofun
 refine ⟨p,xs,es, "turn", rfl,s6.seq hp,hE.same s6,el,⟨td,by ac_rfl,fun d hd=>by
  obtain ⟨e,he,rfl⟩:=yao.mp hd
  exact tdm e (yap.mp he).1⟩,fun q7 G7 r7 n7 t7 z7 T7=>?_⟩
 have c7:=t7 _ _ e6
 nofun
 refine ⟨a,dx,_,rfl,c7,ycx (ycu 6) (by decide),?_⟩
 rw[show zas ("turn_days" : Str) (V.ref q7) (bG c g [q3,q4,q5,q6])=(bG c g [q3,q4,q5,q6,q7]) from rfl]
 have k7:Same (wo H6 a) (wo (upd G7 a (.ins (cA K "Book") dx (bG c g [q3,q4,q5,q6,q7]))) a):=zb5 t7
 have s7:Same G (upd G7 a (.ins (cA K "Book") dx (bG c g [q3,q4,q5,q6,q7]))):=zD (s6.trans t7) na
 have e7:(upd G7 a (.ins (cA K "Book") dx (bG c g [q3,q4,q5,q6,q7]))) a=some (.ins (cA K "Book") dx (bG c g [q3,q4,q5,q6,q7])):=ze
 have L7:wo (upd G7 a (.ins (cA K "Book") dx (bG c g [q3,q4,q5,q6,q7]))) a q7=some (.lst (r7.map V.int)):=by rw[zco];exact zmi z7 c7
 generalize upd G7 a (.ins (cA K "Book") dx (bG c g [q3,q4,q5,q6,q7]))=H7 at k7 s7 e7 L7 ⊢
 nofun
 refine ⟨p,xs,es, "rate", rfl,s7.seq hp,hE.same s7,⟨el,hl.rt⟩,.inl rfl,e0,fun q8 G8 w8 r8 n8 t8 z8 R8 T8 T8' y8=>?_⟩
 have c8:=t8 _ _ e7
 nofun
 refine ⟨a,dx,_,rfl,c8,ycx (ycu 7) (by decide),?_⟩
 rw[show zas ("rate_rows" : Str) (V.ref q8) (bG c g [q3,q4,q5,q6,q7])=(bG c g [q3,q4,q5,q6,q7,q8]) from rfl]
 have k8:Same (wo H7 a) (wo (upd G8 a (.ins (cA K "Book") dx (bG c g [q3,q4,q5,q6,q7,q8]))) a):=zb5 t8
 have s8:Same G (upd G8 a (.ins (cA K "Book") dx (bG c g [q3,q4,q5,q6,q7,q8]))):=zD (s7.trans t8) na
 have e8:(upd G8 a (.ins (cA K "Book") dx (bG c g [q3,q4,q5,q6,q7,q8]))) a=some (.ins (cA K "Book") dx (bG c g [q3,q4,q5,q6,q7,q8])):=ze
 have L8:LP K (wo (upd G8 a (.ins (cA K "Book") dx (bG c g [q3,q4,q5,q6,q7,q8]))) a) q8 r8:=by rw[zco];exact LP.wo ⟨w8,z8,R8,(by ac_rfl)⟩ c8
 generalize upd G8 a (.ins (cA K "Book") dx (bG c g [q3,q4,q5,q6,q7,q8]))=H8 at k8 s8 e8 L8 ⊢
 nofun
 refine ⟨p,xs,es, "late", rfl,s8.seq hp,hE.same s8,⟨el,hl.lt⟩,.inr rfl,e0,fun q9 G9 w9 r9 n9 t9 z9 R9 T9 T9' y9=>?_⟩
 have c9:=t9 _ _ e8
 nofun
 refine ⟨a,dx,_,rfl,c9,ycx (ycu 8) (by decide),?_⟩
 rw[show zas ("late_rows" : Str) (V.ref q9) (bG c g [q3,q4,q5,q6,q7,q8])=(bG c g [q3,q4,q5,q6,q7,q8,q9]) from rfl]
 have k9:Same (wo H8 a) (wo (upd G9 a (.ins (cA K "Book") dx (bG c g [q3,q4,q5,q6,q7,q8,q9]))) a):=zb5 t9
 have s9:Same G (upd G9 a (.ins (cA K "Book") dx (bG c g [q3,q4,q5,q6,q7,q8,q9]))):=zD (s8.trans t9) na
 have e9:(upd G9 a (.ins (cA K "Book") dx (bG c g [q3,q4,q5,q6,q7,q8,q9]))) a=some (.ins (cA K "Book") dx (bG c g [q3,q4,q5,q6,q7,q8,q9])):=ze
 have L9:LP K (wo (upd G9 a (.ins (cA K "Book") dx (bG c g [q3,q4,q5,q6,q7,q8,q9]))) a) q9 r9:=by rw[zco];exact LP.wo ⟨w9,z9,R9,(by ac_rfl)⟩ c9
 generalize upd G9 a (.ins (cA K "Book") dx (bG c g [q3,q4,q5,q6,q7,q8,q9]))=H9 at k9 s9 e9 L9 ⊢
 nofun
 refine ⟨p,xs,es,rfl,s9.seq hp,hE.same s9,⟨el,hl.st⟩,fun q10 G10 w10 r10 n10 t10 z10 R10 J10 V10 y10=>?_⟩
 have c10:=t10 _ _ e9
 nofun
 refine ⟨a,dx,_,rfl,c10,ycx (ycu 9) (by decide),?_⟩
 rw[show zas ("spans" : Str) (V.ref q10) (bG c g [q3,q4,q5,q6,q7,q8,q9])=(bG c g [q3,q4,q5,q6,q7,q8,q9,q10]) from rfl]
 have k10:Same (wo H9 a) (wo (upd G10 a (.ins (cA K "Book") dx (bG c g [q3,q4,q5,q6,q7,q8,q9,q10]))) a):=zb5 t10
 have s10:Same G (upd G10 a (.ins (cA K "Book") dx (bG c g [q3,q4,q5,q6,q7,q8,q9,q10]))):=zD (s9.trans t10) na
 have e10:(upd G10 a (.ins (cA K "Book") dx (bG c g [q3,q4,q5,q6,q7,q8,q9,q10]))) a=some (.ins (cA K "Book") dx (bG c g [q3,q4,q5,q6,q7,q8,q9,q10])):=ze
 have L10:LP K (wo (upd G10 a (.ins (cA K "Book") dx (bG c g [q3,q4,q5,q6,q7,q8,q9,q10]))) a) q10 r10:=by rw[zco];exact LP.wo ⟨w10,z10,R10,(by ac_rfl)⟩ c10
 generalize upd G10 a (.ins (cA K "Book") dx (bG c g [q3,q4,q5,q6,q7,q8,q9,q10]))=H10 at k10 s10 e10 L10 ⊢
 nofun
 refine ⟨a,dx,_,_,rfl,e10,rfl,?_⟩
 nofun
 obtain ⟨w10',z10',R10',_⟩:=L10.same zbH
 refine ⟨p,q10,xs,w10',es,r10,rfl,s10.seq hp,hE.same s10,ef,⟨SqL.of z10',R10',J10⟩,fun q11 G11 w11 r11 n11 t11 z11 R11 T11=>?_⟩
 rw[zr3 V10] at T11
 have c11:=t11 _ _ e10
 nofun
 refine ⟨a,dx,_,rfl,c11,ycx (ycu 10) (by decide),?_⟩
 rw[show zas ("due_sums" : Str) (V.ref q11) (bG c g [q3,q4,q5,q6,q7,q8,q9,q10])=(bG c g [q3,q4,q5,q6,q7,q8,q9,q10,q11]) from rfl]
 have k11:Same (wo H10 a) (wo (upd G11 a (.ins (cA K "Book") dx (bG c g [q3,q4,q5,q6,q7,q8,q9,q10,q11]))) a):=zb5 t11
 have s11:Same G (upd G11 a (.ins (cA K "Book") dx (bG c g [q3,q4,q5,q6,q7,q8,q9,q10,q11]))):=zD (s10.trans t11) na
 have e11:(upd G11 a (.ins (cA K "Book") dx (bG c g [q3,q4,q5,q6,q7,q8,q9,q10,q11]))) a=some (.ins (cA K "Book") dx (bG c g [q3,q4,q5,q6,q7,q8,q9,q10,q11])):=ze
 have L11:LP K (wo (upd G11 a (.ins (cA K "Book") dx (bG c g [q3,q4,q5,q6,q7,q8,q9,q10,q11]))) a) q11 r11:=by rw[zco];exact LP.wo ⟨w11,z11,R11,(by have:=zbI T11;have:(mvp (mvd (prs "still" es)) (prs "due" es)).length=(prs "due" es).length:=yab ..;have:=pl "due";ac_rfl)⟩ c11
 generalize upd G11 a (.ins (cA K "Book") dx (bG c g [q3,q4,q5,q6,q7,q8,q9,q10,q11]))=H11 at k11 s11 e11 L11 ⊢
 nofun
 refine h ⟨dx,c,q3,q4,q5,q6,q7,q8,q9,q10,q11⟩ ⟨kd,g,es,r4,r5,r6,r7,r8,r9,r10,r11⟩ H11 s11 (nw9 (zt s2 n3) (zt s3 n4) (zt s4 n5) (zt s5 n6) (zt s6 n7) (zt s7 n8) (zt s8 n9) (zt s9 n10) (zt s10 n11)) ⟨e11,hc.same s11,⟨xs,(k4.trans (k5.trans (k6.trans (k7.trans (k8.trans (k9.trans (k10.trans (k11.trans zbH)))))))) _ _ L3,hE.same s11⟩,L4.same (k5.trans (k6.trans (k7.trans (k8.trans (k9.trans (k10.trans (k11.trans zbH))))))),L5.same (k6.trans (k7.trans (k8.trans (k9.trans (k10.trans (k11.trans zbH)))))),L6.same (k7.trans (k8.trans (k9.trans (k10.trans (k11.trans zbH))))),(k8.trans (k9.trans (k10.trans (k11.trans zbH)))) _ _ L7,L8.same (k9.trans (k10.trans (k11.trans zbH))),L9.same (k10.trans (k11.trans zbH)),L10.same (k11.trans zbH),L11.same zbH⟩ ⟨T4,T5,T6,T7,⟨T8,T8'⟩,⟨T9,T9'⟩,⟨J10,V10⟩,T11⟩ rfl rfl rfl
def zho (K:W.Frag):Sp:=fun vs H Q _=>L2.Ee4 fun r k d x=>L2.Aa4 (vs=[.ref r]) (H r=some (.tup (zbN k d x))) (k≠.base) (∀ a dx H',Same H H'->H a=none->zZ K H' a dx k d x->Q (.ref a) H')
theorem zcW:zj ["_law_row_here", "_law_word", "_law_day", "_law_value_here"] qai (zh zdu):=by walk_at "sp"
theorem znI (S:Src K mg "_law_made" zdu qai) (T:Txt K mg) (zgY:zB P w K mg base 2 (cA K "Out") "__init__" qad (zag K)) (zgL:zB P w K mg base 2 (cA K "Fee") "__init__" qad (zag K)) (zaV:zB P w K mg base 1 (cA K "Turn") "__init__" qae (zaO K)) (zb8:zB P w K mg base 2 (cA K "Pay") "__init__" qad (zag K)) (zb9:zB P w K mg base 2 (cA K "Due") "__init__" qad (zag K)) (zf2:zB P w K mg base 2 (cA K "Rate") "__init__" qal (zci K)) (zfS:zB P w K mg base 2 (cA K "Late") "__init__" qal (zci K)) (zeK:zB P w K mg base 2 (cA K "Still") "__init__" qaq (zg4 K)):Def P w K mg base 4 "_law_made" qai (zho K):=by
 exists S.ok,zcW,0
 all_goals obtain ⟨r,k,d,x,rfl,e,h2,h⟩:=h
 ·rfl
 refine ⟨_,(zf (zja (pv 0) (zgA rfl (zap (zO (i:=1) zcW.nd rfl (by walk_at "lc")) (zap (zO (i:=2) zcW.nd rfl (by walk_at "lc")) (zap (zO (i:=3) zcW.nd rfl (by walk_at "lc")) zez)))))
  (zf (zaa (zw zah (pv 1) zp (nomark _))
  (zg (zk (zaH T.zmo zgY hr T.zop (za (pv 2) (za (pv 3) zc)))))
   zL)
  (zf (zaa (zw zah (pv 1) zp (nomark _))
  (zg (zk (zaH T.zmS zgL hr T.zoI (za (pv 2) (za (pv 3) zc)))))
   zL)
  (zf (zaa (zw zah (pv 1) zp (nomark _))
  (zg (zk (zaH T.zey zaV hr T.zgw (za (pv 2) zc))))
   zL)
  (zf (zaa (zw zah (pv 1) zp (nomark _))
  (zg (zk (zaH T.zjD zb8 hr T.zls (za (pv 2) (za (pv 3) zc)))))
   zL)
  (zf (zaa (zw zah (pv 1) zp (nomark _))
  (zg (zk (zaH T.zjv zb9 hr T.zlp (za (pv 2) (za (pv 3) zc)))))
   zL)
  (zf (zaa (zw zah (pv 1) zp (nomark _))
  (zg (zk (zaH T.zj2 zf2 hr T.zlT (za (pv 2) (za (pv 3) zc)))))
   zL)
  (zf (zaa (zw zah (pv 1) zp (nomark _))
  (zg (zk (zaH T.zjQ zfS hr T.zmd (za (pv 2) (za (pv 3) zc)))))
   zL)
  (zg (zk (zaH T.ziH zeK hr T.zjM (za (pv 2) (za (pv 3) zc))))))))))))),?_⟩
 cases k with
 | base=>exact absurd rfl h2
 | turn =>
  dsimp only [zbN,Ek.word] at e
  nofun
  refine ⟨r,_,rfl,SqT.of e,rfl,?_⟩
  nofun
  intro a dx na nd ne
  refine ⟨a,_,dx,[],d,rfl,ze,T.clE .turn,T.zS .turn,by decide,rfl,?_⟩
  rw[zam]
  exact h a dx _ ((zb nd _).trans (zb (by rw[zi ne.symm];exact na) _)) na ze
 | out =>
  dsimp only [zbN,Ek.word] at e
  nofun
  refine ⟨r,_,rfl,SqT.of e,rfl,?_⟩
  nofun
  intro a dx na nd ne
  refine ⟨a,_,dx,d,x,rfl,ze,T.clE .out,T.zS .out,T.zaC .out,rfl,?_⟩
  rw[zam]
  nofun
  exact h a dx _ ((zb nd _).trans (zb (by rw[zi ne.symm];exact na) _)) na ze
 | fee =>
  dsimp only [zbN,Ek.word] at e
  nofun
  refine ⟨r,_,rfl,SqT.of e,rfl,?_⟩
  nofun
  intro a dx na nd ne
  refine ⟨a,_,dx,d,x,rfl,ze,T.clE .fee,T.zS .fee,T.zaC .fee,rfl,?_⟩
  rw[zam]
  nofun
  exact h a dx _ ((zb nd _).trans (zb (by rw[zi ne.symm];exact na) _)) na ze
 | pay =>
  dsimp only [zbN,Ek.word] at e
  nofun
  refine ⟨r,_,rfl,SqT.of e,rfl,?_⟩
  nofun
  intro a dx na nd ne
  refine ⟨a,_,dx,d,x,rfl,ze,T.clE .pay,T.zS .pay,T.zaC .pay,rfl,?_⟩
  rw[zam]
  nofun
  exact h a dx _ ((zb nd _).trans (zb (by rw[zi ne.symm];exact na) _)) na ze
 | due =>
  dsimp only [zbN,Ek.word] at e
  nofun
  refine ⟨r,_,rfl,SqT.of e,rfl,?_⟩
  nofun
  intro a dx na nd ne
  refine ⟨a,_,dx,d,x,rfl,ze,T.clE .due,T.zS .due,T.zaC .due,rfl,?_⟩
  rw[zam]
  nofun
  exact h a dx _ ((zb nd _).trans (zb (by rw[zi ne.symm];exact na) _)) na ze
 | rate =>
  dsimp only [zbN,Ek.word] at e
  nofun
  refine ⟨r,_,rfl,SqT.of e,rfl,?_⟩
  nofun
  intro a dx na nd ne
  refine ⟨a,_,dx,d,x,rfl,ze,T.clE .rate,T.zS .rate,T.zeF .rate,rfl,?_⟩
  rw[zam]
  nofun
  exact h a dx _ ((zb nd _).trans (zb (by rw[zi ne.symm];exact na) _)) na ze
 | late =>
  dsimp only [zbN,Ek.word] at e
  nofun
  refine ⟨r,_,rfl,SqT.of e,rfl,?_⟩
  nofun
  intro a dx na nd ne
  refine ⟨a,_,dx,d,x,rfl,ze,T.clE .late,T.zS .late,T.zeF .late,rfl,?_⟩
  rw[zam]
  nofun
  exact h a dx _ ((zb nd _).trans (zb (by rw[zi ne.symm];exact na) _)) na ze
 | still =>
  dsimp only [zbN,Ek.word] at e
  nofun
  refine ⟨r,_,rfl,SqT.of e,rfl,?_⟩
  nofun
  intro a dx na nd ne
  refine ⟨a,_,dx,d,x,rfl,ze,T.clE .still,T.zS .still,T.zfC .still,rfl,?_⟩
  rw[zam]
  nofun
  exact h a dx _ ((zb nd _).trans (zb (by rw[zi ne.symm];exact na) _)) na ze
theorem zpq {r l tb:List (Int × Int)} (T:Tbl r l) (U:Stills.TabOf l tb) (V:tb=(tb.map (·.1)).map (fun d=>(d,Sums.valOf l d))):tb=r:=by
 have e:tb.map (·.1)=r.map (·.1):=Sby.zhP (ycm.mpr U.up) T.up fun d=>by
  rw[T.day,<-U.days,yao]
  exact ⟨fun ⟨s,a,b⟩=>⟨s,a,b.symm⟩,fun ⟨s,a,b⟩=>⟨s,a,b.symm⟩⟩
 have e2:r=(r.map (·.1)).map (fun d=>(d,Sums.valOf l d)):=by
  rw[ybg]
  conv=>lhs;rw[<-List.map_id r]
  exact ybo fun s hs=>by
   show s=(s.1,Sums.valOf l s.1)
   rw[<-T.val s hs]
 rw[V,e,<-e2]
theorem zqs {b:BkT} {es:List Er} {o f p:List (Int × Int)} {t:List Int} {r l s d:List (Int × Int)} {ns ms:List Int} (I:zcm b) (e:b.es=es) (D:zqY es o f p t r l s d ns) (up:ms.Pairwise (·<·)) (mem:∀ x,x∈ms↔DDay b x)
  (dd:∀ x,DDay b x↔∃ e∈es,(isW "out" e=true\/isW "fee" e=true\/isW "turn" e=true\/isW "pay" e=true)/\x=e.2.1) :
  b.outs=o/\b.fees=f/\b.pays=p/\b.turns=t/\b.rates=r/\b.lates=l/\b.spans=s/\b.dues=d/\ms=ns:=by
 subst e
 refine ⟨I.outs.eq D.o (.refl _),I.fees.eq D.f (.refl _),I.pays.eq D.p (.refl _),I.turns.eq D.t (.refl _),zpq D.r I.rates.1 I.rates.2,zpq D.l I.lates.1 I.lates.2,Spans.unique I.spans.1 D.s.1 fun x=>(I.spans.2 x).trans (D.s.2 x).symm,I.dues.eq D.d (.refl _),Sby.zhP up D.up fun x=>?_⟩
 rw[mem,dd,D.mem]
theorem zgT:∀ es:List Er,(prs "out" es).length+(prs "fee" es).length+(prs "pay" es).length+(dys "turn" es).length<=es.length
 | []=>by simp[prs,dys]
 | e::es=>by
  have ih:=zgT es
  have st:∀ w:Str,(prs w (e::es)).length=(if isW w e=true then 1 else 0)+(prs w es).length:=fun w=>by
   unfold prs
   by_cases c:isW w e=true
   ·rw[yar c,if_pos c];simp;omega
   ·rw[yas c,if_neg c];simp
  have sd:(dys "turn" (e::es)).length=(if isW "turn" e=true then 1 else 0)+(dys "turn" es).length:=by
   unfold dys
   by_cases c:isW "turn" e=true
   ·rw[yar c,if_pos c];simp;omega
   ·rw[yas c,if_neg c];simp
  rw[st,st,st,sd,ybd]
  obtain ⟨k,d,x⟩:=e
  have one:(if isW "out" (k,d,x)=true then 1 else 0)+(if isW "fee" (k,d,x)=true then 1 else 0)+(if isW "pay" (k,d,x)=true then 1 else 0)+(if isW "turn" (k,d,x)=true then 1 else 0)<=1:=by
   have one:∀ k:Ek,(if isW "out" (k,0,0)=true then 1 else 0)+(if isW "fee" (k,0,0)=true then 1 else 0)+(if isW "pay" (k,0,0)=true then 1 else 0)+(if isW "turn" (k,0,0)=true then 1 else 0)<=1:=fun k=>by cases k <;> decide
   exact one k
  omega
def Lv (n:Nat) (d:PyData):Prop:=PyData.canLay0 d=true/\PyData.depth d<=n/\PyData.eqv d d=true
theorem zo2 (n:Int):Lv 1 (.int n):=⟨by simp[PyData.canLay0],by simp[PyData.depth],by simp[PyData.eqv]⟩
theorem zpy {m:Nat} {dd:List PyData} (h:∀ d∈dd,Lv m d):PyData.canLayAll0 dd=true/\PyData.depthAll dd<=m/\PyData.eqvAll dd dd=true:=by
 induction dd with
 | nil=>simp[PyData.canLayAll0,PyData.depthAll,PyData.eqvAll]
 | cons d dd ih =>
  obtain ⟨a,b,c⟩:=ih fun x hx=>h x (yaj _ hx)
  obtain ⟨a',b',c'⟩:=h d yai
  simp only[PyData.canLayAll0,PyData.depthAll,PyData.eqvAll,a,a',c,c',Bool.and_self,true_and,and_true]
  omega
theorem zic {m:Nat} {dd:List PyData} (h:∀ d∈dd,Lv m d):Lv (m+1) (.list dd):=by
 obtain ⟨a,b,c⟩:=zpy h
 exact ⟨by simp only[PyData.canLay0];exact a,by simp only[PyData.depth];omega,by simp only[PyData.eqv];exact c⟩
theorem zsg {m:Nat} {dd:List PyData} (h:∀ d∈dd,Lv m d):Lv (m+1) (.tuple dd):=by
 obtain ⟨a,b,c⟩:=zpy h
 exact ⟨by simp only[PyData.canLay0];exact a,by simp only[PyData.depth];omega,by simp only[PyData.eqv];exact c⟩
theorem zlv {m:Nat} {d:PyData} (h:Lv m d) (hm:m<=20):SeqAt.shaped d=true:=by
 obtain ⟨a,b,c⟩:=h
 unfold SeqAt.shaped
 rw[a,Bool.true_and]
 exact decide_eq_true (by omega)
theorem ztw {m n:Nat} {d:PyData} (h:Lv m d) (l:m<=n):Lv n d:=⟨h.1,ycz h.2.1 l,h.2.2⟩
theorem zrg (l:List (Int × Int)):Lv 3 (.list (l.map zak)):=zic fun d hd=>by
 obtain ⟨s,_,rfl⟩:=yao.mp hd
 exact zsg fun x hx=>by
  simp only[yak,ybe,or_false] at hx
  rcases hx with rfl | rfl <;> exact zo2 _
theorem zrG (l:List Int):Lv 3 (.list (l.map PyData.int)):=ztw (zic fun d hd=>by
 obtain ⟨s,_,rfl⟩:=yao.mp hd
 exact zo2 _) (by decide)
theorem zrZ (b:BkT) (ns:List Int):Lv 4 (.list (zh5 b ns)):=zic fun d hd=>by
 simp only[zh5,yak,ybe,or_false] at hd
 rcases hd with rfl | rfl | rfl | rfl | rfl | rfl | rfl | rfl | rfl <;> first | exact zrg _ | exact zrG _
theorem zsh (k:Ek) (d x:Int):Lv 2 (.tuple (zc6 k d x)):=by
 refine ⟨?_,?_,zrQ k d x⟩
 ·cases k <;> simp[zc6,PyData.canLay0,PyData.canLayAll0] <;> decide +kernel
 ·cases k <;> simp[zc6,PyData.depth,PyData.depthAll]
theorem ztq {K:W.Frag} {G H:Hp} {xs:List V} {ds:List PyData} (h:LL (fun v d=>∃ q,v=.ref q/\Nl K G H q d) xs ds):zbD K H xs ds:=by
 induction h with
 | nil=>exact .nil
 | cons a _ ih =>
  obtain ⟨q,rfl,n⟩:=a
  exact .cons n.rd ih
theorem zq4 {K:W.Frag} {H:Hp} {xs:List V} {es:List Er} (h:LL (fun v (e:Er)=>∃ t,v=V.ref t/\H t=some (.tup (zhA e.1 e.2.1 e.2.2))) xs es):zbD K H xs (es.map fun e=>.tuple (zc6 e.1 e.2.1 e.2.2)):=by
 induction h with
 | nil=>exact .nil
 | cons a _ ih =>
  obtain ⟨t,rfl,e⟩:=a
  exact .cons (.tup (SqT.of e) (zsu _ _ _)) ih
theorem zhl {b:BkT} (I:zcm b) (x:Int):DDay b x↔∃ e∈b.es,(isW "out" e=true\/isW "fee" e=true\/isW "turn" e=true\/isW "pay" e=true)/\x=e.2.1:=by
 have pm:∀ w:Str,x∈(prs w b.es).map (·.1)↔∃ e∈b.es,isW w e=true/\x=e.2.1:=fun w=>by
  unfold prs
  rw[ybg,yao]
  exact ⟨fun ⟨e,a,c⟩=>⟨e,(yap.mp a).1,(yap.mp a).2,c.symm⟩,fun ⟨e,a,c,d⟩=>⟨e,yap.mpr ⟨a,c⟩,d.symm⟩⟩
 have tm:x∈dys "turn" b.es↔∃ e∈b.es,isW "turn" e=true/\x=e.2.1:=by
  unfold dys
  rw[yao]
  exact ⟨fun ⟨e,a,c⟩=>⟨e,(yap.mp a).1,(yap.mp a).2,c.symm⟩,fun ⟨e,a,c,d⟩=>⟨e,yap.mpr ⟨a,c⟩,d.symm⟩⟩
 unfold DDay
 rw[yba,yba,yal,yal,I.outs.mem,I.fees.mem,I.pays.mem,I.turns.mem,pm,pm,pm,tm]
 constructor
 ·rintro (((⟨e,a,c,d⟩ | ⟨e,a,c,d⟩) | ⟨e,a,c,d⟩) | ⟨e,a,c,d⟩)
  ·exact ⟨e,a,.inl c,d⟩
  ·exact ⟨e,a,.inr (.inl c),d⟩
  ·exact ⟨e,a,.inr (.inr (.inr c)),d⟩
  ·exact ⟨e,a,.inr (.inr (.inl c)),d⟩
 ·rintro ⟨e,a,c | c | c | c,d⟩
  ·exact .inl (.inl (.inl ⟨e,a,c,d⟩))
  ·exact .inl (.inl (.inr ⟨e,a,c,d⟩))
  ·exact .inr ⟨e,a,c,d⟩
  ·exact .inl (.inr ⟨e,a,c,d⟩)
def zi8 (K:W.Frag):Sp:=fun vs H Q _=>L2.Ee8 fun a p q A (b:BkT) (ns:List Int) rs bs=>L2.zsR (vs=[.ref a,.ref p,.ref q]) (zaU K H a A b) (zcm b) (SqL K H p (ns.map V.int)) (H q=some (.lst rs)) (RL3 H rs b.es) (b.es.length<=61) (0<=bs) ((∀ e∈b.es,OkE bs e)) (b.g=zbF ns) (b.kd=kindOf ns) (∀ H',Same H H'->Q (.bl true) H')
theorem zb2:zj ["_law_book", "_law_script", "_law_rows_here", "_law_k", "_law_found", "_law_one", "_law_mine", "_law_names"] qbd (zh zfy):=by walk_at "sp"
theorem zp1 (S:Src K mg "_law_is" zfy qbd) (T:Txt K mg) (zf5:Def P w K mg base 2 "_law_told" qbb (zhq K)) (zgW:Def P w K mg base 3 "_law_due" qak (zio P w K)) (zaX:zB P w K mg base 1 (cA K "Book") "entries" qaa (zcR K)) (zkq:∀ k:Ek,zB P w K mg base 2 (cA K k.cls) "row" qaa (zdg k K)) (zfo:Def P w K mg base 1 "_law_plain" qai (zhf K)) (ziP:∀ kd:Kd,zB P w K mg base 1 (cA K kd.cls) "name" qaa (zcH kd K)) (ze9:zB P w K mg base 1 (cA K "Book") "count" qaa (zg2 K)) (zC:Def P w K mg base 1 "_law_cell_at" qah (zar K)) (zeJ:zB P w K mg base 1 (cA K "Book") "grace" qaa (zhc K)) (za3:Def P w K mg base 2 "_law_grace" qab (zd7 K)):Def P w K mg base 4 "_law_is" qbd (zi8 K):=by
 exists S.ok,zb2,0
 all_goals obtain ⟨a,p,q,A,b,ns,rs,bs,rfl,B,I,hp,hq,hR,hl,b0,ok,eg,ek,h⟩:=h
 ·rfl
 refine ⟨_,(zf (zbW PassesOwn.never rfl (zkz rfl T.zgg (za zd zc)) (zO (i:=3) zb2.nd rfl (by walk_at "lc"))
  (zf (zE (i:=4) zb2.nd rfl (by walk_at "lc") (zy zf5 hr (za (pv 0) zc)))
  (zf (zaa (PW.pt (zow (zw (zdO hr.units) (pv 4) (zy zgW hr (za (pv 2) zc)) (nomark _)) (zlJ (zw (zdO hr.units) (zcC (ix:=[]) ⟨rfl,by decide +kernel,rfl,by decide +kernel,rfl,(show (["_law_one"]:List Str).Nodup by decide +kernel),by walk_at "cap", by walk_at "sub", by walk_at "has"⟩ (zM (pv 4)) (fun b=>(zgB (zfc (zI (zl2 K) rfl T.zat PyProof.Rows.boot_isinstance (za (pv 0) (za (zjK (v:=.ty "list") rfl T.zbt PyProof.Rows.boot_list rfl) zc)))))) (fun b=>(pv 0))) (zW zc) (nomark _)))))
  (zg (zk zaq))
   zL)
  (zf (zE (i:=6) zb2.nd rfl (by walk_at "lc") (zal zaX T.zv hr (pv 0)))
  (zf (zaa (zw (zdO hr.units) (zgv (ix:=[]) ⟨rfl,by decide +kernel,rfl,by decide +kernel,rfl,(show (["_law_entry"]:List Str).Nodup by decide +kernel),by walk_at "cap", by walk_at "sub", by walk_at "has"⟩ (zM (pv 6)) (fun b=>(zc7 K zkq T.clE hr (pv 0)))) (zgv (ix:=[]) ⟨rfl,by decide +kernel,rfl,by decide +kernel,rfl,(show (["_law_row_here"]:List Str).Nodup by decide +kernel),by walk_at "cap", by walk_at "sub", by walk_at "has"⟩ (zM (pv 2)) (fun b=>(zy zfo hr (za (pv 0) zc)))) (nomark _))
  (zg (zk zaq))
   zL)
  (zf (zan (zjp PySem.F.plainAttrs_list PySem.F.slot_list_clear PySem.F.type_list_clear zms (pv 6)))
  (zg (zbW PassesOwn.never rfl (zM (pv 4)) (zO (i:=5) zb2.nd rfl (by walk_at "lc"))
  (zf (zan (zer PySem.F.plainAttrs_list PySem.F.slot_list_append PySem.F.type_list_append zaD (pv 5) (za (zN (za zd (za zd zc))) zc)))
  (zg (zan (zjp PySem.F.plainAttrs_list PySem.F.slot_list_reverse PySem.F.type_list_reverse zjf (pv 5)))))))))))))
  (zf (zE (i:=7) zb2.nd rfl (by walk_at "lc") (zW (za zp (za zp (za zp (za zp zc))))))
  (zg (zk (zm2 (zhZ zah (zal zeJ T.zv hr (pv 0)) (zy za3 hr (za (pv 1) zc)) (nomark _)) (zl6 (zhZ zah (zpv ziP T.cls hr (zal ze9 T.zv hr (pv 0))) (zx zA (pv 7) (zo zK (zy zC hr (za (pv 1) (za zd zc))) zd) (fun _ _=>rfl)) (nomark _)))))))),?_⟩
 have sz:=sizeLine_eq
 have wl:=zgT b.es
 have w1:=zbI I.outs
 have w2:=zbI I.fees
 have w3:=zbI I.pays
 have w4:b.turns.length<=(dys "turn" b.es).length:=za6 (Sby.zjw I.turns.up) fun k hk=>(I.turns.mem k).mp hk
 have d0:∀ e∈b.es,0<=e.2.1:=fun e he=>by have:=(ok e he).2.1;ac_rfl
 have d1:∀ e∈b.es,∀ e'∈b.es,e.2.1<e'.2.1+200:=fun e he e' he'=>by have:=(ok e he).2.1;have:=(ok e' he').2.1;ac_rfl
 have d2:∀ e∈b.es,isW "still" e=true->e.2.1<e.2.2/\e.2.2<=e.2.1+40:=fun e he c=>by
  obtain ⟨_,_,v1,v2⟩:=ok e he
  obtain ⟨k,d,x⟩:=e
  have ew:k.word=("still" : Str):=V.str.inj (of_decide_eq_true c)
  obtain rfl:k=.still:=by cases k <;> first | rfl | exact absurd ew (by decide)
  have:=v2 rfl
  have:d+1<=x/\x<=1000000:=v1
  exact ⟨by show d<x;ac_rfl,by show x<=d+40;ac_rfl⟩
 have rl:=hR.length
 have df:∃ td:List Int,td.length<=61/\∀ d,DDay b d->d∈td:=⟨b.es.map (·.2.1),by rw[yab];exact hl,fun d hd=>by
  obtain ⟨e,he,_,rfl⟩:=(zhl I d).mp hd
  exact ybv he⟩
 nofun
 refine zhy (fun i σ H'=>L2.Ee4 fun (z1 z2 z3 z4:Option V)=>Same H H'/\σ=[some (.ref a),some (.ref p),some (.ref q),z1,z2,z3,z4,none]) ⟨_,_,_,_,Same.refl _,rfl⟩ ?_ ?_
 ·rintro i σ H1 hi ⟨z1,z2,z3,z4,s1,rfl⟩
  have B1:=B.same s1
  have hq1:=s1 _ _ hq
  have hR1:=hR.same s1
  nofun
  refine ⟨a,A,b,rfl,B1,by ac_rfl,by ac_rfl,df,fun pf qs ms H2 npf s2 epf up mem hN nqp=>?_⟩
  have nl:=hN.length
  nofun
  refine ⟨q,rs,b.es,rfl,s2 _ _ hq1,hR1.same s2,hl,d0,d1,d2,fun v o f pa t r l sp du ns' H3 s3 DI rv=>?_⟩
  obtain ⟨rfl,rfl,rfl,rfl,rfl,rfl,rfl,rfl,rfl⟩:=zqs I rfl DI up mem (zhl I)
  have lv:=zrZ b ms
  nofun
  refine ⟨.list (zh5 b ms),.list (zh5 b ms),.lst (SqL.of (s3 _ _ epf)) (ztq (hN.imp fun v d ⟨q,e,n⟩=>⟨q,e,n.same s3⟩)),rv,zlv lv (by decide),zlv lv (by decide),?_⟩
  rw[lv.2.2]
  nofun
  refine ⟨⟨_,SqL.of (s3 _ _ epf)⟩,fun l4 nl4=>?_⟩
  refine zdm (zQ (SqL.of (s3 _ _ epf))) nl4 (by rw[nl];show 9<=_;ac_rfl) (zh5 b ms) nl.symm (fun _=>false) (fun _ _ _=>True) (fun _ _ _ _ _ q=>q) (fun _ _ _ _ _ _ q=>q) ?_ (fun i x e H' Q' hx he z=>by cases z) ?_
  ·rintro i x e H' Q' hx he sH hq'
   obtain ⟨e',he',q',rfl,n'⟩:=hN.get hx
   obtain ⟨ys,ey,_⟩:=n'.lst
   nofun
   exact ⟨_,_,_,_,rfl,.lst ((s3.trans sH) _ _ ey),rfl,true,rfl,hq'⟩
  rintro ys H4 s4 e4 hL4
  have ny:ys=[]:=by
   have:=hL4.length
   rw[ycj.mpr (fun _ _=>by simp)] at this
   exact ycb.mp this
  subst ny
  nofun
  intro l5 n5
  have s5:=zb n5 (.lst [])
  have e5:=zq (.lst []) n5
  refine ⟨.list [],.list [],.lst (SqL.of (s5 _ _ e4)) .nil,.lst (SqL.of e5) .nil,rfl,rfl,?_⟩
  have s35:=s3.trans (s4.trans s5)
  generalize upd H4 l5 (.lst [])=H5 at s5 e5 s35 ⊢
  rw[show PyData.eqv (.list []) (.list [])=true from zmD []]
  have s25:=s2.trans s35
  have B5:=B1.same s25
  have hq5:=s25 _ _ hq1
  have hR5:=hR1.same s25
  nofun
  refine ⟨a,A.dx,_,rfl,B5.ins,rfl,a,A,b,rfl,B5,fun pm xm nm hE=>?_⟩
  have xml:=hE.length
  have s6:=zb nm (.lst xm)
  have e6:=zq (.lst xm) nm
  have hE6:=hE.same s6
  have hq6:=s6 _ _ hq5
  have hR6:=hR5.same s6
  have s16:=s25.trans s6
  generalize upd H5 pm (.lst xm)=H6 at s6 e6 hE6 hq6 hR6 s16 ⊢
  nofun
  refine ⟨⟨_,SqL.of e6⟩,fun l7 n7=>?_⟩
  refine comp_map (zQ (SqL.of e6)) n7 (by ac_rfl) b.es xml.symm (fun H' v (e:Er)=>∃ t,v=V.ref t/\H' t=some (.tup (zhA e.1 e.2.1 e.2.2))) (fun v e H1 H2 s ⟨t,a1,a2⟩=>⟨t,a1,s _ _ a2⟩) (fun v e H1 ys zs hL ⟨t,a1,a2⟩=>⟨t,a1,by rw[zi (zaj a2 hL (by intro z;cases z))];exact a2⟩) ?_ ?_
  ·rintro i x e H' Q' hx he sH hq'
   obtain ⟨e',he',x',dx',rfl,hi'⟩:=(hE6.same sH).get hx
   obtain rfl:e'=e:=Option.some.inj (he'.symm.trans he)
   nofun
   exact ⟨e'.1,x',dx',_,rfl,hi',zqW _ _ _,x',dx',e'.2.1,e'.2.2,rfl,hi',fun q nq=>hq' _ _ (zb nq _) ⟨q,rfl,zq _ nq⟩⟩
  rintro y7 H7 s7 e7 hL7
  have hq7:=s7 _ _ hq6
  have hR7:=hR6.same s7
  nofun
  refine ⟨⟨_,SqL.of hq7⟩,fun l8 n8=>?_⟩
  refine comp_map (zQ (SqL.of hq7)) n8 (by ac_rfl) b.es rl.symm (fun H' v (e:Er)=>∃ t,v=V.ref t/\H' t=some (.tup (zhA e.1 e.2.1 e.2.2))) (fun v e H1 H2 s ⟨t,a1,a2⟩=>⟨t,a1,s _ _ a2⟩) (fun v e H1 ys zs hL ⟨t,a1,a2⟩=>⟨t,a1,by rw[zi (zaj a2 hL (by intro z;cases z))];exact a2⟩) ?_ ?_
  ·rintro i x e H' Q' hx he sH hq'
   obtain ⟨e',he',t',rfl,ht'⟩:=(hR7.same sH).get hx
   obtain rfl:e'=e:=Option.some.inj (he'.symm.trans he)
   nofun
   exact ⟨t',e'.1,e'.2.1,e'.2.2,rfl,ht',(ok e' (yah he)).1,fun t2 H2 s2 e2=>hq' _ _ s2 ⟨t2,rfl,e2⟩⟩
  rintro y8 H8 s8 e8 hL8
  have lr:Lv 3 (.list (b.es.map fun e=>.tuple (zc6 e.1 e.2.1 e.2.2))):=zic fun d hd=>by
   obtain ⟨e,_,rfl⟩:=yao.mp hd
   exact zsh _ _ _
  nofun
  refine ⟨.list (b.es.map fun e=>.tuple (zc6 e.1 e.2.1 e.2.2)),.list (b.es.map fun e=>.tuple (zc6 e.1 e.2.1 e.2.2)),.lst (SqL.of (s8 _ _ e7)) (zq4 (hL7.imp fun v e ⟨t,a1,a2⟩=>⟨t,a1,s8 _ _ a2⟩)),.lst (SqL.of e8) (zq4 hL8),zlv lr (by decide),zlv lr (by decide),?_⟩
  rw[lr.2.2]
  have s68:=s7.trans s8
  have e6':=s68 _ _ e6
  have s18:=s16.trans s68
  nofun
  refine ⟨.inl ⟨rfl,_,SqL.of e6'⟩,pm,xm,rfl,rfl,e6',?_⟩
  have s19:Same H1 (upd H8 pm (.lst [])):=zD s18 (zt s25 nm)
  have s38:=s35.trans (s6.trans s68)
  have epf9:(upd H8 pm (.lst [])) pf=some (.lst (qs.map V.ref)):=by
   rw[zi (fun z=>by rw[<-z,s35 _ _ epf] at nm;cases nm)]
   exact s38 _ _ epf
  have eq9:∀ x∈qs,H1 x=none/\∃ ys,(upd H8 pm (.lst [])) x=some (.lst ys)/\ys.length<=1000:=fun x hx=>by
   obtain ⟨i,hi⟩:=ybq.mp hx
   obtain ⟨d,_,x',ex,n⟩:=hN.get (i:=i) (v:=.ref x) (by rw[yam,hi];rfl)
   cases ex
   obtain ⟨ys,e,l⟩:=n.lst
   refine ⟨n.new,ys,?_,l⟩
   rw[zi (fun z=>by rw[<-z,s35 _ _ e] at nm;cases nm)]
   exact s38 _ _ e
  have ql:qs.length=9:=by rw[yab] at nl;exact nl
  generalize upd H8 pm (.lst [])=H9 at s19 epf9 eq9 ⊢
  nofun
  refine ⟨⟨_,SqL.of epf9⟩,zbV (xs:=qs.map V.ref) (fun j σ H'=>∃ z:Option V,(Same H1 H'/\H' pf=some (.lst (qs.map V.ref))/\∀ x∈qs,∃ ys,H' x=some (.lst ys)/\ys.length<=1000+j)/\σ=[some (.ref a),some (.ref p),some (.ref q),some (.int (0+(i:Int))),some (.ref pf),z,some (.ref pm),none]) ⟨_,⟨s19,epf9,fun x hx=>(eq9 x hx).2⟩,rfl⟩ ?_ ?_ ?_⟩
  ·rintro j σ H' _ ⟨z,⟨_,e,_⟩,_⟩
   exact SqL.of e
  ·rintro j x σ H' hx ⟨z,⟨sH,ePf,eQs⟩,rfl⟩
   rw[yam] at hx
   obtain ⟨x,hm,rfl⟩:=Option.map_eq_some_iff.mp hx
   have mx:=yah hm
   have jl:=(yad.mp hm).1
   obtain ⟨ys,ey,yl⟩:=eQs x mx
   nofun
   refine ⟨.inl ⟨rfl,_,SqL.of ey⟩,?_⟩
   nofun
   intro t nt
   have st:=zb nt (.tup [.int 7,.int 7])
   generalize upd H' t (.tup [.int 7,.int 7])=H10 at st ⊢
   have ey2:=st _ _ ey
   refine ⟨x,_,_,rfl,rfl,ey2,by ac_rfl,?_⟩
   have ey3:(upd H10 x (.lst (ys++[.ref t]))) x=some (.lst (ys++[.ref t])):=ze
   nofun
   refine ⟨.inl ⟨rfl,_,SqL.of ey3⟩,x,_,rfl,rfl,ey3,?_⟩
   rw[zam]
   have nx:=(eq9 x mx).1
   refine ⟨_,⟨zD (sH.trans st) nx,by rw[zi (nqp x mx).symm];exact st _ _ ePf,fun y hy=>?_⟩,rfl⟩
   by_cases c:y=x
   ·subst c
    exact ⟨_,ze,by rw[ycs,yaf];simp;ac_rfl⟩
   ·obtain ⟨zs,ez,zl⟩:=eQs y hy
    exact ⟨zs,by rw[zi c];exact st _ _ ez,by ac_rfl⟩
  ·rintro σ H' ⟨z,⟨sH,_,_⟩,rfl⟩
   exact ⟨_,_,_,_,s1.trans sH,rfl⟩
 ·rintro σ H1 ⟨z1,z2,z3,z4,s1,rfl⟩
  nofun
  intro pn npn
  have s2:=s1.trans (zb npn (.lst [.str "plain", .str "bank", .str "thirty", .str "exact"]))
  have en:=zq (.lst [.str "plain", .str "bank", .str "thirty", .str "exact"]) npn
  generalize upd H1 pn (.lst [.str "plain", .str "bank", .str "thirty", .str "exact"])=H2 at s2 en ⊢
  have B2:=B.same s2
  have hp2:=s2.seq hp
  nofun
  refine ⟨a,A.dx,_,rfl,B2.ins,rfl,a,A,b,rfl,B2,?_⟩
  nofun
  refine ⟨p,ns,rfl,hp2,?_⟩
  nofun
  rotate_left
  ·rename_i c
   exact absurd eg c
  refine ⟨a,A.dx,_,rfl,B2.ins,rfl,a,A,b,rfl,B2,?_⟩
  nofun
  refine ⟨b.kd,A.c,rfl,B2.cnt,A.c,rfl,?_⟩
  nofun
  refine ⟨p,ns,0,rfl,hp2,?_⟩
  nofun
  have c0:=ydt (cellAt ns 0) (show (4:Int)≠0 by decide)
  have c1:=yds (cellAt ns 0) (show (0:Int)<4 by decide)
  have at_:atI [V.str "plain", .str "bank", .str "thirty", .str "exact"] (cellAt ns 0 % 4)=some (.str (nm b.kd)):=by
   rw[ek]
   unfold kindOf
   generalize cellAt ns 0=c at c0 c1 ⊢
   dsimp only
   rcases (show c % 4=0\/c % 4=1\/c % 4=2\/c % 4=3 by ac_rfl) with e | e | e | e <;> rw[e] <;> rfl
  refine ⟨pn,_,_,_,rfl,rfl,SqL.of en,at_,?_⟩
  nofun
  exact qb (h _ s2) (by simp)
def zck (K:W.Frag):Sp:=fun vs H Q E=>L2.Ee6 fun a q A (b:BkT) ys (fs:List Er)=>L2.Aa7 (vs=[.ref a,.ref q]) (zaU K H a A b) ((0<=b.g/\b.g<=366)) (H q=some (.lst ys)) (EL K H ys fs) (b.es.length+fs.length<=5000) (((500<b.es.length+fs.length/\∀ H',Same H H'->E (.ref (cA K "TooMany")) none H')\/(Fd (b.es++fs)/\(∀ e∈b.es++fs,0<=e.2.1)/\∀ a' A' (b':BkT) H',H a'=none->Same H H'->Nw H A'->zaU K H' a' A' b'->zcm b'->b'.kd=b.kd->b'.g=b.g->b'.es=b.es++fs->Q (.ref a') H')))
theorem zih:zj qao qao (zh zbB):=by walk_at "sp"
theorem ziT (S:zr K (cA K "Book") "with_more" "Book.with_more" zbB qao) (T:Txt K mg) (zaA:zdE P w K mg base 4 (cA K "Book") "__init__" qam (zcJ K)):zdE P w K mg base 6 (cA K "Book") "with_more" qao (zck K):=by
 exists S.okX,zih,0
 all_goals obtain ⟨a,q,A,b,ys,fs,rfl,B,⟨g0,g1⟩,hq,hE,hz,h⟩:=h
 ·rfl
 refine ⟨_,(zg (zk (zfr (E:=E) T.zew zaA hr zq7 T.zgC (za (zao T.zv T.zaR (pv 0)) (za (zao T.zv T.zaP (pv 0)) (za (zo zbT (zao T.zv T.zaE (pv 0)) (pv 1)) zc)))))),?_⟩
 have sz:=sizeLine_eq
 obtain ⟨xs,eX,hX⟩:=B.ents
 have xl:=hX.length
 have yl:=hE.length
 nofun
 refine ⟨a,A.dx,_,_,rfl,B.ins,rfl,?_⟩
 nofun
 refine ⟨a,A.dx,_,_,rfl,B.ins,rfl,?_⟩
 nofun
 refine ⟨a,A.dx,_,_,rfl,B.ins,rfl,?_⟩
 nofun
 refine ⟨A.e,q,xs,ys,rfl,rfl,eX,hq,by ac_rfl,fun l nl=>?_⟩
 have s1:=zb nl (.lst (xs++ys))
 have eL:=zq (.lst (xs++ys)) nl
 have hL:EL K (upd H l (.lst (xs++ys))) (xs++ys) (b.es++fs):=LL.append (hX.same s1) (hE.same s1)
 have hc:=B.cnt.same s1
 generalize upd H l (.lst (xs++ys))=H2 at s1 eL hL hc ⊢
 nofun
 intro a' dx na nd ne
 have s3:Same H2 (upd (upd H2 dx (.own a')) a' (.ins (cA K "Book") dx [])):=(zb nd _).trans (zb (by rw[zi ne.symm];exact na) _)
 refine ⟨a',dx,l,_,_,xs++ys,b.es++fs,H2,rfl,ze,⟨na,s3⟩,SqL.of eL,hL,.inr ⟨A.c,b.kd,b.g,rfl,rfl,hc,⟨g0,g1⟩,?_⟩⟩
 rcases h with ⟨hm,h⟩ | ⟨hl,d0,h⟩
 ·exact .inl ⟨by rw[yaf];exact hm,fun H' s'=>h _ (s1.trans (s3.trans s'))⟩
 ·exact .inr ⟨hl,d0,fun A' b' H3 sH3 N' B' I e1 e2 e3=>⟨rfl,h a' A' b' H3 (zt s1 na) (s1.trans sH3) (N'.gone s1) B' I e1 e2 e3⟩⟩
def zfG (K:W.Frag):Sp:=fun vs H Q _=>L2.Ee6 fun x y p xs (es:List Er) k=>L2.Aa5 (vs=[x,y,.ref p]) (SqL K H p xs) (EL K H xs es) (((zi3 K H x y/\k=1)\/∃ c kd g,x=.ref c/\y=.int g/\zbb K H c kd/\(0<=g/\g<=366)/\((500<es.length/\k=2)\/(Fd es/\(∀ e∈es,0<=e.2.1)/\k=0)))) (∀ q H',H q=none->Same H H'->H' q=some (.tup [.int k,.bl false,.bl true])->Q (.ref q) H')
theorem zhB {K:W.Frag} {H H':Hp} {x:V} {t:Value} (h:zbc K H x t) (s:Same H H'):zbc K H' x t:=by
 cases h with
 | non=>exact .non
 | bl x=>exact .bl x
 | int i=>exact .int i
 | str x=>exact .str x
 | flt x=>exact .flt x
 | lst e=>exact .lst (s _ _ e)
 | frz e=>exact .frz (s _ _ e)
 | tup e=>exact .tup (s _ _ e)
 | dK e=>exact .dK (s _ _ e)
 | ins e cl ha hn htk hm=>exact .ins (s _ _ e) cl ha hn htk hm
theorem zqq {K:W.Frag} {H H':Hp} {x y:V} (h:zi3 K H x y) (s:Same H H'):zi3 K H' x y:=by
 rcases h with ⟨t,a,b⟩ | ⟨c,kd,Tk,a,b,d,e⟩
 ·exact .inl ⟨t,zhB a s,b⟩
 ·exact .inr ⟨c,kd,Tk,a,b.same s,⟨zhB d.1 s,d.2⟩,e⟩
theorem zfw:zj ["_law_count_here", "_law_grace_here", "_law_entries", "e"] qbe (zh zcc):=by walk_at "sp"
theorem zkr (S:Src K mg "_law_refused" zcc qbe) (T:Txt K mg) (zaA:zdE P w K mg base 4 (cA K "Book") "__init__" qam (zcJ K)):Def P w K mg base 6 "_law_refused" qbe (zfG K):=by
 exists S.ok,zfw,0
 all_goals obtain ⟨x,y,p,xs,es,k,rfl,hp,hE,hk,h⟩:=h
 ·rfl
 refine ⟨_,(zf (zr7 [none,none,none,none] zfw.nd (j:=3) rfl rfl T.zcG T.zcE (fun E xe pn px=>(zg (zan (zfr (E:=E) T.zew zaA hr px T.zgC (za (pv 0) (za (pv 1) (za (pv 2) zc))))))) (fun e=>(zg (zk (zN (za zd (za (zI (zfs K) rfl T.zat PyProof.Rows.boot_isinstance (za (pv 3) (za (zb1 (v:=.ref (cA K "TooMany")) rfl T.zcE rfl) zc))) (za (zI (zfs K) rfl T.zat PyProof.Rows.boot_isinstance (za (pv 3) (za (zb1 (v:=.ref (cA K "LoanError")) rfl T.zdF rfl) zc))) zc))))))) (fun e=>(zg (zk (zN (za zd (za (zI (zfs K) rfl T.zat PyProof.Rows.boot_isinstance (za (pv 3) (za (zb1 (v:=.ref (cA K "NoTerms")) rfl T.zcG rfl) zc))) (za (zI (zfs K) rfl T.zat PyProof.Rows.boot_isinstance (za (pv 3) (za (zb1 (v:=.ref (cA K "LoanError")) rfl T.zdF rfl) zc))) zc))))))))
  (zg (zk (zN (za zd (za zaq (za zaq zc))))))),?_⟩
 have sz:=sizeLine_eq
 walk_at "rd1"
 rename_i v1
 refine zry fun Ex hEx=>?_
 have hand1:∀ H2:Hp,Same H H2->k=1->Ex (.ref (cA K "NoTerms")) none H2:=fun H2 s2 ek=>by
  subst ek
  refine hEx _ _ _ ⟨_,rfl,.inl ⟨T.e_NoTerms_NoTerms,fun e ne=>?_⟩⟩
  have se:=zb ne (zdp e (.ref (cA K "NoTerms")))
  have ee:=zq (zdp e (.ref (cA K "NoTerms"))) ne
  generalize upd H2 e (zdp e (.ref (cA K "NoTerms")))=H3 at se ee ⊢
  have ix:=IsX.o ee
  nofun
  refine ⟨e,_,_,_,rfl,ix,T.z_NoTerms,T.k_NoTerms_TooMany,?_⟩
  nofun
  refine ⟨e,_,_,_,rfl,ix,T.z_NoTerms,T.k_NoTerms_LoanError,?_⟩
  nofun
  intro q nq
  exact h q _ (zt (s2.trans se) nq) (s2.trans (se.trans (zb nq _))) ze
 have hand2:∀ H2:Hp,Same H H2->k=2->Ex (.ref (cA K "TooMany")) none H2:=fun H2 s2 ek=>by
  subst ek
  refine hEx _ _ _ ⟨_,rfl,.inr ⟨T.eF_TooMany_NoTerms,T.e_TooMany_TooMany,fun e ne=>?_⟩⟩
  have se:=zb ne (zdp e (.ref (cA K "TooMany")))
  have ee:=zq (zdp e (.ref (cA K "TooMany"))) ne
  generalize upd H2 e (zdp e (.ref (cA K "TooMany")))=H3 at se ee ⊢
  have ix:=IsX.o ee
  nofun
  refine ⟨e,_,_,_,rfl,ix,T.z_TooMany,T.k_TooMany_NoTerms,?_⟩
  nofun
  refine ⟨e,_,_,_,rfl,ix,T.z_TooMany,T.k_TooMany_LoanError,?_⟩
  nofun
  intro q nq
  exact h q _ (zt (s2.trans se) nq) (s2.trans (se.trans (zb nq _))) ze
 nofun
 intro a dx na nd ne
 have s3:Same H (upd (upd H dx (.own a)) a (.ins (cA K "Book") dx [])):=(zb nd _).trans (zb (by rw[zi ne.symm];exact na) _)
 refine ⟨a,dx,p,x,y,xs,es,H,rfl,ze,⟨na,s3⟩,hp,hE,?_⟩
 rcases hk with ⟨hb,ek⟩ | ⟨c,kd,g,rfl,rfl,hc,hg,hk⟩
 ·exact .inl ⟨zqq hb s3,fun H' s'=>hand1 _ (s3.trans s') ek⟩
 refine .inr ⟨c,kd,g,rfl,rfl,hc,hg,?_⟩
 rcases hk with ⟨hm,ek⟩ | ⟨hw,d0,ek⟩
 ·exact .inl ⟨hm,fun H' s'=>hand2 _ (s3.trans s') ek⟩
 refine .inr ⟨hw,d0,fun A b H' s' N' B' I' e1 e2 e3=>⟨rfl,?_⟩⟩
 subst ek
 show v1 { nx:=fun x H'=>Q V.non H',rt:=Q } [] H'
 nofun
 intro q nq
 exact h q _ (zt s' nq) (s'.trans (zb nq _)) ze
theorem zte {X:Cx}:Lets X (fun _ _ _=>False):=fun _ _ _ _ _ _ _ _ _ _ _ _ _ _ _ _ z=>z.elim
def zfz (K:W.Frag):Sp:=fun vs H Q _=>L2.Ee6 fun a q A (b:BkT) ys (fs:List Er)=>L2.Aa8 (vs=[.ref a,.ref q]) (zaU K H a A b) ((0<=b.g/\b.g<=366)) (H q=some (.lst ys)) (EL K H ys fs) (b.es.length+fs.length<=5000) (500<b.es.length+fs.length) (∀ H',Same H H'->Q (.bl true) H')
theorem zjj:zj qav qav (zh zb6):=by walk_at "sp"
theorem zjL (S:Src K mg "_law_crowded" zb6 qav) (T:Txt K mg) (zax:zdE P w K mg base 6 (cA K "Book") "with_more" qao (zck K)):Def P w K mg base 7 "_law_crowded" qav (zfz K):=by
 exists S.ok,zjj,0
 all_goals obtain ⟨a,q,A,b,ys,fs,rfl,B,hg,hq,hE,hz,hm,h⟩:=h
 ·rfl
 refine ⟨_,(zf (zrX (E:=fun _ _ _=>False) [none,none] zte T.zcE (fun E xe pn px=>(zg (zan (zhs (E:=E) zax T.zv hr px (pv 0) (za (pv 1) zc))))) (fun e=>(zg (zk zaq))))
  (zg (zk zaq))),?_⟩
 have sz:=sizeLine_eq
 nofun
 refine ⟨a,A.dx,_,rfl,B.ins,rfl,?_⟩
 nofun
 refine ⟨a,q,A,b,ys,fs,rfl,B,hg,hq,hE,hz,.inl ⟨hm,fun H' s'=>?_⟩⟩
 refine ⟨_,rfl,.inl ⟨T.e_TooMany_TooMany,?_⟩⟩
 nofun
 exact h _ s'
theorem ze6 {K:W.Frag} {H:Hp} {x dx:Addr} {k:Ek} {d v:Int} (e:zZ K H x dx k d v):∀ n:Nat,EL K H (yae n (.ref x)) (yae n (k,d,v))
 | 0=>.nil
 | n+1=>.cons ⟨x,dx,rfl,e⟩ (ze6 e n)
theorem zia {w:Str} {e:Er} (h:isW w e=false) (n:Nat):prs w (yae n e)=[]:=by
 unfold prs
 rw[ycj.mpr fun x hx=>by rw[(yby.mp hx).2,h];decide]
 rfl
theorem zbq {w:Str} {k:Ek} {d x:Int} (h:k.word≠w):isW w (k,d,x)=false:=decide_eq_false fun z=>h (V.str.inj z)
theorem znX {e:Er} {n:Nat} (hn:n<=500) (h1:isW "rate" e=false) (h2:isW "late" e=false) (h3:isW "still" e=false):Fd (yae n e) :=
 ⟨by rw[yax];exact hn,by rw[zia h1];decide,by rw[zia h2];decide,by rw[zia h3];decide,[e.2.1],(show 1<=60 by decide),fun x hx=>by rw[(yby.mp hx).2];exact ybh.mpr rfl⟩
theorem zfh {v:V} (n:Nat):(yae n [v]).flatten=yae n v:=by
 induction n with
 | zero=>rfl
 | succ n ih=>rw[ybi,yca,ih];rfl
theorem zdX (k:Int):SeqAt.shaped (.tuple [.int k,.bool false,.bool true])=true/\PyData.eqv (.tuple [.int k,.bool false,.bool true]) (.tuple [.int k,.bool false,.bool true])=true:=zr6 fun d hd=>by
 simp only[yak,ybe,or_false] at hd
 rcases hd with rfl | rfl | rfl
 ·exact zrL _
 ·exact zmr _
 ·exact zmr _
theorem rd3 {K:W.Frag} {H:Hp} {q:Addr} {k:Int} (e:H q=some (.tup [.int k,.bl false,.bl true])):RdV K H (.ref q) (.tuple [.int k,.bool false,.bool true]):=.tup (SqT.of e) (.cons (.int _) (.cons (.bl _) (.cons (.bl _) .nil)))
def ze0 (K:W.Frag):Sp:=fun vs H Q _=>∃ (p:Addr) (ns:List Int) (d:Int),vs=[.ref p,.int d]/\SqL K H p (ns.map V.int)/\0<=d/\∀ H',Same H H'->Q (.bl true) H'
theorem za8:zj ["_law_script", "_law_day", "_law_cell", "_law_many", "_law_wrong"] qbf (zh zbP):=by walk_at "sp"
theorem zjn (S:Src K mg "_law_no_terms" zbP qbf) (T:Txt K mg) (zC:Def P w K mg base 1 "_law_cell_at" qah (zar K)) (zb8:zB P w K mg base 2 (cA K "Pay") "__init__" qad (zag K)) (zaW:Def P w K mg base 6 "_law_refused" qbe (zfG K)):Def P w K mg base 7 "_law_no_terms" qbf (ze0 K):=by
 exists S.ok,za8,0
 all_goals obtain ⟨p,ns,d,rfl,hp,d0,h⟩:=h
 ·rfl
 refine ⟨_,(zf (zE (i:=2) za8.nd rfl (by walk_at "lc") (zy zC hr (za (pv 0) (za zd zc))))
  (zf (zE (i:=3) za8.nd rfl (by walk_at "lc") (zo zjd (zW (za (zaH T.zjD zb8 hr T.zls (za (pv 1) (za zd zc))) zc)) (zx zA (zW (za zd (za zd zc))) (zo zK (pv 2) zd) (fun _ _=>rfl))))
  (zf (zE (i:=4) za8.nd rfl (by walk_at "lc") (zx zA (zW (za zpf (za zd (za zp (za zd (za zaq zc)))))) (zo zK (zo zbs (pv 2) zd) zd) (fun _ _=>rfl)))
  (zf (zaa (zw (zdO hr.units) (zy zaW hr (za (pv 4) (za (zx zA (zW (za zd (za (zdA zcp zd) zc))) (zo zK (zo zbs (pv 2) zd) zd) (fun _ _=>rfl)) (za (pv 3) zc)))) (zN (za zd (za zaq (za zaq zc)))) (nomark _))
  (zg (zk zaq))
   zL)
  (zf (zE (i:=4) za8.nd rfl (by walk_at "lc") (zx zA (zW (za zpf (za (zdA zcp zd) (za zd (za zaq (za zp (za (zN (za zd zc)) (za (zcb (v:=1000000000000000000000000000000) (by decide +kernel) ⟨by decide,by decide,by decide⟩) zc)))))))) (zo zK (zo zbs (pv 2) zd) zd) (fun _ _=>rfl)))
  (zf (zaa (zw (zdO hr.units) (zy zaW hr (za (zds (T.mk0 .bank) T.zgj) (za (pv 4) (za (pv 3) zc)))) (zN (za zd (za zaq (za zaq zc)))) (nomark _))
  (zg (zk zaq))
   zL)
  (zf (zaa (zw (zdO hr.units) (zy zaW hr (za (zds (T.mk0 .bank) T.zgj) (za zd (za (zbj zcd (pv 3) zcB (zbd zd)) zc)))) (zN (za zd (za zaq (za zaq zc)))) (nomark _))
  (zg (zk zaq))
   zL)
  (zg (zk (zhZ (zsm hr.units) (zy zaW hr (za (zds (T.mk0 .bank) T.zgj) (za zd (za (pv 3) zc)))) (zx zA (zW (za (zN (za zd (za zaq (za zaq zc)))) (za (zN (za zd (za zaq (za zaq zc)))) zc))) (zo zK (pv 2) zd) (fun _ _=>rfl)) (nomark _))))))))))),?_⟩
 have sz:=sizeLine_eq
 nofun
 refine ⟨p,ns,24,rfl,hp,?_⟩
 generalize cellAt ns 24=c
 nofun
 intro x dx nx nd ne
 refine ⟨x,_,dx,d,1,rfl,ze,T.clE .pay,T.zS .pay,T.zaC .pay,rfl,?_⟩
 rw[zam]
 have s1:Same H (upd (upd H dx (.own x)) x (.ins (cA K "Pay") dx [("day", V.int d),("amount", V.int 1)])):=(zb nd _).trans (zb (by rw[zi ne.symm];exact nx) _)
 have e1:zZ K (upd (upd H dx (.own x)) x (.ins (cA K "Pay") dx [("day", V.int d),("amount", V.int 1)])) x dx .pay d 1:=ze
 generalize (upd (upd H dx (.own x)) x (.ins (cA K "Pay") dx [("day", V.int d),("amount", V.int 1)]))=H1 at s1 e1 ⊢
 nofun
 intro l2 n2
 have s2:=zb n2 (.lst [.ref x])
 have e2:=zq (.lst [.ref x]) n2
 generalize upd H1 l2 (.lst [.ref x])=H2 at s2 e2 ⊢
 nofun
 intro l3 n3
 have s3:=zb n3 (.lst [.int 0,.int 501])
 have e3:=zq (.lst [.int 0,.int 501]) n3
 generalize upd H2 l3 (.lst [.int 0,.int 501])=H3 at s3 e3 ⊢
 obtain ⟨m,am,hm⟩:∃ m:Nat,atI [V.int 0,.int 501] (c % 2)=some (.int m)/\((m=0/\c % 2=0)\/(m=501/\c % 2=1)):=by
  rcases (show c % 2=0\/c % 2=1 by ac_rfl) with e | e
  ·exact ⟨0,by rw[e];rfl,.inl ⟨rfl,e⟩⟩
  ·exact ⟨501,by rw[e];rfl,.inr ⟨rfl,e⟩⟩
 nofun
 refine ⟨l3,_,_,_,rfl,rfl,SqL.of e3,am,?_⟩
 refine ⟨l2,m,_,rfl,rfl,s3 _ _ e2,by ac_rfl,by ac_rfl,?_,fun pm nm=>?_⟩
 ·rw[show ((m:Int)).toNat=m from rfl]
  show 1*m<=_
  ac_rfl
 rw[show ((m:Int)).toNat=m from rfl,zfh]
 have s4:=zb nm (.lst (yae m (.ref x)))
 have e4:=zq (.lst (yae m (.ref x))) nm
 have s14:=s2.trans (s3.trans s4)
 have i4:zZ K (upd H3 pm (.lst (yae m (.ref x)))) x dx .pay d 1:=s14 _ _ e1
 have sA:=s1.trans s14
 generalize upd H3 pm (.lst (yae m (.ref x)))=H4 at s4 e4 s14 i4 sA ⊢
 nofun
 intro l5 n5
 have s5:=zb n5 (.lst [.non,.int 7,.str "plain", .int 365,.bl true])
 have e5:=zq (.lst [.non,.int 7,.str "plain", .int 365,.bl true]) n5
 have i5:zZ K (upd H4 l5 (.lst [.non,.int 7,.str "plain", .int 365,.bl true])) x dx .pay d 1:=s5 _ _ i4
 have m5:=s5 _ _ e4
 have sB:=sA.trans s5
 generalize upd H4 l5 (.lst [.non,.int 7,.str "plain", .int 365,.bl true])=H5 at s5 e5 i5 m5 sB ⊢
 obtain ⟨v,hv,hvm⟩:=zgn (xs:=[.non,.int 7,.str "plain", .int 365,.bl true]) (k:=c / 2 % 5) (by ac_rfl) (by simp;ac_rfl)
 obtain ⟨tv,tyv,kv⟩:=(zac ⟨"NoneType", fun _=>.non,T.kT_NoneType_Count⟩ (zac ⟨"int", fun _=>.int _,T.kT_int_Count⟩ (zac ⟨"str", fun _=>.str _,T.kT_str_Count⟩ (zac ⟨"int", fun _=>.int _,T.kT_int_Count⟩ (zac ⟨"bool", fun _=>.bl _,T.kT_bool_Count⟩ ziO)))):∀ v∈([.non,.int 7,.str "plain", .int 365,.bl true]:List V),∃ t,(∀ G:Hp,zbc K G v (.type t))/\PySem.W.kitOne K (.type t) (.ref (cA K "Count"))=some false) v hvm
 nofun
 refine ⟨l5,_,_,_,rfl,rfl,SqL.of e5,hv,?_⟩
 clear hv hvm
 nofun
 intro l6 n6
 have s6:=zb n6 (.lst [.int 5,.int (-1)])
 have e6:=zq (.lst [.int 5,.int (-1)]) n6
 have i6:zZ K (upd H5 l6 (.lst [.int 5,.int (-1)])) x dx .pay d 1:=s6 _ _ i5
 have m6:=s6 _ _ m5
 have sC:=sB.trans s6
 generalize upd H5 l6 (.lst [.int 5,.int (-1)])=H6 at s6 e6 i6 m6 sC ⊢
 obtain ⟨g6,a6,_⟩:=zoY (a:=5) (b:=-1) (r:=c / 10 % 2) (by ac_rfl) (by ac_rfl)
 nofun
 refine ⟨l6,_,_,_,rfl,rfl,SqL.of e6,a6,?_⟩
 nofun
 refine ⟨v,_,pm,_,_,1,rfl,SqL.of m6,ze6 i6 m,.inl ⟨.inl ⟨tv,tyv _,kv⟩,rfl⟩,fun q7 H7 nq7 s7 e7=>?_⟩
 have i7:zZ K H7 x dx .pay d 1:=s7 _ _ i6
 have m7:=s7 _ _ m6
 nofun
 intro t8 nt8
 have st8:=zb nt8 (.tup [.int 1,.bl false,.bl true])
 have et8:=zq (.tup [.int 1,.bl false,.bl true]) nt8
 refine ⟨_,_,rd3 (st8 _ _ e7),rd3 et8,(zdX 1).1,(zdX 1).1,?_⟩
 rw[(zdX 1).2]
 have i8:zZ K (upd H7 t8 (.tup [.int 1,.bl false,.bl true])) x dx .pay d 1:=st8 _ _ i7
 have m8:=st8 _ _ m7
 have sD:=sC.trans (s7.trans st8)
 generalize upd H7 t8 (.tup [.int 1,.bl false,.bl true])=H8 at st8 et8 i8 m8 sD ⊢
 nofun
 intro t9 n9
 have s9:=zb n9 (.tup [.int 5])
 have e9:=zq (.tup [.int 5]) n9
 generalize upd H8 t9 (.tup [.int 5])=H9 at s9 e9 ⊢
 nofun
 intro l10 n10
 have s10:=zb n10 (.lst [.non,.int (-1),.int 367,.bl true,.str "5", .ref t9,.int 1000000000000000000000000000000])
 have e10:=zq (.lst [.non,.int (-1),.int 367,.bl true,.str "5", .ref t9,.int 1000000000000000000000000000000]) n10
 have e9':=s10 _ _ e9
 have i10:zZ K (upd H9 l10 (.lst [.non,.int (-1),.int 367,.bl true,.str "5", .ref t9,.int 1000000000000000000000000000000])) x dx .pay d 1:=(s9.trans s10) _ _ i8
 have m10:=(s9.trans s10) _ _ m8
 have sE:=sD.trans (s9.trans s10)
 generalize upd H9 l10 (.lst [.non,.int (-1),.int 367,.bl true,.str "5", .ref t9,.int 1000000000000000000000000000000])=H10 at s10 e10 e9' i10 m10 sE ⊢
 obtain ⟨u,hu,hum⟩:=zgn (xs:=[.non,.int (-1),.int 367,.bl true,.str "5", .ref t9,.int 1000000000000000000000000000000]) (k:=c / 20 % 7) (by ac_rfl) (by simp;ac_rfl)
 obtain ⟨Tk,tku,wbu⟩:=(zac ⟨"NoneType", ⟨.non,by simp[kinds]⟩,rfl⟩ (zac ⟨"int", ⟨.int _,by simp[kinds]⟩,rfl⟩ (zac ⟨"int", ⟨.int _,by simp[kinds]⟩,rfl⟩ (zac ⟨"bool", ⟨.bl _,by simp[kinds]⟩,rfl⟩ (zac ⟨"str", ⟨.str _,by simp[kinds]⟩,rfl⟩ (zac ⟨"tuple", ⟨.tup e9',by simp[kinds]⟩,rfl⟩ (zac ⟨"int", ⟨.int _,by simp[kinds]⟩,rfl⟩ ziO)))))):∀ v∈([.non,.int (-1),.int 367,.bl true,.str "5", .ref t9,.int 1000000000000000000000000000000]:List V),∃ Tk,zjc K H10 v Tk/\zgQ v 0 366=false) u hum
 nofun
 refine ⟨l10,_,_,_,rfl,rfl,SqL.of e10,hu,?_⟩
 clear hu hum
 nofun
 intro b1 db1 nb1 nd1 ne1
 have sb1:Same H10 (upd (upd H10 db1 (.own b1)) b1 (.ins (cA K (Kd.cls .bank)) db1 [])):=(zb nd1 _).trans (zb (by rw[zi ne1.symm];exact nb1) _)
 have ib1:zbb K (upd (upd H10 db1 (.own b1)) b1 (.ins (cA K (Kd.cls .bank)) db1 [])) b1 .bank:=⟨db1,ze⟩
 have iH11:zZ K (upd (upd H10 db1 (.own b1)) b1 (.ins (cA K (Kd.cls .bank)) db1 [])) x dx .pay d 1:=sb1 _ _ i10
 have mH11:=sb1 _ _ m10
 have sF:=sE.trans sb1
 generalize (upd (upd H10 db1 (.own b1)) b1 (.ins (cA K (Kd.cls .bank)) db1 []))=H11 at sb1 ib1 iH11 mH11 sF ⊢
 nofun
 refine ⟨_,u,pm,_,_,1,rfl,SqL.of mH11,ze6 iH11 m,.inl ⟨.inr ⟨b1,.bank,Tk,rfl,ib1,⟨zhB tku.1 sb1,tku.2⟩,wbu⟩,rfl⟩,fun q12 H12 nq12 s12 e12=>?_⟩
 nofun
 intro t13 nt13
 have st13:=zb nt13 (.tup [.int 1,.bl false,.bl true])
 have et13:=zq (.tup [.int 1,.bl false,.bl true]) nt13
 refine ⟨_,_,rd3 (st13 _ _ e12),rd3 et13,(zdX 1).1,(zdX 1).1,?_⟩
 rw[(zdX 1).2]
 have i13:zZ K (upd H12 t13 (.tup [.int 1,.bl false,.bl true])) x dx .pay d 1:=(s12.trans st13) _ _ iH11
 have m13:=(s12.trans st13) _ _ mH11
 have sG:=sF.trans (s12.trans st13)
 generalize upd H12 t13 (.tup [.int 1,.bl false,.bl true])=H13 at st13 et13 i13 m13 sG ⊢
 nofun
 intro b2 db2 nb2 nd2 ne2
 have sb2:Same H13 (upd (upd H13 db2 (.own b2)) b2 (.ins (cA K (Kd.cls .bank)) db2 [])):=(zb nd2 _).trans (zb (by rw[zi ne2.symm];exact nb2) _)
 have ib2:zbb K (upd (upd H13 db2 (.own b2)) b2 (.ins (cA K (Kd.cls .bank)) db2 [])) b2 .bank:=⟨db2,ze⟩
 have iH14:zZ K (upd (upd H13 db2 (.own b2)) b2 (.ins (cA K (Kd.cls .bank)) db2 [])) x dx .pay d 1:=sb2 _ _ i13
 have mH14:=sb2 _ _ m13
 have sH:=sG.trans sb2
 generalize (upd (upd H13 db2 (.own b2)) b2 (.ins (cA K (Kd.cls .bank)) db2 []))=H14 at sb2 ib2 iH14 mH14 sH ⊢
 nofun
 refine ⟨pm,_,rfl,SqL.of mH14,fun l15 n15=>?_⟩
 have ct:zbx (yae m (V.ref x)) none (some 500)=yae (min 500 m) (V.ref x):=by
  rw[show (500:Int)=((500:Nat):Int) from rfl,zgy,List.take_replicate]
 rw[ct]
 have s15:=zb n15 (.lst (yae (min 500 m) (.ref x)))
 have e15:=zq (.lst (yae (min 500 m) (.ref x))) n15
 have i15:zZ K (upd H14 l15 (.lst (yae (min 500 m) (.ref x)))) x dx .pay d 1:=s15 _ _ iH14
 have m15:=s15 _ _ mH14
 have ib2':=ib2.same s15
 have sI:=sH.trans s15
 generalize upd H14 l15 (.lst (yae (min 500 m) (.ref x)))=H15 at s15 e15 i15 m15 ib2' sI ⊢
 have day:∀ n:Nat,∀ e∈yae n ((.pay,d,1):Er),0<=e.2.1:=fun n e he=>by rw[(yby.mp he).2];exact d0
 nofun
 refine ⟨_,_,l15,_,_,0,rfl,SqL.of e15,ze6 i15 _,.inr ⟨b2,.bank,366,rfl,rfl,ib2',⟨by decide,by decide⟩,.inr ⟨znX (by ac_rfl) (zbq (by decide)) (zbq (by decide)) (zbq (by decide)),day _,rfl⟩⟩,fun q16 H16 nq16 s16 e16=>?_⟩
 nofun
 intro t17 nt17
 have st17:=zb nt17 (.tup [.int 0,.bl false,.bl true])
 have et17:=zq (.tup [.int 0,.bl false,.bl true]) nt17
 refine ⟨_,_,rd3 (st17 _ _ e16),rd3 et17,(zdX 0).1,(zdX 0).1,?_⟩
 rw[(zdX 0).2]
 have i17:zZ K (upd H16 t17 (.tup [.int 0,.bl false,.bl true])) x dx .pay d 1:=(s16.trans st17) _ _ i15
 have m17:=(s16.trans st17) _ _ m15
 have sJ:=sI.trans (s16.trans st17)
 generalize upd H16 t17 (.tup [.int 0,.bl false,.bl true])=H17 at st17 et17 i17 m17 sJ ⊢
 nofun
 intro b3 db3 nb3 nd3 ne3
 have sb3:Same H17 (upd (upd H17 db3 (.own b3)) b3 (.ins (cA K (Kd.cls .bank)) db3 [])):=(zb nd3 _).trans (zb (by rw[zi ne3.symm];exact nb3) _)
 have ib3:zbb K (upd (upd H17 db3 (.own b3)) b3 (.ins (cA K (Kd.cls .bank)) db3 [])) b3 .bank:=⟨db3,ze⟩
 have iH18:zZ K (upd (upd H17 db3 (.own b3)) b3 (.ins (cA K (Kd.cls .bank)) db3 [])) x dx .pay d 1:=sb3 _ _ i17
 have mH18:=sb3 _ _ m17
 have sK:=sJ.trans sb3
 generalize (upd (upd H17 db3 (.own b3)) b3 (.ins (cA K (Kd.cls .bank)) db3 []))=H18 at sb3 ib3 iH18 mH18 sK ⊢
 nofun
 refine ⟨_,_,pm,_,_,if m=501 then 2 else 0,rfl,SqL.of mH18,ze6 iH18 m,.inr ⟨b3,.bank,366,rfl,rfl,ib3,⟨by decide,by decide⟩,?_⟩,fun q19 H19 nq19 s19 e19=>?_⟩
 ·rcases hm with ⟨z,_⟩ | ⟨z,_⟩
  ·exact .inr ⟨znX (by ac_rfl) (zbq (by decide)) (zbq (by decide)) (zbq (by decide)),day _,by rw[if_neg (by ac_rfl)]⟩
  ·exact .inl ⟨by rw[yax];ac_rfl,by rw[if_pos z]⟩
 nofun
 intro t20 n20
 have s20:=zb n20 (.tup [.int 0,.bl false,.bl true])
 have e20:=zq (.tup [.int 0,.bl false,.bl true]) n20
 generalize upd H19 t20 (.tup [.int 0,.bl false,.bl true])=H20 at s20 e20 ⊢
 nofun
 intro t21 n21
 have s21:=zb n21 (.tup [.int 2,.bl false,.bl true])
 have e21:=zq (.tup [.int 2,.bl false,.bl true]) n21
 generalize upd H20 t21 (.tup [.int 2,.bl false,.bl true])=H21 at s21 e21 ⊢
 nofun
 intro l22 n22
 have s22:=zb n22 (.lst [.ref t20,.ref t21])
 have e22:=zq (.lst [.ref t20,.ref t21]) n22
 generalize upd H21 l22 (.lst [.ref t20,.ref t21])=H22 at s22 e22 ⊢
 obtain ⟨tz,az,ez⟩:∃ tz,atI [V.ref t20,.ref t21] (c % 2)=some (.ref tz)/\H22 tz=some (.tup [.int (if m=501 then 2 else 0),.bl false,.bl true]):=by
  rcases hm with ⟨z,y⟩ | ⟨z,y⟩
  ·exact ⟨t20,by rw[y];rfl,by rw[if_neg (by ac_rfl)];exact (s21.trans s22) _ _ e20⟩
  ·exact ⟨t21,by rw[y];rfl,by rw[if_pos z];exact s22 _ _ e21⟩
 nofun
 refine ⟨l22,_,_,_,rfl,rfl,SqL.of e22,az,?_⟩
 refine ⟨_,_,rd3 ((s20.trans (s21.trans s22)) _ _ e19),rd3 ez,(zdX _).1,(zdX _).1,?_⟩
 rw[(zdX _).2]
 exact h _ (sK.trans (s19.trans (s20.trans (s21.trans s22))))
theorem zrt {α:Type} {R:V->α->Prop} {ws us:List V} (p:ws.Perm us):∀ {es:List α},LL R us es->∃ es',es'.Perm es/\LL R ws es':=by
 induction p with
 | nil=>intro es r;cases r;exact ⟨[],.nil,.nil⟩
 | cons x _ ih =>
  intro es r
  cases r with
  | cons r1 r2 =>
   obtain ⟨es',p1,p2⟩:=ih r2
   exact ⟨_::es',p1.cons _,.cons r1 p2⟩
 | swap x y l =>
  intro es r
  cases r with
  | cons r1 r2 =>
   cases r2 with
   | cons r2 r3=>exact ⟨_,.swap _ _ _,.cons r2 (.cons r1 r3)⟩
 | trans _ _ ih1 ih2 =>
  intro es r
  obtain ⟨e1,a1,a2⟩:=ih2 r
  obtain ⟨e2,b1,b2⟩:=ih1 a2
  exact ⟨e2,b1.trans a1,b2⟩
theorem ztg {α β:Type} {R:V->β->Prop} {ys:List V} {ms:List α} (h:LL (fun v _=>∃ e,R v e) ys ms):∃ fs,LL R ys fs/\fs.length=ms.length:=by
 induction h with
 | nil=>exact ⟨[],.nil,rfl⟩
 | cons a _ ih =>
  obtain ⟨e,he⟩:=a
  obtain ⟨fs,h1,h2⟩:=ih
  exact ⟨e::fs,.cons he h1,by rw[ybd,ybd,h2]⟩
theorem zjk {es:List Er} (h:es.length<=60):Fd es:=by
 have p:∀ w:Str,(prs w es).length<=61:=fun w=>ycz zbK (by omega)
 exact ⟨by omega,p _,p _,p _,es.map (·.2.1),by rw[yab];exact h,fun e he=>ybv he⟩
theorem zsL {α:Type} {R:V->α->Prop} {S:α->Prop} {vs:List V} {es:List α} (h:LL (fun v e=>R v e/\S e) vs es):∀ e∈es,S e:=by
 induction h with
 | nil=>intro e he;cases he
 | cons a _ ih =>
  intro e he
  rcases yak.mp he with rfl | he
  ·exact a.2
  ·exact ih e he
def Pair (K:W.Frag) (ns:List Int) (H:Hp) (v:V):Prop:=∃ (t o r:Addr) (A:BkA) (b:BkT) (rs:List V),v=.ref t/\H t=some (.tup [.ref o,.ref r])/\zaU K H o A b/\zcm b/\H r=some (.lst rs)/\RL3 H rs b.es/\b.es.length<=61/\(∀ e∈b.es,OkE (baseOf ns) e)/\b.g=zbF ns/\b.kd=kindOf ns
theorem Pair.same {K:W.Frag} {ns:List Int} {H H':Hp} {v:V} (h:Pair K ns H v) (s:Same H H'):Pair K ns H' v:=by
 obtain ⟨t,o,r,A,b,rs,a1,a2,a3,a4,a5,a6,a7⟩:=h
 exact ⟨t,o,r,A,b,rs,a1,s _ _ a2,a3.same s,a4,s _ _ a5,a6.same s,a7⟩
theorem zr8 {es:List Er} {e:Er} {n:Nat} (h:es.length<=59) (hn:es.length+n<=500) (h1:isW "rate" e=false) (h2:isW "late" e=false) (h3:isW "still" e=false):Fd (es++yae n e):=by
 have pa:∀ w:Str,isW w e=false->(prs w (es++yae n e)).length<=61:=fun w hw=>by
  have p1:=zia hw n
  have p2:=zbK (w:=w) (es:=es)
  unfold prs at p1 p2 ⊢
  rw[yaz,yba,yaf,p1]
  show _+0<=61
  omega
 refine ⟨by rw[yaf,yax];exact hn,pa _ h1,pa _ h2,pa _ h3,es.map (·.2.1)++[e.2.1],by rw[yaf,yab];show _+1<=60;omega,fun x hx=>?_⟩
 rcases yal.mp hx with hx | hx
 ·exact yav _ (ybv hx)
 ·rw[(yby.mp hx).2]
  exact yag _ (ybh.mpr rfl)
theorem zlV {b:BkT} (I:zcm b):b.outs.length+b.fees.length+b.pays.length+b.turns.length<=b.es.length:=by
 have wl:=zgT b.es
 have w1:=zbI I.outs
 have w2:=zbI I.fees
 have w3:=zbI I.pays
 have w4:b.turns.length<=(dys "turn" b.es).length:=za6 (Sby.zjw I.turns.up) fun k hk=>(I.turns.mem k).mp hk
 omega
theorem zo6 {b:BkT} (I:zcm b) (F:Fd b.es):∃ td:List Int,td.length<=61/\∀ d,DDay b d->d∈td:=by
 obtain ⟨td,l,m⟩:=F.few
 refine ⟨td,by omega,fun d hd=>?_⟩
 obtain ⟨e,he,_,rfl⟩:=(zhl I d).mp hd
 exact m e he
theorem zph {b c:BkT} {n:Nat} {ms ks:List Int} (I:zcm b) (J:zcm c) (e:c.es=b.es++yae n (.due,7,1)) (u1:ms.Pairwise (·<·)) (m1:∀ d,d∈ms↔DDay c d) (u2:ks.Pairwise (·<·)) (m2:∀ d,d∈ks↔DDay b d):ms=ks:=by
 refine Sby.zhP u1 u2 fun x=>?_
 rw[m1,m2,zhl J,zhl I,e]
 constructor
 ·rintro ⟨y,hy,c,d⟩
  rcases yal.mp hy with hy | hy
  ·exact ⟨y,hy,c,d⟩
  ·rw[(yby.mp hy).2,zbq (by decide),zbq (by decide),zbq (by decide),zbq (by decide)] at c
   rcases c with c | c | c | c <;> cases c
 ·exact fun ⟨y,hy,c,d⟩=>⟨y,yav _ hy,c,d⟩
def zlG (K:W.Frag):Sp:=fun vs H Q _=>∃ (a:Addr) (ns:List Int),vs=[.ref a]/\SqL K H a (ns.map V.int)/\ns.length<=63/\H (zfB K)=some (.tbl #[])/\∀ H',Q (.bl true) H'
theorem zbr:zj ["_law_script", "_law_rows_here", "_law_entries", "_law_book", "_law_more", "_law_mine", "_law_other", "_law_ones", "_law_twice", "_law_one", "_law_due_here", "_law_great"] qab (zh zju):=by walk_at "sp"
theorem ztd (S:Src K mg "law" zju qab) (T:Txt K mg) (LB:zmE K mg base) (zf9:Def P w K mg base 3 "_law_rows" qbc (zhO K)) (zcn:Def P w K mg base 4 "_law_made" qai (zho K)) (zaA:zdE P w K mg base 4 (cA K "Book") "__init__" qam (zcJ K)) (za3:Def P w K mg base 2 "_law_grace" qab (zd7 K)) (zcU:Def P w K mg base 2 "_law_count" qab (zhe K)) (zaV:zB P w K mg base 1 (cA K "Turn") "__init__" qae (zaO K)) (zbZ:Def P w K mg base 2 "_law_row" qas (zgb K)) (zbk:Def P w K mg base 2 "_law_base" qab (zfe K)) (zax:zdE P w K mg base 6 (cA K "Book") "with_more" qao (zck K)) (zhQ:Def P w K mg base 4 "_law_is" qbd (zi8 K)) (zb9:zB P w K mg base 2 (cA K "Due") "__init__" qad (zag K)) (zaX:zB P w K mg base 1 (cA K "Book") "entries" qaa (zcR K)) (zaw:zB P w K mg base 1 (cA K "Book") "deed_days" qaa (zcj K)) (zce:Def P w K mg base 7 "_law_crowded" qav (zfz K)) (zC:Def P w K mg base 1 "_law_cell_at" qah (zar K)) (zc2:Def P w K mg base 7 "_law_no_terms" qbf (ze0 K)):Def P w K mg base 8 "law" qab (zlG K):=by
 refine S.okT LB zbr (fun vs H Q E h=>?_) (fun f cdv A outer s H vs Q E hr LO h=>?_)
 ·obtain ⟨a,ns,rfl,hS,hl,hP,h⟩:=h
  rfl
 obtain ⟨a,ns,rfl,hS,hl,hP,h⟩:=h
 obtain ⟨cc,LO⟩:=LO
 refine ⟨_,(zf (zE (i:=1) zbr.nd rfl (by walk_at "lc") (zy zf9 hr (za (pv 0) (za zd (za zd (za zd zc))))))
  (zf (zE (i:=1) zbr.nd rfl (by walk_at "lc") (zo zbT (zbj zcd (pv 1) zcB (zbd zd)) (zog LO (hr.mono (by decide)) rfl rfl T.zaN (za (zbj zcd (pv 1) (zbd zd) zcB) zc) (by decide) (by decide) (by decide) rfl rfl rfl rfl rfl rfl rfl (fun _ _ _ _ _=>rfl))))
  (zf (zex (i:=2) zbr.nd rfl rfl (ix:=[]) ⟨rfl,by decide +kernel,rfl,by decide +kernel,rfl,(show (["_law_row_here"]:List Str).Nodup by decide +kernel),by walk_at "cap", by walk_at "sub", by walk_at "has"⟩ (zM (pv 1)) (fun b=>(zy zcn hr (za (pv 0) zc))))
  (zf (zE (i:=3) zbr.nd rfl (by walk_at "lc") (zfr T.zew zaA hr zjC T.zgC (za (zy zcU hr (za (pv 0) zc)) (za (zy za3 hr (za (pv 0) zc)) (za (pv 2) zc)))))
  (zf (zan (zjp PySem.F.plainAttrs_list PySem.F.slot_list_reverse PySem.F.type_list_reverse zjf (pv 2)))
  (zf (zan (zer PySem.F.plainAttrs_list PySem.F.slot_list_append PySem.F.type_list_append zaD (pv 2) (za (zaH T.zey zaV hr T.zgw (za zd zc)) zc)))
  (zf (zex (i:=4) zbr.nd rfl rfl (ix:=[0]) ⟨rfl,by decide +kernel,rfl,by decide +kernel,rfl,(show (["_law_cell", "_law_script"]:List Str).Nodup by decide +kernel),by walk_at "cap", by walk_at "sub", by walk_at "has"⟩ (zM (zbj zcd (pv 0) (zbd zd) (zbd zd))) (fun b=>(zy zbZ hr (za (pv 0) (za (zy zbk hr (za (pv 1) zc)) (za zd zc))))))
  (zf (zex (i:=5) zbr.nd rfl rfl (ix:=[]) ⟨rfl,by decide +kernel,rfl,by decide +kernel,rfl,(show (["_law_row_here"]:List Str).Nodup by decide +kernel),by walk_at "cap", by walk_at "sub", by walk_at "has"⟩ (zM (pv 4)) (fun b=>(zy zcn hr (za (pv 0) zc))))
  (zf (zE (i:=6) zbr.nd rfl (by walk_at "lc") (zhs zax T.zv hr zjC (pv 3) (za (pv 5) zc)))
  (zf (zan (zjp PySem.F.plainAttrs_list PySem.F.slot_list_clear PySem.F.type_list_clear zms (pv 5)))
  (zf (zex (i:=7) zbr.nd rfl rfl (ix:=[]) ⟨rfl,by decide +kernel,rfl,by decide +kernel,rfl,(show (["_law_row_here"]:List Str).Nodup by decide +kernel),by walk_at "cap", by walk_at "sub", by walk_at "has"⟩ (zM (zbj zcd (pv 1) zcB (zbd zd))) (fun b=>(zy zcn hr (za (pv 0) zc))))
  (zf (zE (i:=8) zbr.nd rfl (by walk_at "lc") (zfr T.zew zaA hr zjC T.zgC (za (zy zcU hr (za (pv 0) zc)) (za (zy za3 hr (za (pv 0) zc)) (za (zo zbT (pv 7) (pv 7)) zc)))))
  (zf (zbW PassesOwn.never rfl (zM (zW (za (zN (za (pv 3) (za (pv 1) zc))) (za (zN (za (pv 6) (za (zo zbT (pv 1) (pv 4)) zc))) (za (zN (za (pv 8) (za (zo zbT (zbj zcd (pv 1) zcB (zbd zd)) (zbj zcd (pv 1) zcB (zbd zd))) zc))) (za (zN (za (pv 3) (za (pv 1) zc))) zc)))))) (zgA rfl (zap (zO (i:=9) zbr.nd rfl (by walk_at "lc")) (zap (zO (i:=10) zbr.nd rfl (by walk_at "lc")) zez)))
  (zg (zaa (zgB (zfc (zy zhQ hr (za (pv 9) (za (pv 0) (za (pv 10) zc))))))
  (zg (zk zaq))
   zL)))
  (zf (zaa (zw zah (zo zK (zy zC hr (za (pv 0) (za zd zc))) zd) zd (nomark _))
  (zf (zE (i:=11) zbr.nd rfl (by walk_at "lc") (zhs zax T.zv hr zjC (pv 3) (za (zo zjd (zW (za (zaH T.zjv zb9 hr T.zlp (za zd (za zd zc))) zc)) (zo zeH zd (zI za2 rfl T.zeq PySem.boot_len (za (pv 1) zc)))) zc)))
  (zf (zaa (PW.pt (zow (zw (zdO hr.units) (zal zaw T.zv hr (pv 11)) (zal zaw T.zv hr (pv 3)) (nomark _)) (zlJ (zw ztu (zI za2 rfl T.zeq PySem.boot_len (za (zal zaX T.zv hr (pv 11)) zc)) zd (nomark _)))))
  (zg (zk zaq))
   zL)
  (zg (zaa (PW.pt (zow (zgB (zfc (zy zce hr (za (pv 11) (za (zW (za (zaH T.zey zaV hr T.zgw (za zd zc)) zc)) zc))))) (zlJ (zgB (zfc (zy zce hr (za (pv 3) (za (zo zjd (zW (za (zaH T.zey zaV hr T.zgw (za zd zc)) zc)) (zo zeH zd (zI za2 rfl T.zeq PySem.boot_len (za (pv 1) zc)))) zc))))))))
  (zg (zk zaq))
   zL))))
   zL)
  (zg (zk (zy zc2 hr (za (pv 0) (za (zy zbk hr (za (pv 0) zc)) zc))))))))))))))))))),?_⟩
 have sz:=sizeLine_eq
 obtain ⟨b0,b1⟩:=zkG ns
 nofun
 refine ⟨a,ns,3,21,200,rfl,hS,by ac_rfl,⟨by ac_rfl,by ac_rfl⟩,fun q rs es H1 nq s1 eq hR el oe=>?_⟩
 have rl:=hR.length
 nofun
 refine ⟨q,_,rfl,SqL.of eq,fun u nu=>?_⟩
 rw[show zbx rs none (some (1:Int))=rs.take 1 from zgy rs 1]
 have su:=zb nu (.lst (rs.take 1))
 have eu:=zq (.lst (rs.take 1)) nu
 have eq2:=su _ _ eq
 have s2:=s1.trans su
 have hR2:=hR.same su
 generalize upd H1 u (.lst (rs.take 1))=H2 at su eu eq2 s2 hR2 ⊢
 nofun
 refine ⟨q,_,rfl,SqL.of eq2,fun v nv=>?_⟩
 rw[show zbx rs (some (1:Int)) none=rs.drop 1 from zn6 rs 1]
 have sv:=zb nv (.lst (rs.drop 1))
 have ev:=zq (.lst (rs.drop 1)) nv
 have eu3:=sv _ _ eu
 have s3:=s2.trans sv
 have hR3:=hR2.same sv
 have hS3:=s3.seq hS
 have hP3:=s3 _ _ hP
 generalize upd H2 v (.lst (rs.drop 1))=H3 at sv ev eu3 s3 hR3 hS3 hP3 ⊢
 nofun
 refine ⟨v,_,rfl,SqL.of ev,by rw[ybu];ac_rfl,fun y hy=>?_,hP3,fun w1 H4 ws nw ew pw kp=>?_⟩
 ·obtain ⟨i,hi⟩:=ybq.mp (ycp hy)
  obtain ⟨e,_,t,rfl,ht⟩:=hR3.get hi
  exact ⟨t,_,e.2.2,rfl,SqT.of ht,rfl,CMul.ok (.inr ⟨by decide,by decide⟩)⟩
 have nP:∀ {b:Addr} {o:HO},H3 b=some o->(∀ x,o≠.tbl x)->b≠zfB K:=fun {b o} e n z=>by
  rw[z,hP3] at e
  cases e
  exact n _ rfl
 have eu4:=kp _ _ (nP eu3 (by intro x z;cases z)) eu3
 have hS4:=hS3.but hP3 kp
 have hR4:RL3 H4 rs es:=LL.imp (fun v e ⟨t,e1,e2⟩=>⟨t,e1,kp _ _ (nP e2 (by intro x z;cases z)) e2⟩) hR3
 obtain ⟨es',pe,hW⟩:=zrt pw (LL.zq6 hR4)
 have wl:=pw.length_eq
 rw[ybu] at wl
 have tl:=ych 1 rs
 refine ⟨u,w1,_,_,rfl,rfl,eu4,ew,by ac_rfl,fun r nr=>?_⟩
 have sr:=zb nr (.lst (rs.take 1++ws))
 have er:=zq (.lst (rs.take 1++ws)) nr
 have hA:RL3 (upd H4 r (.lst (rs.take 1++ws))) (rs.take 1++ws) (es.take 1++es'):=RL3.same (LL.append (hR4.take 1) hW) sr
 have hS5:=sr.seq hS4
 have oA:∀ e∈es.take 1++es',OkE (baseOf ns) e:=fun e he=>by
  rcases yal.mp he with he | he
  ·exact oe e (yco he)
  ·exact oe e (ycp (pe.mem_iff.mp he))
 have aL:(es.take 1++es').length<=19:=by
  have:=pe.length_eq
  rw[ybu] at this
  rw[yaf,ybc]
  ac_rfl
 have a1:(es.take 1++es').take 1=es.take 1\/True:=.inr trivial
 clear a1 eu4 hR4 hS4 hW
 generalize upd H4 r (.lst (rs.take 1++ws))=G at sr er hA hS5 ⊢
 generalize es.take 1++es'=ea at hA oA aL
 generalize rs.take 1++ws=ra at er hA ⊢
 clear sr wl tl nr ew pw kp nw pe hP3 hS3 hR3 s3 eu3 ev sv nv hR2 s2 eq2 eu su nu rl oe el hR eq s1 nq
 have al:=hA.length
 have dA:∀ e∈ea,0<=e.2.1:=fun e he=>by have:=(oA e he).2.1;ac_rfl
 nofun
 refine ⟨⟨_,SqL.of er⟩,fun pe npe=>?_⟩
 refine comp_map (zQ (SqL.of er)) npe (by ac_rfl) ea al.symm (fun H' v (e:Er)=>∃ a dx,v=.ref a/\zZ K H' a dx e.1 e.2.1 e.2.2) (fun v e H1 H2 s ⟨t,dx,e1,e2⟩=>⟨t,dx,e1,s _ _ e2⟩) (fun v e H1 ys zs hL ⟨t,dx,e1,e2⟩=>⟨t,dx,e1,by rw[zZ,zi (zaj e2 hL (by intro z;cases z))];exact e2⟩) ?_ ?_
 ·rintro i x e H' Q' hx he sH hq'
  obtain ⟨e',he',t,rfl,ht⟩:=hA.get hx
  obtain rfl:e'=e:=Option.some.inj (he'.symm.trans he)
  nofun
  exact ⟨t,e'.1,e'.2.1,e'.2.2,rfl,sH _ _ ht,(oA e' (yah he)).1,fun a dx H2 s2 na ha=>hq' _ _ s2 ⟨a,dx,rfl,ha⟩⟩
 rintro xe H1 s1 epe hE
 replace hE:EL K H1 xe ea:=hE
 have xel:=hE.length
 have hS1:=s1.seq hS5
 nofun
 refine ⟨a,ns,rfl,hS1,fun c H2 nc s2 hc=>?_⟩
 have hS2:=s2.seq hS1
 nofun
 refine ⟨a,ns,rfl,hS2,?_⟩
 nofun
 intro bk dx nb nd ne
 have s3:Same H2 (upd (upd H2 dx (.own bk)) bk (.ins (cA K "Book") dx [])):=(zb nd _).trans (zb (by rw[zi ne.symm];exact nb) _)
 refine ⟨bk,dx,pe,_,_,xe,ea,H2,rfl,ze,⟨nb,s3⟩,SqL.of (s2 _ _ epe),hE.same s2,.inr ⟨c,kindOf ns,zbF ns,rfl,rfl,hc,zgO ns,.inr ⟨zjk (by ac_rfl),dA,fun A b H3 sH3 N B I e1 e2 e3=>⟨rfl,?_⟩⟩⟩⟩
 have epe2:=s2 _ _ epe
 have epe3:=sH3 _ _ epe2
 have sG3:=s1.trans (s2.trans sH3)
 nofun
 refine ⟨.inl ⟨rfl,_,SqL.of epe3⟩,pe,_,rfl,rfl,epe3,?_⟩
 have B4:=zmQ (zs:=xe.reverse) B N epe2 epe3
 have epe4:(upd H3 pe (.lst xe.reverse)) pe=some (.lst xe.reverse):=ze
 have sG4:=zD (o:=.lst xe.reverse) sG3 npe
 generalize upd H3 pe (.lst xe.reverse)=H4 at B4 epe4 sG4 ⊢
 nofun
 refine ⟨.inl ⟨rfl,_,SqL.of epe4⟩,?_⟩
 nofun
 intro t dt nt ndt net
 refine ⟨t,_,dt,[],7,rfl,ze,T.clE .turn,T.zS .turn,by decide,rfl,?_⟩
 rw[zam,show zas ("day" : Str) (V.int 7) ([]:List (Str × V))=([("day", V.int 7)]:List (Str × V)) from rfl]
 have st:Same H4 (upd (upd H4 dt (.own t)) t (.ins (cA K "Turn") dt [("day", V.int 7)])):=(zb ndt _).trans (zb (by rw[zi net.symm];exact nt) _)
 nofun
 refine ⟨pe,_,_,rfl,rfl,st _ _ epe4,by rw[ycs];ac_rfl,?_⟩
 have B5:=zmQ (zs:=xe.reverse++[.ref t]) (B4.same st) N epe2 (st _ _ epe4)
 have sG5:=zD (o:=.lst (xe.reverse++[.ref t])) (sG4.trans st) npe
 generalize upd _ pe (.lst (xe.reverse++[.ref t]))=G5 at B5 sG5 ⊢
 clear st net ndt nt sG4 epe4 B4 sG3 epe3 epe2 B N sH3 s3 ne nd nb hS2 hc s2 nc hS1 hE epe s1
 subst e3
 have hS5':=sG5.seq hS5
 have er5:=sG5 _ _ er
 have hA5:=hA.same sG5
 nofun
 refine ⟨a,_,rfl,hS5',fun pc nc=>?_⟩
 obtain ⟨ms,ml,ec⟩:=zlI ns 21 23
 rw[show zbx (ns.map V.int) (some 21) (some 23)=ms.map V.int from ec]
 have sc:=zb nc (.lst (ms.map V.int))
 have ec5:=zq (.lst (ms.map V.int)) nc
 have hS6:=sc.seq hS5'
 generalize upd G5 pc (.lst (ms.map V.int))=H6 at sc ec5 hS6 ⊢
 refine ⟨pc,rfl,⟨_,SqL.of ec5⟩,fun pr npr=>?_⟩
 refine comp_map (zQ (SqL.of ec5)) npr (by rw[yab];ac_rfl) ms (by rw[yab]) (fun H' v _=>∃ e:Er,(∃ t,v=V.ref t/\H' t=some (.tup (zbN e.1 e.2.1 e.2.2)))/\OkE (baseOf ns) e) (fun v m H1 H2 s ⟨e,⟨t,q1,q2⟩,q3⟩=>⟨e,⟨t,q1,s _ _ q2⟩,q3⟩) (fun v m H1 ys zs hL ⟨e,⟨t,q1,q2⟩,q3⟩=>⟨e,⟨t,q1,by rw[zi (zaj q2 hL (by intro z;cases z))];exact q2⟩,q3⟩) ?_ ?_
 ·rintro i x e H' Q' hx he sH hq'
  rw[yam,he] at hx
  cases hx
  have hS':=sH.seq hS6
  nofun
  refine ⟨a,ns,rfl,hS',?_⟩
  nofun
  intro t k d x H2 s2 nt et hk hd hv
  exact hq' _ _ s2 ⟨(k,d,x),⟨t,rfl,et⟩,hk,hd,hv⟩
 rintro yr H7 s7 epr hL7
 obtain ⟨fs,hF,fl⟩:=ztg hL7
 have oF:=zsL hF
 have hF7:RL3 H7 yr fs:=LL.imp (fun v e q=>q.1) hF
 have s57:=sc.trans s7
 have yl:=hF7.length
 nofun
 refine ⟨⟨_,SqL.of epr⟩,fun pm npm=>?_⟩
 refine comp_map (zQ (SqL.of epr)) npm (by ac_rfl) fs yl.symm (fun H' v (e:Er)=>∃ a dx,v=.ref a/\zZ K H' a dx e.1 e.2.1 e.2.2) (fun v e H1 H2 s ⟨t,dx,e1,e2⟩=>⟨t,dx,e1,s _ _ e2⟩) (fun v e H1 ys zs hL ⟨t,dx,e1,e2⟩=>⟨t,dx,e1,by rw[zZ,zi (zaj e2 hL (by intro z;cases z))];exact e2⟩) ?_ ?_
 ·rintro i x e H' Q' hx he sH hq'
  obtain ⟨e',he',t,rfl,ht⟩:=hF7.get hx
  obtain rfl:e'=e:=Option.some.inj (he'.symm.trans he)
  nofun
  exact ⟨t,e'.1,e'.2.1,e'.2.2,rfl,sH _ _ ht,(oF e' (yah he)).1,fun a dx H2 s2 na ha=>hq' _ _ s2 ⟨a,dx,rfl,ha⟩⟩
 rintro xm H8 s8 epm hM
 replace hM:EL K H8 xm fs:=hM
 have xml:=hM.length
 have s58:=s57.trans s8
 have B8:=B5.same s58
 have gb:0<=b.g/\b.g<=366:=by rw[e2];exact zgO ns
 have oM:∀ e∈b.es++fs,OkE (baseOf ns) e:=fun e he=>(yal.mp he).elim (oA e) (oF e)
 have dM:∀ e∈b.es++fs,0<=e.2.1:=fun e he=>by have:=(oM e he).2.1;ac_rfl
 have lM:(b.es++fs).length<=21:=by rw[yaf];ac_rfl
 nofun
 refine ⟨bk,A.dx,_,rfl,B8.ins,rfl,?_⟩
 nofun
 refine ⟨bk,pm,A,b,xm,fs,rfl,B8,gb,epm,hM,by ac_rfl,.inr ⟨zjk (by ac_rfl),dM,fun ob A2 b2 H9 nob s9 N2 B9 I2 f1 f2 f3=>?_⟩⟩
 have epm9:=s9 _ _ epm
 nofun
 refine ⟨.inl ⟨rfl,_,SqL.of epm9⟩,pm,_,rfl,rfl,epm9,?_⟩
 have BO:=zmQ (zs:=[]) B9 N2 epm epm9
 have s5A:=zD (o:=.lst []) (s58.trans s9) (zt s57 npm)
 have s7A:=zD (o:=.lst []) (s8.trans s9) npm
 generalize upd H9 pm (.lst [])=HA at BO s5A s7A ⊢
 have BA:=B5.same s5A
 have erA:=s5A _ _ er5
 have hAA:=hA5.same s5A
 have hSA:=s5A.seq hS5'
 have eprA:=s7A _ _ epr
 have hFA:=hF7.same s7A
 clear s7A s5A epm9 B9 N2 s9 nob B8 s58 hM epm s8 npm s57 hF7 oF hF hL7 epr s7 npr hS6 ec5 sc ec nc hA5 er5 hS5' sG5 B5
 nofun
 refine ⟨r,_,rfl,SqL.of erA,fun p1 np1=>?_⟩
 rw[show zbx ra none (some (1:Int))=ra.take 1 from zgy ra 1]
 have sB:=zb np1 (.lst (ra.take 1))
 have eB:=zq (.lst (ra.take 1)) np1
 have hB:RL3 (upd HA p1 (.lst (ra.take 1))) (ra.take 1) (b.es.take 1):=RL3.same (LL.take hAA 1) sB
 generalize upd HA p1 (.lst (ra.take 1))=HB at sB eB hB ⊢
 have oB:∀ e∈b.es.take 1,OkE (baseOf ns) e:=fun e he=>oA e (yco he)
 have tl:=ych 1 ra
 have tl2:=ych 1 b.es
 refine ⟨p1,rfl,⟨_,SqL.of eB⟩,fun po npo=>?_⟩
 refine comp_map (zQ (SqL.of eB)) npo (by ac_rfl) (b.es.take 1) hB.length.symm (fun H' v (e:Er)=>∃ a dx,v=.ref a/\zZ K H' a dx e.1 e.2.1 e.2.2) (fun v e H1 H2 s ⟨t,dx,e1,e2⟩=>⟨t,dx,e1,s _ _ e2⟩) (fun v e H1 ys zs hL ⟨t,dx,e1,e2⟩=>⟨t,dx,e1,by rw[zZ,zi (zaj e2 hL (by intro z;cases z))];exact e2⟩) ?_ ?_
 ·rintro i x e H' Q' hx he sH hq'
  obtain ⟨e',he',t,rfl,ht⟩:=hB.get hx
  obtain rfl:e'=e:=Option.some.inj (he'.symm.trans he)
  nofun
  exact ⟨t,e'.1,e'.2.1,e'.2.2,rfl,sH _ _ ht,(oB e' (yah he)).1,fun a dx H2 s2 na ha=>hq' _ _ s2 ⟨a,dx,rfl,ha⟩⟩
 rintro xo HC sC epo hO
 replace hO:EL K HC xo (b.es.take 1):=hO
 have xol:=hO.length
 have hSC:=sC.seq (sB.seq hSA)
 nofun
 refine ⟨a,ns,rfl,hSC,fun c HD nc sD hc=>?_⟩
 have hSD:=sD.seq hSC
 nofun
 refine ⟨a,ns,rfl,hSD,?_⟩
 nofun
 refine ⟨po,po,_,_,rfl,rfl,sD _ _ epo,sD _ _ epo,by ac_rfl,fun pt npt=>?_⟩
 have sE:=zb npt (.lst (xo++xo))
 have eE:=zq (.lst (xo++xo)) npt
 have hO2:EL K (upd HD pt (.lst (xo++xo))) (xo++xo) (b.es.take 1++b.es.take 1):=LL.append ((EL.same hO sD).same sE) ((EL.same hO sD).same sE)
 have hcE:=hc.same sE
 have sAE:=sB.trans (sC.trans (sD.trans sE))
 generalize upd HD pt (.lst (xo++xo))=HE at sE eE hO2 hcE sAE ⊢
 nofun
 intro tw dw nw nd ne
 have s3:Same HE (upd (upd HE dw (.own tw)) tw (.ins (cA K "Book") dw [])):=(zb nd _).trans (zb (by rw[zi ne.symm];exact nw) _)
 have o2:∀ e∈b.es.take 1++b.es.take 1,OkE (baseOf ns) e:=fun e he=>(yal.mp he).elim (oB e) (oB e)
 have l2:(b.es.take 1++b.es.take 1).length<=2:=by rw[yaf];ac_rfl
 refine ⟨tw,dw,pt,_,_,_,b.es.take 1++b.es.take 1,HE,rfl,ze,⟨nw,s3⟩,SqL.of eE,hO2,.inr ⟨c,kindOf ns,zbF ns,rfl,rfl,hcE,zgO ns,.inr ⟨zjk (by ac_rfl),fun e he=>by have:=(o2 e he).2.1;ac_rfl,fun A3 b3 HF sF N3 BF I3 g1 g2 g3=>⟨rfl,?_⟩⟩⟩⟩
 have sAF:=sAE.trans sF
 have BA2:=BA.same sAF
 have BO2:=BO.same sAF
 have er2:=sAF _ _ erA
 have hA2:=hAA.same sAF
 have hS2:=sAF.seq hSA
 have ep2:=sAF _ _ eprA
 have hF2:=hFA.same sAF
 clear s3 hcE hO2 eE sE hSD hc sD nc hSC xol hO epo sC npo hB eB sB np1 hFA eprA hSA hAA erA BO BA sAF sAE
 nofun
 intro t1 nt1
 have st1:=zb nt1 (.tup [.ref bk,.ref r])
 have et1:=zq (.tup [.ref bk,.ref r]) nt1
 generalize upd HF t1 (.tup [.ref bk,.ref r])=HG at st1 et1 ⊢
 have P1:Pair K ns HG (.ref t1):=⟨t1,bk,r,A,b,ra,rfl,et1,BA2.same st1,I,st1 _ _ er2,hA2.same st1,by ac_rfl,oA,e2,e1⟩
 nofun
 refine ⟨r,pr,_,_,rfl,rfl,st1 _ _ er2,st1 _ _ ep2,by ac_rfl,fun l1 nl1=>?_⟩
 have sl1:=zb nl1 (.lst (ra++yr))
 have el1:=zq (.lst (ra++yr)) nl1
 generalize upd HG l1 (.lst (ra++yr))=HH at sl1 el1 ⊢
 nofun
 intro t2 nt2
 have st2:=zb nt2 (.tup [.ref ob,.ref l1])
 have et2:=zq (.tup [.ref ob,.ref l1]) nt2
 generalize upd HH t2 (.tup [.ref ob,.ref l1])=HI at st2 et2 ⊢
 have q2:=st1.trans (sl1.trans st2)
 have P2:Pair K ns HI (.ref t2):=⟨t2,ob,l1,A2,b2,_,rfl,et2,BO2.same q2,I2,st2 _ _ el1,by rw[f3];exact LL.append (hA2.same q2) (hF2.same q2),by rw[f3];ac_rfl,by rw[f3];exact oM,f2.trans e2,f1.trans e1⟩
 have er3:=q2 _ _ er2
 nofun
 refine ⟨r,_,rfl,SqL.of er3,fun u1 nu1=>?_⟩
 rw[show zbx ra none (some (1:Int))=ra.take 1 from zgy ra 1]
 have su1:=zb nu1 (.lst (ra.take 1))
 have eu1:=zq (.lst (ra.take 1)) nu1
 generalize upd HI u1 (.lst (ra.take 1))=HJ at su1 eu1 ⊢
 have er4:=su1 _ _ er3
 nofun
 refine ⟨r,_,rfl,SqL.of er4,fun u2 nu2=>?_⟩
 rw[show zbx ra none (some (1:Int))=ra.take 1 from zgy ra 1]
 have su2:=zb nu2 (.lst (ra.take 1))
 have eu2:=zq (.lst (ra.take 1)) nu2
 have eu1':=su2 _ _ eu1
 generalize upd HJ u2 (.lst (ra.take 1))=HK at su2 eu2 eu1' ⊢
 refine ⟨u1,u2,_,_,rfl,rfl,eu1',eu2,by ac_rfl,fun l2' nl2=>?_⟩
 have sl2:=zb nl2 (.lst (ra.take 1++ra.take 1))
 have el2:=zq (.lst (ra.take 1++ra.take 1)) nl2
 generalize upd HK l2' (.lst (ra.take 1++ra.take 1))=HL at sl2 el2 ⊢
 nofun
 intro t3 nt3
 have st3:=zb nt3 (.tup [.ref tw,.ref l2'])
 have et3:=zq (.tup [.ref tw,.ref l2']) nt3
 generalize upd HL t3 (.tup [.ref tw,.ref l2'])=HM at st3 et3 ⊢
 have q3:=su1.trans (su2.trans (sl2.trans st3))
 have q4:=q2.trans q3
 have P3:Pair K ns HM (.ref t3):=⟨t3,tw,l2',A3,b3,_,rfl,et3,BF.same q4,I3,st3 _ _ el2,by rw[g3];exact LL.append (LL.take (hA2.same q4) 1) (LL.take (hA2.same q4) 1),by rw[g3];ac_rfl,by rw[g3];exact o2,g2,g1⟩
 nofun
 intro t4 nt4
 have st4:=zb nt4 (.tup [.ref bk,.ref r])
 have et4:=zq (.tup [.ref bk,.ref r]) nt4
 generalize upd HM t4 (.tup [.ref bk,.ref r])=HN at st4 et4 ⊢
 have q5:=q4.trans st4
 have P4:Pair K ns HN (.ref t4):=⟨t4,bk,r,A,b,ra,rfl,et4,BA2.same q5,I,q5 _ _ er2,hA2.same q5,by ac_rfl,oA,e2,e1⟩
 nofun
 intro pl npl
 have spl:=zb npl (.lst [.ref t1,.ref t2,.ref t3,.ref t4])
 have epl:=zq (.lst [.ref t1,.ref t2,.ref t3,.ref t4]) npl
 generalize upd HN pl (.lst [.ref t1,.ref t2,.ref t3,.ref t4])=HO' at spl epl ⊢
 have q6:=q5.trans spl
 have PP:∀ v∈([.ref t1,.ref t2,.ref t3,.ref t4]:List V),Pair K ns HO' v:=zac (P1.same ((sl1.trans st2).trans (q3.trans (st4.trans spl)))) (zac (P2.same (q3.trans (st4.trans spl))) (zac (P3.same (st4.trans spl)) (zac (P4.same spl) ziO)))
 have BA3:=BA2.same q6
 have hS3:=q6.seq hS2
 have er6:=q6 _ _ er2
 have hA6:=hA2.same q6
 clear P1 P2 P3 P4 q2 q3 q4 q5 q6 spl st4 st3 sl2 su2 su1 st2 sl1 st1
 nofun
 refine ⟨⟨_,SqL.of epl⟩,zbV (xs:=[.ref t1,.ref t2,.ref t3,.ref t4]) (fun i σ H'=>∃ z1 z2:Option V,Same HO' H'/\σ=[some (.ref a),some (.ref r),some (.ref pe),some (.ref bk),some (.ref pr),some (.ref pm),some (.ref ob),some (.ref po),some (.ref tw),z1,z2,none]) ⟨_,_,Same.refl _,rfl⟩ ?_ ?_ ?_⟩
 ·rintro i σ H' _ ⟨z1,z2,sH,rfl⟩
  exact SqL.of (sH _ _ epl)
 ·rintro i x σ H' hx ⟨z1,z2,sH,rfl⟩
  obtain ⟨t,o,r',A',b',rs',rfl,et,B',I',er',hR',l',ok',g',k'⟩:=(PP x (yah hx)).same sH
  have hS':=sH.seq hS3
  nofun
  refine ⟨t,_,rfl,SqT.of et,rfl,?_⟩
  nofun
  refine ⟨o,a,r',A',b',ns,rs',baseOf ns,rfl,B',I',hS',er',hR',l',b0,ok',g',k',fun H2 s2=>?_⟩
  nofun
  exact ⟨_,_,sH.trans s2,rfl⟩
 rintro σ H1 ⟨z1,z2,s1,rfl⟩
 have hS1:=s1.seq hS3
 have B1:=BA3.same s1
 have er1:=s1 _ _ er6
 clear s1 hA6 er6 hS3 BA3 PP epl npl et4 nt4 et3 nt3 el2 nl2 eu1' eu2 nu2 er4 eu1 nu1 er3 et2 nt2 el1 nl1 et1 nt1 hF2 ep2 hS2 hA2 er2 BO2 BA2 g3 g2 g1 I3 BF N3 sF l2 o2 ne nd nw npt tl2 tl oB f3 f2 f1 I2 lM dM oM xml yl fl ml xel hA er npe hS5 nP LO hP hS
 nofun
 refine ⟨a,ns,24,rfl,hS1,?_⟩
 nofun
 rotate_left
 ·refine ⟨a,ns,rfl,hS1,?_⟩
  nofun
  exact ⟨a,ns,baseOf ns,rfl,hS1,b0,fun H' s'=>h _⟩
 refine ⟨bk,A.dx,_,rfl,B1.ins,rfl,?_⟩
 nofun
 intro td dtd ntd ndtd netd
 refine ⟨td,_,dtd,7,1,rfl,ze,T.clE .due,T.zS .due,T.zaC .due,rfl,?_⟩
 rw[zam]
 have std:Same H1 (upd (upd H1 dtd (.own td)) td (.ins (cA K "Due") dtd [("day", V.int 7),("amount", V.int 1)])):=(zb ndtd _).trans (zb (by rw[zi netd.symm];exact ntd) _)
 have itd:zZ K (upd (upd H1 dtd (.own td)) td (.ins (cA K "Due") dtd [("day", V.int 7),("amount", V.int 1)])) td dtd .due 7 1:=ze
 generalize (upd (upd H1 dtd (.own td)) td (.ins (cA K "Due") dtd [("day", V.int 7),("amount", V.int 1)]))=H2 at std itd ⊢
 nofun
 intro ltd mtd
 have utd:=zb mtd (.lst [.ref td])
 have wtd:=zq (.lst [.ref td]) mtd
 have jtd:zZ K (upd H2 ltd (.lst [.ref td])) td dtd .due 7 1:=utd _ _ itd
 have vtd:=std.trans utd
 generalize upd H2 ltd (.lst [.ref td])=H2' at utd wtd jtd vtd ⊢
 have er2:=vtd _ _ er1
 nofun
 have gn:(500-(ra.length:Int)).toNat=500-ra.length:=by ac_rfl
 refine ⟨r,_,rfl,.inl (SqL.of er2),?_⟩
 nofun
 refine ⟨ltd,_,_,rfl,rfl,wtd,by ac_rfl,by ac_rfl,?_,fun pg npg=>?_⟩
 ·rw[gn]
  show 1*_<=_
  ac_rfl
 rw[gn,zfh]
 have spg:=zb npg (.lst (yae (500-ra.length) (.ref td)))
 have epg:=zq (.lst (yae (500-ra.length) (.ref td))) npg
 have jg:zZ K (upd H2' pg (.lst (yae (500-ra.length) (.ref td)))) td dtd .due 7 1:=spg _ _ jtd
 have s3:=vtd.trans spg
 generalize upd H2' pg (.lst (yae (500-ra.length) (.ref td)))=H3 at spg epg jg s3 ⊢
 have B3:=B1.same s3
 nofun
 have fg:Fd (b.es++yae (500-ra.length) (.due,7,1)):=zr8 (by ac_rfl) (by ac_rfl) (zbq (by decide)) (zbq (by decide)) (zbq (by decide))
 refine ⟨bk,pg,A,b,_,_,rfl,B3,gb,epg,ze6 jg _,by rw[yax];ac_rfl,.inr ⟨fg,fun e he=>?_,fun gr Ag bg H4 ngr s4 Ng Bg Ig k1 k2 k3=>?_⟩⟩
 ·rcases yal.mp he with he | he
  ·exact dA e he
  ·rw[(yby.mp he).2]
   decide
 have lg:bg.es.length=500:=by rw[k3,yaf,yax];ac_rfl
 have s14:=s3.trans s4
 have B4:=B1.same s14
 have dg:=zlV Ig
 have db:=zlV I
 nofun
 refine ⟨gr,Ag.dx,_,rfl,Bg.ins,rfl,gr,Ag,bg,rfl,Bg,by ac_rfl,zo6 Ig (by rw[k3];exact fg),fun p5 m5 H5 n5 s5 e5 up5 mem5 _=>?_⟩
 have B5:=B4.same s5
 nofun
 refine ⟨bk,A.dx,_,rfl,B5.ins,rfl,bk,A,b,rfl,B5,by ac_rfl,zo6 I (zjk (by ac_rfl)),fun p6 m6 H6 n6 s6 e6 up6 mem6 _=>?_⟩
 obtain rfl:=zph I Ig k3 up5 mem5 up6 mem6
 refine ⟨_,_,.lst (SqL.of (s6 _ _ e5)) (.ints m5),.lst (SqL.of e6) (.ints m5),shaped_ints _,shaped_ints _,?_⟩
 rw[zmD]
 have Bg6:=Bg.same (s5.trans s6)
 nofun
 refine ⟨gr,Ag.dx,_,rfl,Bg6.ins,rfl,gr,Ag,bg,rfl,Bg6,fun p7 x7 n7 hE7=>?_⟩
 have xl7:=hE7.length
 have s7:=zb n7 (.lst x7)
 have e7:=zq (.lst x7) n7
 have Bg7:=Bg6.same s7
 have s17:=s14.trans (s5.trans (s6.trans s7))
 generalize upd H6 p7 (.lst x7)=H7 at s7 e7 Bg7 s17 ⊢
 nofun
 refine ⟨p7,_,rfl,.inl (SqL.of e7),?_⟩
 nofun
 ·ac_rfl
 rename_i c500
 clear c500
 intro te dte nte ndte nete
 refine ⟨te,_,dte,[],7,rfl,ze,T.clE .turn,T.zS .turn,by decide,rfl,?_⟩
 rw[zam,show zas ("day" : Str) (V.int 7) ([]:List (Str × V))=([("day", V.int 7)]:List (Str × V)) from rfl]
 have ste:Same H7 (upd (upd H7 dte (.own te)) te (.ins (cA K "Turn") dte [("day", V.int 7)])):=(zb ndte _).trans (zb (by rw[zi nete.symm];exact nte) _)
 have ite:zZ K (upd (upd H7 dte (.own te)) te (.ins (cA K "Turn") dte [("day", V.int 7)])) te dte .turn 7 1:=ze
 generalize (upd (upd H7 dte (.own te)) te (.ins (cA K "Turn") dte [("day", V.int 7)]))=H8 at ste ite ⊢
 nofun
 intro lte mte
 have ute:=zb mte (.lst [.ref te])
 have wte:=zq (.lst [.ref te]) mte
 have jte:zZ K (upd H8 lte (.lst [.ref te])) te dte .turn 7 1:=ute _ _ ite
 have vte:=ste.trans ute
 generalize upd H8 lte (.lst [.ref te])=H8' at ute wte jte vte ⊢
 have Bg8:=Bg7.same vte
 nofun
 refine ⟨gr,lte,Ag,bg,_,[(.turn,7,1)],rfl,Bg8,by rw[k2];exact gb,wte,.cons ⟨te,dte,rfl,jte⟩ .nil,by rw[lg];decide,by rw[lg];decide,fun H9 s9=>?_⟩
 have s19:=s17.trans (vte.trans s9)
 have er9:=s19 _ _ er1
 nofun
 intro tf dtf ntf ndtf netf
 refine ⟨tf,_,dtf,[],7,rfl,ze,T.clE .turn,T.zS .turn,by decide,rfl,?_⟩
 rw[zam,show zas ("day" : Str) (V.int 7) ([]:List (Str × V))=([("day", V.int 7)]:List (Str × V)) from rfl]
 have stf:Same H9 (upd (upd H9 dtf (.own tf)) tf (.ins (cA K "Turn") dtf [("day", V.int 7)])):=(zb ndtf _).trans (zb (by rw[zi netf.symm];exact ntf) _)
 have itf:zZ K (upd (upd H9 dtf (.own tf)) tf (.ins (cA K "Turn") dtf [("day", V.int 7)])) tf dtf .turn 7 1:=ze
 generalize (upd (upd H9 dtf (.own tf)) tf (.ins (cA K "Turn") dtf [("day", V.int 7)]))=H10 at stf itf ⊢
 nofun
 intro ltf mtf
 have utf:=zb mtf (.lst [.ref tf])
 have wtf:=zq (.lst [.ref tf]) mtf
 have jtf:zZ K (upd H10 ltf (.lst [.ref tf])) tf dtf .turn 7 1:=utf _ _ itf
 have vtf:=stf.trans utf
 generalize upd H10 ltf (.lst [.ref tf])=H10' at utf wtf jtf vtf ⊢
 have er10:=vtf _ _ er9
 have gm:(501-(ra.length:Int)).toNat=501-ra.length:=by ac_rfl
 nofun
 refine ⟨r,_,rfl,.inl (SqL.of er10),?_⟩
 nofun
 refine ⟨ltf,_,_,rfl,rfl,wtf,by ac_rfl,by ac_rfl,?_,fun ph nph=>?_⟩
 ·rw[gm]
  show 1*_<=_
  ac_rfl
 rw[gm,zfh]
 have sph:=zb nph (.lst (yae (501-ra.length) (.ref tf)))
 have eph:=zq (.lst (yae (501-ra.length) (.ref tf))) nph
 have jh:zZ K (upd H10' ph (.lst (yae (501-ra.length) (.ref tf)))) tf dtf .turn 7 1:=sph _ _ jtf
 have s1B:=s19.trans (vtf.trans sph)
 generalize upd H10' ph (.lst (yae (501-ra.length) (.ref tf)))=H11 at sph eph jh s1B ⊢
 nofun
 refine ⟨bk,ph,A,b,_,_,rfl,B1.same s1B,gb,eph,ze6 jh _,by rw[yax];ac_rfl,by rw[yax];ac_rfl,fun H12 s12=>?_⟩
 have hS12:=s12.seq (s1B.seq hS1)
 nofun
 refine ⟨a,ns,rfl,hS12,?_⟩
 nofun
 exact ⟨a,ns,baseOf ns,rfl,hS12,b0,fun H' s'=>h _⟩
end
theorem zsV {K:W.Frag} {mg:Str->Option Value} (T:Txt K mg) (zg1:Src K mg "is_whole" zeo ["thing"]) (ziC:Src K mg "summed" zgM qaf) (zgG:Src K mg "table_of" zei qaf) (zjT:Src K mg "begun" zh0 qaw) (ziU:Src K mg "joined" zgU ["spans"]) (zdf:Src K mg "_law_cell_at" zb3 qah) (zfb:Src K mg "_law_draws" zda qap) (zfk:Src K mg "_law_value" zc5 qax) (zfj:Src K mg "_law_still" zdb qaj) (zeD:Src K mg "_law_falls" zcP qay) (zfQ:Src K mg "_law_sums" zdB qag) (zd9:Src K mg "_law_rising" zct qan) (zd8:Src K mg "_law_joined" zcu qak) (ze8:Src K mg "_law_plain" zcS qai) (zf7:Src K mg "is_within" zdM qar) (ziK:Src K mg "sum_by" zgN qac) (zhw:Src K mg "days_of" zfu qac) (zj1:Src K mg "moved" zh4 qaz) (zeZ:Src K mg "rate_table" zcV qac) (zea:Src K mg "still_spans" zcv qba) (zgS:Src K mg "_law_row" zem qas) (zga:Src K mg "_law_base" zdz qab) (zeN:Src K mg "_law_grace" zcY qab) (zeO:Src K mg "_law_count" zcI qab) (zgd:Src K mg "_law_dues" zdw qaj) (zfl:Src K mg "_law_table" zcL qag) (zfI:Src K mg "_law_told" zdK qbb) (zd5:Src K mg "check_terms" zcs qat) (zdV:Src K mg "fallen_dues" zcq qau) (zfH:Src K mg "_law_rows" zdG qbc) (zgK:Src K mg "_law_due" zej qak) (zfW:Src K mg "_law_made" zdu qai) (zhN:Src K mg "_law_is" zfy qbd) (zde:Src K mg "_law_refused" zcc qbe) (zdn:Src K mg "_law_crowded" zb6 qav) (zcQ:Src K mg "_law_no_terms" zbP qbf) (zlx:Src K mg "law" zju qab) (zfp:zr K (cA K (Ek.cls .out)) "word" "Out.word" zes qaa) (zeL:zr K (cA K (Ek.cls .fee)) "word" "Fee.word" zet qaa) (zeX:zr K (cA K (Ek.cls .pay)) "word" "Pay.word" zen qaa) (ze4:zr K (cA K (Ek.cls .due)) "word" "Due.word" zep qaa) (zef:zr K (cA K (Ek.cls .turn)) "word" "Turn.word" zdv qaa) (zd1:zr K (cA K (Ek.cls .rate)) "word" "Rate.word" zdH qaa) (zd2:zr K (cA K (Ek.cls .late)) "word" "Late.word" zdC qaa) (zdl:zr K (cA K (Ek.cls .still)) "word" "Still.word" zcT qaa) (zdW:zr K (cA K (Ek.cls .base)) "word" "Entry.word" zc1 qaa) (zfO:zr K (cA K (Ek.cls .out)) "row" "AmountEntry.row" zV qaa) (zf1:zr K (cA K (Ek.cls .fee)) "row" "AmountEntry.row" zV qaa) (zfK:zr K (cA K (Ek.cls .pay)) "row" "AmountEntry.row" zV qaa) (zfZ:zr K (cA K (Ek.cls .due)) "row" "AmountEntry.row" zV qaa) (zeM:zr K (cA K (Ek.cls .turn)) "row" "Entry.row" zbG qaa) (ze5:zr K (cA K (Ek.cls .rate)) "row" "RateEntry.row" zaL qaa) (zeS:zr K (cA K (Ek.cls .late)) "row" "RateEntry.row" zaL qaa) (zd0:zr K (cA K (Ek.cls .still)) "row" "Still.row" zdy qaa) (ze2:zr K (cA K (Ek.cls .base)) "row" "Entry.row" zbG qaa) (zgF:zr K (cA K "Due") "__init__" "AmountEntry.__init__" zR qad) (zgX:zr K (cA K "Fee") "__init__" "AmountEntry.__init__" zR qad) (zge:zr K (cA K "Late") "__init__" "RateEntry.__init__" zaI qal) (zgJ:zr K (cA K "Out") "__init__" "AmountEntry.__init__" zR qad) (zgZ:zr K (cA K "Pay") "__init__" "AmountEntry.__init__" zR qad) (zfV:zr K (cA K "Rate") "__init__" "RateEntry.__init__" zaI qal) (zfi:zr K (cA K "Still") "__init__" "Still.__init__" zc0 qaq) (zf4:zr K (cA K "Turn") "__init__" "Entry.__init__" za9 qae) (zdj:zma K (cA K "Entry") "__init__" "Entry.__init__" za9 qae) (zeE:zr K (cA K "Book") "count" "Book.count" zc8 qaa) (zcx:zr K (cA K "Book") "deed_days" "Book.deed_days" zbA qaa) (zf3:zr K (cA K "Book") "dues" "Book.dues" zdL qaa) (zdh:zr K (cA K "Book") "entries" "Book.entries" zca qaa) (zfT:zr K (cA K "Book") "fees" "Book.fees" zdD qaa) (zeG:zr K (cA K "Book") "grace" "Book.grace" zcZ qaa) (zeW:zr K (cA K "Book") "lates" "Book.lates" zc3 qaa) (zf8:zr K (cA K "Book") "outs" "Book.outs" zdI qaa) (zf6:zr K (cA K "Book") "pays" "Book.pays" zdx qaa) (zeI:zr K (cA K "Book") "rates" "Book.rates" zcX qaa) (zdZ:zr K (cA K "Book") "stills" "Book.stills" zcr qaa) (zfm:zr K (cA K "Book") "turns" "Book.turns" zcK qaa) (zf0:zr K (cA K "Book") "__init__" "Book.__init__" zdJ qam) (zcA:zr K (cA K "Book") "with_more" "Book.with_more" zbB qao) (zeV:zr K (cA K (Kd.cls .plain)) "name" "Count.name" zc4 qaa) (zfU:zr K (cA K (Kd.cls .bank)) "name" "Bank.name" zdN qaa) (zeb:zr K (cA K (Kd.cls .thirty)) "name" "Thirty.name" zcw qaa) (zeP:zr K (cA K (Kd.cls .exact)) "name" "Exact.name" zcO qaa) {P:Program} {w:World} {base:Heap} (LB:zmE K mg base):Def P w K mg base 8 "law" qab (zlG K):=by
 have zgR:=zoU (P:=P) (w:=w) (base:=base) zg1 T
 have ziP:∀ kd:Kd,zB P w K mg base 1 (cA K kd.cls) "name" qaa (zcH kd K):=fun kd=>by
  cases kd
  ·exact zmI .plain (by simp) zeV T
  ·exact znr .bank (by simp) zfU T
  ·exact zk2 .thirty (by simp) zeb T
  ·exact zmj .exact (by simp) zeP T
 have zT:=zk6 (P:=P) (w:=w) (base:=base) zdj T
 have zaV:=zlR (P:=P) (w:=w) (base:=base) "Turn" zf4 T
 have zG:∀ k:Ek,zB P w K mg base 1 (cA K k.cls) "word" qaa (zab k K):=fun k=>by
  cases k
  ·exact zon .out (by simp) zfp T
  ·exact zoF .fee (by simp) zeL T
  ·exact zoi .pay (by simp) zeX T
  ·exact zoB .due (by simp) ze4 T
  ·exact znu .turn (by simp) zef T
  ·exact znb .rate (by simp) zd1 T
  ·exact znH .late (by simp) zd2 T
  ·exact zm0 .still (by simp) zdl T
  ·exact zlX .base (by simp) zdW T
 have zdq:=zqh (P:=P) (w:=w) (base:=base) ziC T
 have zgP:=zok (P:=P) (w:=w) (base:=base) zgG T
 have zj5:=zr1 (P:=P) (w:=w) (base:=base) zjT T
 have ziR:=zqL (P:=P) (w:=w) (base:=base) ziU T
 have ze9:=zlP (P:=P) (w:=w) (base:=base) zeE T
 have zaw:=ziM (P:=P) (w:=w) (base:=base) zcx T
 have zfX:=znk (P:=P) (w:=w) (base:=base) zf3 T
 have zaX:=zj8 (P:=P) (w:=w) (base:=base) zdh T
 have zfR:=znn (P:=P) (w:=w) (base:=base) zfT T
 have zeJ:=zlZ (P:=P) (w:=w) (base:=base) zeG T
 have zeT:=zmP (P:=P) (w:=w) (base:=base) zeW T
 have zfM:=zna (P:=P) (w:=w) (base:=base) zf8 T
 have zfL:=znl (P:=P) (w:=w) (base:=base) zf6 T
 have zeC:=zmk (P:=P) (w:=w) (base:=base) zeI T
 have zeg:=zle (P:=P) (w:=w) (base:=base) zdZ T
 have zeY:=zml (P:=P) (w:=w) (base:=base) zfm T
 have zC:=zkt (P:=P) (w:=w) (base:=base) zdf T
 have zbv:=zmO (P:=P) (w:=w) (base:=base) zfb T
 have zeU:=zlM (P:=P) (w:=w) (base:=base) zfk T
 have ze3:=zmu (P:=P) (w:=w) (base:=base) zfj T
 have zeR:=zmw (P:=P) (w:=w) (base:=base) zeD T
 have zbJ:=znF (P:=P) (w:=w) (base:=base) zfQ T
 have zaM:=zli (P:=P) (w:=w) (base:=base) zd9 T
 have zed:=zkO (P:=P) (w:=w) (base:=base) zd8 T
 have zfo:=zlQ (P:=P) (w:=w) (base:=base) ze8 T
 have zkq:∀ k:Ek,zB P w K mg base 2 (cA K k.cls) "row" qaa (zdg k K):=fun k=>by
  cases k
  ·exact zbp .out (by simp) zfO T zG
  ·exact zbp .fee (by simp) zf1 T zG
  ·exact zbp .pay (by simp) zfK T zG
  ·exact zbp .due (by simp) zfZ T zG
  ·exact zii .turn (by simp) zeM T zG
  ·exact zfE .rate (by simp) ze5 T zG
  ·exact zfE .late (by simp) zeS T zG
  ·exact znB .still (by simp) zd0 T zG
  ·exact zii .base (by simp) ze2 T zG
 have zb9:=zbg "Due" zgF T zT
 have zgL:=zbg "Fee" zgX T zT
 have zgY:=zbg "Out" zgJ T zT
 have zb8:=zbg "Pay" zgZ T zT
 have zfS:=zfq "Late" zge T zT
 have zf2:=zfq "Rate" zfV T zT
 have zeK:=zm3 "Still" zfi T zT
 have zfP:=znw zf7 T zgR
 have zbU:=zqK ziK T zdq zG
 have zhk:=zpI zhw T zG
 have zj7:=zrN zj1 T zj5
 have zc9:=zmY zeZ T zgP zG
 have zec:=zkQ zea T zG ziR
 have zbZ:=zoc zgS T zbv zeU
 have zbk:=znp zga T zC
 have za3:=zme zeN T zC
 have zcU:=zmX zeO T zC
 have zfN:=zne zgd T ze3 zeR zbJ
 have zcM:=zmN zfl T zaM
 have zf5:=znx zfI T zeg zeT zeC zeY zfL zfR zfM zaw zfX
 have zd6:=zkP zd5 T zfP
 have zd4:=zlg zdV T zdq zbU zj7
 have zf9:=znj zfH T zbk zbv zC zbZ
 have zgW:=zom zgK T zaM zbJ zed zcM zfN
 have zaA:=zng zf0 T zd6 zbU zhk zc9 zec zd4
 have zcn:=znI zfW T zgY zgL zaV zb8 zb9 zf2 zfS zeK
 have zhQ:=zp1 zhN T zf5 zgW zaX zkq zfo ziP ze9 zC zeJ za3
 have zax:=ziT zcA T zaA
 have zaW:=zkr zde T zaA
 have zce:=zjL zdn T zax
 have zc2:=zjn zcQ T zC zb8 zaW
 have zta:=ztd zlx T LB zf9 zcn zaA za3 zcU zaV zbZ zbk zax zhQ zb9 zaX zaw zce zC zc2
 exact zta
end My
local macro_rules | `(tactic| walk_at "m")=>do
 let [i,f,k,l,c,b]:=[`i,`f,`k,`l,`c,`b].map Lean.mkIdent | unreachable!
 `(tactic| ((case $i:ident=>k_is);(case $f:ident=>k_is);(case $k:ident=>k_is);(case $l:ident=>k_is);(case $c:ident=>k_is);(case $b:ident=>walk_at "s1")))
local macro_rules | `(tactic| walk_at "n")=>do
 let [a,l,c,k,b]:=[`a,`l,`c,`k,`b].map Lean.mkIdent | unreachable!
 `(tactic| ((case $a:ident=>k_is);(case $l:ident=>k_is);(case $c:ident=>k_is);(case $k:ident=>k_is);(case $b:ident=>walk_at "s1")))
local macro_rules | `(tactic| exists $x:term,$y:term,$z:term,$t:term,$u:term)=>do
 let [i,f,k,l,c,b]:=[`i,`f,`k,`l,`c,`b].map Lean.mkIdent | unreachable!
 `(tactic| (refine' L2.zz (m:=$x) (qual:=$y) (st:=$z) (ps:=$t) $u ?$i ?$f ?$k ?$l ?$c ?$b;walk_at "m"))
local macro_rules | `(tactic| exists $x:term,$y:term,$t:term)=>do
 let [X,G,a,l,c,k,b]:=[`KX,`G,`a,`l,`c,`k,`b].map Lean.mkIdent | unreachable!
 `(tactic| (refine' L2.zJ (x:=$x) (st:=$y) (ps:=$t) $X $G ?$a ?$l ?$c ?$k ?$b;walk_at "n"))
open PySem PySem.W PyProof.Rows L2 My
set_option maxRecDepth 100000 in
set_option maxHeartbeats 0 in
theorem PySem.Challenge.cw_loanroll_k41_books_told_holds : PySem.Challenge.rw_loanroll_k41_books_told.Holds := by
 refine _root_.hd ?_
 k_fill
 refine zpM (l:=PySem.Challenge.rw_loanroll_k41_books_told) (lv:=8) (sp:=zlG) (x:="_law_script") (st:=zju) rfl rfl rfl ?D ⟨rfl,by decide,by decide⟩ (fun w h Y=>PySem.W.kIn_of Y) ?N ?F (fun K H a ns hl hS hP=>⟨a,ns,rfl,hS,hl,hP,fun _=>rfl⟩)
 case D=>exact List.mem_of_find?_eq_some (p:=fun e:DefRec=>e.name == "law") rfl
 case N=>(intro w;kernel_rfl)
 case F =>
  intro w mg h KX G
  have a_law:=by refine' zaG (x:="law") KX ?a;case a=>k_is
  have zlO:mg "bool" = none:=mg_none_of KX G (by k_is)
  have zi6:mg "dict" = none:=mg_none_of KX G (by k_is)
  have zlq:mg "int" = none:=mg_none_of KX G (by k_is)
  have zat:mg "isinstance" = none:=mg_none_of KX G (by k_is)
  have zeq:mg "len" = none:=mg_none_of KX G (by k_is)
  have zbt:mg "list" = none:=mg_none_of KX G (by k_is)
  have zjB:mg "max" = none:=mg_none_of KX G (by k_is)
  have zlu:mg "min" = none:=mg_none_of KX G (by k_is)
  have zgg:mg "range" = none:=mg_none_of KX G (by k_is)
  have zh8:mg "set" = none:=mg_none_of KX G (by k_is)
  have zaN:mg "sorted" = none:=mg_none_of KX G (by k_is)
  have a_Bank:=by refine' zaG (x:="Bank") KX ?a;case a=>k_is
  have a_Book:=by refine' zaG (x:="Book") KX ?a;case a=>k_is
  have a_Count:=by refine' zaG (x:="Count") KX ?a;case a=>k_is
  have a_Due:=by refine' zaG (x:="Due") KX ?a;case a=>k_is
  have a_Entry:=by refine' zaG (x:="Entry") KX ?a;case a=>k_is
  have a_Exact:=by refine' zaG (x:="Exact") KX ?a;case a=>k_is
  have a_Fee:=by refine' zaG (x:="Fee") KX ?a;case a=>k_is
  have a_Late:=by refine' zaG (x:="Late") KX ?a;case a=>k_is
  have a_LoanError:=by refine' zaG (x:="LoanError") KX ?a;case a=>k_is
  have a_NoTerms:=by refine' zaG (x:="NoTerms") KX ?a;case a=>k_is
  have a_Out:=by refine' zaG (x:="Out") KX ?a;case a=>k_is
  have a_Pay:=by refine' zaG (x:="Pay") KX ?a;case a=>k_is
  have a_Rate:=by refine' zaG (x:="Rate") KX ?a;case a=>k_is
  have a_Still:=by refine' zaG (x:="Still") KX ?a;case a=>k_is
  have a_Thirty:=by refine' zaG (x:="Thirty") KX ?a;case a=>k_is
  have a_TooMany:=by refine' zaG (x:="TooMany") KX ?a;case a=>k_is
  have a_Turn:=by refine' zaG (x:="Turn") KX ?a;case a=>k_is
  have cls_Count:=by refine' zbi a_Count ?_ ?_ ?_ ?_;all_goals k_is
  have zpa:=by refine' zjA a_Count ?_ ?_ ?_;all_goals k_is
  have cls_Bank:=by refine' zbi a_Bank ?_ ?_ ?_ ?_;all_goals k_is
  have zp6:=by refine' zjA a_Bank ?_ ?_ ?_;all_goals k_is
  have cls_Thirty:=by refine' zbi a_Thirty ?_ ?_ ?_ ?_;all_goals k_is
  have zot:=by refine' zjA a_Thirty ?_ ?_ ?_;all_goals k_is
  have cls_Exact:=by refine' zbi a_Exact ?_ ?_ ?_ ?_;all_goals k_is
  have zpH:=by refine' zjA a_Exact ?_ ?_ ?_;all_goals k_is
  have zeV:=by exists "name","Count.name",zc4,qaa,a_Count
  have zfU:=by exists "name","Bank.name",zdN,qaa,a_Bank
  have zeb:=by exists "name","Thirty.name",zcw,qaa,a_Thirty
  have zeP:=by exists "name","Exact.name",zcO,qaa,a_Exact
  have ikK_Count:=by refine' zh9 a_Count ?_ ?_ ?_ ?_;all_goals k_is
  have kS_Count:=by refine' zhU (v:=false) (n:="str") a_Count ?_;kit_is
  have kK_Count_Count:=by refine' zdQ (v:=true) a_Count a_Count ?_;kit_is
  have ikK_Bank:=by refine' zh9 a_Bank ?_ ?_ ?_ ?_;all_goals k_is
  have kS_Bank:=by refine' zhU (v:=false) (n:="str") a_Bank ?_;kit_is
  have kK_Bank_Count:=by refine' zdQ (v:=true) a_Bank a_Count ?_;kit_is
  have ikK_Thirty:=by refine' zh9 a_Thirty ?_ ?_ ?_ ?_;all_goals k_is
  have kS_Thirty:=by refine' zhU (v:=false) (n:="str") a_Thirty ?_;kit_is
  have kK_Thirty_Count:=by refine' zdQ (v:=true) a_Thirty a_Count ?_;kit_is
  have ikK_Exact:=by refine' zh9 a_Exact ?_ ?_ ?_ ?_;all_goals k_is
  have kS_Exact:=by refine' zhU (v:=false) (n:="str") a_Exact ?_;kit_is
  have kK_Exact_Count:=by refine' zdQ (v:=true) a_Exact a_Count ?_;kit_is
  have zgj:=zbS KX G a_Bank
  have zgC:=zbS KX G a_Book
  have zhV:=zbS KX G a_Count
  have zlp:=zbS KX G a_Due
  have zgl:=zbS KX G a_Entry
  have zjV:=zbS KX G a_Exact
  have zoI:=zbS KX G a_Fee
  have zmd:=zbS KX G a_Late
  have zdF:=zbS KX G a_LoanError
  have zcG:=zbS KX G a_NoTerms
  have zop:=zbS KX G a_Out
  have zls:=zbS KX G a_Pay
  have zlT:=zbS KX G a_Rate
  have zjM:=zbS KX G a_Still
  have ziV:=zbS KX G a_Thirty
  have zcE:=zbS KX G a_TooMany
  have zgw:=zbS KX G a_Turn
  have zv:=by refine' zbi a_Book ?_ ?_ ?_ ?_;all_goals k_is
  have zew:=by refine' zcN a_Book ?_ ?_;all_goals k_is
  have clE_Out:=by refine' zbi a_Out ?_ ?_ ?_ ?_;all_goals k_is
  have clE_Fee:=by refine' zbi a_Fee ?_ ?_ ?_ ?_;all_goals k_is
  have clE_Pay:=by refine' zbi a_Pay ?_ ?_ ?_ ?_;all_goals k_is
  have clE_Due:=by refine' zbi a_Due ?_ ?_ ?_ ?_;all_goals k_is
  have clE_Turn:=by refine' zbi a_Turn ?_ ?_ ?_ ?_;all_goals k_is
  have clE_Rate:=by refine' zbi a_Rate ?_ ?_ ?_ ?_;all_goals k_is
  have clE_Late:=by refine' zbi a_Late ?_ ?_ ?_ ?_;all_goals k_is
  have clE_Still:=by refine' zbi a_Still ?_ ?_ ?_ ?_;all_goals k_is
  have clE_Entry:=by refine' zbi a_Entry ?_ ?_ ?_ ?_;all_goals k_is
  have zkp:=by
   refine' zH (name:="amount") a_Out ?_
   k_is
  have zkl:=by
   refine' zH (name:="amount") a_Fee ?_
   k_is
  have zjP:=by
   refine' zH (name:="amount") a_Pay ?_
   k_is
  have zjS:=by
   refine' zH (name:="amount") a_Due ?_
   k_is
  have zjq:=by
   refine' zH (name:="amount") a_Turn ?_
   k_is
  have zje:=by
   refine' zH (name:="amount") a_Rate ?_
   k_is
  have zjg:=by
   refine' zH (name:="amount") a_Late ?_
   k_is
  have ziL:=by
   refine' zH (name:="amount") a_Still ?_
   k_is
  have ziI:=by
   refine' zH (name:="amount") a_Entry ?_
   k_is
  have znd:=by
   refine' zH (name:="day") a_Out ?_
   k_is
  have znf:=by
   refine' zH (name:="day") a_Fee ?_
   k_is
  have zno:=by
   refine' zH (name:="day") a_Pay ?_
   k_is
  have zny:=by
   refine' zH (name:="day") a_Due ?_
   k_is
  have zmZ:=by
   refine' zH (name:="day") a_Turn ?_
   k_is
  have zmB:=by
   refine' zH (name:="day") a_Rate ?_
   k_is
  have zlF:=by
   refine' zH (name:="day") a_Late ?_
   k_is
  have zk5:=by
   refine' zH (name:="day") a_Still ?_
   k_is
  have zk0:=by
   refine' zH (name:="day") a_Entry ?_
   k_is
  have zmC:=by
   refine' zH (name:="rate") a_Out ?_
   k_is
  have zmx:=by
   refine' zH (name:="rate") a_Fee ?_
   k_is
  have zmR:=by
   refine' zH (name:="rate") a_Pay ?_
   k_is
  have zm4:=by
   refine' zH (name:="rate") a_Due ?_
   k_is
  have zk4:=by
   refine' zH (name:="rate") a_Turn ?_
   k_is
  have zlc:=by
   refine' zH (name:="rate") a_Rate ?_
   k_is
  have zkR:=by
   refine' zH (name:="rate") a_Late ?_
   k_is
  have zkn:=by
   refine' zH (name:="rate") a_Still ?_
   k_is
  have zka:=by
   refine' zH (name:="rate") a_Entry ?_
   k_is
  have zkY:=by
   refine' zH (name:="until") a_Out ?_
   k_is
  have zlk:=by
   refine' zH (name:="until") a_Fee ?_
   k_is
  have zk3:=by
   refine' zH (name:="until") a_Pay ?_
   k_is
  have zk1:=by
   refine' zH (name:="until") a_Due ?_
   k_is
  have zjN:=by
   refine' zH (name:="until") a_Turn ?_
   k_is
  have zks:=by
   refine' zH (name:="until") a_Rate ?_
   k_is
  have zkk:=by
   refine' zH (name:="until") a_Late ?_
   k_is
  have zi4:=by
   refine' zH (name:="until") a_Still ?_
   k_is
  have zjo:=by
   refine' zH (name:="until") a_Entry ?_
   k_is
  have zjv:=by refine' zcN a_Due ?_ ?_;all_goals k_is
  have zmS:=by refine' zcN a_Fee ?_ ?_;all_goals k_is
  have zjQ:=by refine' zcN a_Late ?_ ?_;all_goals k_is
  have zmo:=by refine' zcN a_Out ?_ ?_;all_goals k_is
  have zjD:=by refine' zcN a_Pay ?_ ?_;all_goals k_is
  have zj2:=by refine' zcN a_Rate ?_ ?_;all_goals k_is
  have ziH:=by refine' zcN a_Still ?_ ?_;all_goals k_is
  have zey:=by refine' zcN a_Turn ?_ ?_;all_goals k_is
  have zfp:=by exists "word","Out.word",zes,qaa,a_Out
  have zeL:=by exists "word","Fee.word",zet,qaa,a_Fee
  have zeX:=by exists "word","Pay.word",zen,qaa,a_Pay
  have ze4:=by exists "word","Due.word",zep,qaa,a_Due
  have zef:=by exists "word","Turn.word",zdv,qaa,a_Turn
  have zd1:=by exists "word","Rate.word",zdH,qaa,a_Rate
  have zd2:=by exists "word","Late.word",zdC,qaa,a_Late
  have zdl:=by exists "word","Still.word",zcT,qaa,a_Still
  have zdW:=by exists "word","Entry.word",zc1,qaa,a_Entry
  have zfO:=by exists "row","AmountEntry.row",zV,qaa,a_Out
  have zf1:=by exists "row","AmountEntry.row",zV,qaa,a_Fee
  have zfK:=by exists "row","AmountEntry.row",zV,qaa,a_Pay
  have zfZ:=by exists "row","AmountEntry.row",zV,qaa,a_Due
  have zeM:=by exists "row","Entry.row",zbG,qaa,a_Turn
  have ze5:=by exists "row","RateEntry.row",zaL,qaa,a_Rate
  have zeS:=by exists "row","RateEntry.row",zaL,qaa,a_Late
  have zd0:=by exists "row","Still.row",zdy,qaa,a_Still
  have ze2:=by exists "row","Entry.row",zbG,qaa,a_Entry
  have zgF:=by exists "__init__","AmountEntry.__init__",zR,qad,a_Due
  have zgX:=by exists "__init__","AmountEntry.__init__",zR,qad,a_Fee
  have zge:=by exists "__init__","RateEntry.__init__",zaI,qal,a_Late
  have zgJ:=by exists "__init__","AmountEntry.__init__",zR,qad,a_Out
  have zgZ:=by exists "__init__","AmountEntry.__init__",zR,qad,a_Pay
  have zfV:=by exists "__init__","RateEntry.__init__",zaI,qal,a_Rate
  have zfi:=by exists "__init__","Still.__init__",zc0,qaq,a_Still
  have zf4:=by exists "__init__","Entry.__init__",za9,qae,a_Turn
  have zdj:=by
   refine' zsq (m:="__init__") (qual:="Entry.__init__") (st:=za9) (ps:=qae) a_Entry ?x1 ?x2 ?x3 ?x4 ?k ?l ?c ?b
   (case x1|x2|x3=>k_is);(case x4=>rfl);(case k|l|c=>k_is)
   case b=>exact L2.us2 fun _ _=>rfl
  have zbz:=by
   refine' zH (name:="due_sums") a_Book ?_
   k_is
  have zaZ:=by
   refine' zH (name:="fee_sums") a_Book ?_
   k_is
  have zbl:=by
   refine' zH (name:="late_rows") a_Book ?_
   k_is
  have za7:=by
   refine' zH (name:="out_sums") a_Book ?_
   k_is
  have zaR:=by
   refine' zH (name:="own_count") a_Book ?_
   k_is
  have zaE:=by
   refine' zH (name:="own_entries") a_Book ?_
   k_is
  have zaP:=by
   refine' zH (name:="own_grace") a_Book ?_
   k_is
  have zaY:=by
   refine' zH (name:="pay_sums") a_Book ?_
   k_is
  have zbm:=by
   refine' zH (name:="rate_rows") a_Book ?_
   k_is
  have zbE:=by
   refine' zH (name:="spans") a_Book ?_
   k_is
  have zaQ:=by
   refine' zH (name:="turn_days") a_Book ?_
   k_is
  have zeE:=by exists "count","Book.count",zc8,qaa,a_Book
  have zcx:=by exists "deed_days","Book.deed_days",zbA,qaa,a_Book
  have zf3:=by exists "dues","Book.dues",zdL,qaa,a_Book
  have zdh:=by exists "entries","Book.entries",zca,qaa,a_Book
  have zfT:=by exists "fees","Book.fees",zdD,qaa,a_Book
  have zeG:=by exists "grace","Book.grace",zcZ,qaa,a_Book
  have zeW:=by exists "lates","Book.lates",zc3,qaa,a_Book
  have zf8:=by exists "outs","Book.outs",zdI,qaa,a_Book
  have zf6:=by exists "pays","Book.pays",zdx,qaa,a_Book
  have zeI:=by exists "rates","Book.rates",zcX,qaa,a_Book
  have zdZ:=by exists "stills","Book.stills",zcr,qaa,a_Book
  have zfm:=by exists "turns","Book.turns",zcK,qaa,a_Book
  have zf0:=by exists "__init__","Book.__init__",zdJ,qam,a_Book
  have zcA:=by exists "with_more","Book.with_more",zbB,qao,a_Book
  have x_NoTerms:=by
   refine' zrb a_NoTerms ?_
   k_exc
  have x_TooMany:=by
   refine' zrb a_TooMany ?_
   k_exc
  have z_NoTerms:=by refine' zrd a_NoTerms ?_ ?_ ?_ ?_ ?_ ?_ ?_;all_goals k_is
  have z_TooMany:=by refine' zrd a_TooMany ?_ ?_ ?_ ?_ ?_ ?_ ?_;all_goals k_is
  have e_NoTerms_NoTerms:=by refine' zpx a_NoTerms a_NoTerms ?_ ?_ ?_ ?_;all_goals k_is
  have e_TooMany_TooMany:=by refine' zpx a_TooMany a_TooMany ?_ ?_ ?_ ?_;all_goals k_is
  have eF_TooMany_NoTerms:=by refine' zre a_TooMany a_NoTerms ?_ ?_ ?_ ?_;all_goals k_is
  have k_NoTerms_LoanError:=by refine' zdQ (v:=true) a_NoTerms a_LoanError ?_;kit_is
  have k_NoTerms_TooMany:=by refine' zdQ (v:=false) a_NoTerms a_TooMany ?_;kit_is
  have k_TooMany_LoanError:=by refine' zdQ (v:=true) a_TooMany a_LoanError ?_;kit_is
  have k_TooMany_NoTerms:=by refine' zdQ (v:=false) a_TooMany a_NoTerms ?_;kit_is
  have kT_NoneType_Count:=by refine' zh1 (v:=false) (n:="NoneType") a_Count ?_;kit_is
  have kT_str_Count:=by refine' zh1 (v:=false) (n:="str") a_Count ?_;kit_is
  have kT_int_Count:=by refine' zh1 (v:=false) (n:="int") a_Count ?_;kit_is
  have kT_bool_Count:=by refine' zh1 (v:=false) (n:="bool") a_Count ?_;kit_is
  have zdt:=by refine' znM (mg:=mg) (x:="MOST_ENTRIES") (i:=500) KX G ?a;case a=>k_is
  have zfa:=by refine' znM (mg:=mg) (x:="MOST_GRACE") (i:=366) KX G ?a;case a=>k_is
  have zg1:=by exists "is_whole",zeo,["thing"]
  have ziC:=by exists "summed",zgM,qaf
  have zgG:=by exists "table_of",zei,qaf
  have zjT:=by exists "begun",zh0,qaw
  have ziU:=by exists "joined",zgU,["spans"]
  have zdf:=by exists "_law_cell_at",zb3,qah
  have zfb:=by exists "_law_draws",zda,qap
  have zfk:=by exists "_law_value",zc5,qax
  have zfj:=by exists "_law_still",zdb,qaj
  have zeD:=by exists "_law_falls",zcP,qay
  have zfQ:=by exists "_law_sums",zdB,qag
  have zd9:=by exists "_law_rising",zct,qan
  have zd8:=by exists "_law_joined",zcu,qak
  have ze8:=by exists "_law_plain",zcS,qai
  have zf7:=by exists "is_within",zdM,qar
  have ziK:=by exists "sum_by",zgN,qac
  have zhw:=by exists "days_of",zfu,qac
  have zj1:=by exists "moved",zh4,qaz
  have zeZ:=by exists "rate_table",zcV,qac
  have zea:=by exists "still_spans",zcv,qba
  have zgS:=by exists "_law_row",zem,qas
  have zga:=by exists "_law_base",zdz,qab
  have zeN:=by exists "_law_grace",zcY,qab
  have zeO:=by exists "_law_count",zcI,qab
  have zgd:=by exists "_law_dues",zdw,qaj
  have zfl:=by exists "_law_table",zcL,qag
  have zfI:=by exists "_law_told",zdK,qbb
  have zd5:=by exists "check_terms",zcs,qat
  have zdV:=by exists "fallen_dues",zcq,qau
  have zfH:=by exists "_law_rows",zdG,qbc
  have zgK:=by exists "_law_due",zej,qak
  have zfW:=by exists "_law_made",zdu,qai
  have zhN:=by exists "_law_is",zfy,qbd
  have zde:=by exists "_law_refused",zcc,qbe
  have zdn:=by exists "_law_crowded",zb6,qav
  have zcQ:=by exists "_law_no_terms",zbP,qbf
  have zlx:=by exists "law",zju,qab
  exact ⟨⟨_,a_law⟩,zlx,fun base LB=>zsV (⟨zlO,zi6,zlq,zat,zeq,zbt,zjB,zlu,zgg,zh8,zaN,(fun kd=>match kd with | .plain=>cls_Count | .bank=>cls_Bank | .thirty=>cls_Thirty | .exact=>cls_Exact),(fun kd=>match kd with | .plain=>zpa | .bank=>zp6 | .thirty=>zot | .exact=>zpH),(fun kd=>match kd with | .plain=>ikK_Count | .bank=>ikK_Bank | .thirty=>ikK_Thirty | .exact=>ikK_Exact),(fun k=>match k with | .plain=>kK_Count_Count | .bank=>kK_Bank_Count | .thirty=>kK_Thirty_Count | .exact=>kK_Exact_Count),(fun kd=>match kd with | .plain=>kS_Count | .bank=>kS_Bank | .thirty=>kS_Thirty | .exact=>kS_Exact),zgj,zgC,zhV,zlp,zgl,zjV,zoI,zmd,zdF,zcG,zop,zls,zlT,zjM,ziV,zcE,zgw,zv,zew,(fun k=>match k with | .out=>clE_Out | .fee=>clE_Fee | .pay=>clE_Pay | .due=>clE_Due | .turn=>clE_Turn | .rate=>clE_Rate | .late=>clE_Late | .still=>clE_Still | .base=>clE_Entry),(fun k=>match k with | .out=>zkp | .fee=>zkl | .pay=>zjP | .due=>zjS | .turn=>zjq | .rate=>zje | .late=>zjg | .still=>ziL | .base=>ziI),(fun k=>match k with | .out=>znd | .fee=>znf | .pay=>zno | .due=>zny | .turn=>zmZ | .rate=>zmB | .late=>zlF | .still=>zk5 | .base=>zk0),(fun k=>match k with | .out=>zmC | .fee=>zmx | .pay=>zmR | .due=>zm4 | .turn=>zk4 | .rate=>zlc | .late=>zkR | .still=>zkn | .base=>zka),(fun k=>match k with | .out=>zkY | .fee=>zlk | .pay=>zk3 | .due=>zk1 | .turn=>zjN | .rate=>zks | .late=>zkk | .still=>zi4 | .base=>zjo),zjv,zmS,zjQ,zmo,zjD,zj2,ziH,zey,zbz,zaZ,zbl,za7,zaR,zaE,zaP,zaY,zbm,zbE,zaQ,x_NoTerms,x_TooMany,z_NoTerms,z_TooMany,e_NoTerms_NoTerms,e_TooMany_TooMany,eF_TooMany_NoTerms,k_NoTerms_LoanError,k_NoTerms_TooMany,k_TooMany_LoanError,k_TooMany_NoTerms,kT_NoneType_Count,kT_str_Count,kT_int_Count,kT_bool_Count,zdt,zfa⟩:My.Txt _ mg) zg1 ziC zgG zjT ziU zdf zfb zfk zfj zeD zfQ zd9 zd8 ze8 zf7 ziK zhw zj1 zeZ zea zgS zga zeN zeO zgd zfl zfI zd5 zdV zfH zgK zfW zhN zde zdn zcQ zlx zfp zeL zeX ze4 zef zd1 zd2 zdl zdW zfO zf1 zfK zfZ zeM ze5 zeS zd0 ze2 zgF zgX zge zgJ zgZ zfV zfi zf4 zdj zeE zcx zf3 zdh zfT zeG zeW zf8 zf6 zeI zdZ zfm zf0 zcA zeV zfU zeb zeP LB⟩
