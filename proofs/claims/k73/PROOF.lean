import PyProof.Rows.All
import Wide.All
import OpenK.KSplit
import OpenK.KNot
import OpenK.KApp
import KE.KIsAll
import KE.RegKIsAll
import KE.LcSums
import KE.KItem
import KE.KSortTup
import KE.KSortAsk
import KE.KDictOf
import KE.KItemsList
import Wide.FinOn
import Lean
import PyProof.EqAt
import PyProof.EqKinds
import PyProof.TupleCall
import PyProof.Rows.CallKwBuiltin
import PySem.Challenge.RW_loanroll_k73_harder_by_one
set_option Elab.async false
set_option linter.all false
set_option maxRecDepth 100000
set_option maxHeartbeats 20000000
noncomputable section
set_option genSizeOf false
namespace PySem.W.Fast
local macro_rules | `(command| #check [$x,*])=>do
 return Lean.mkNullNode (<-x.getElems.mapM λ x=>`(command| def $(Lean.mkIdent (.mkSimple s!"tw{x.raw.isNatLit?.get!}")):ident:=0))
#check [1875067876289090615,6332326510096782760,2455064313989286321,7351761721107533599,4744403521286499667,861502493610598483,449258236543025065,5086556237032957090,3929716308415612584,2900759804662662550,4209513143971477052,6604094787440423244,5176576539398594111,12620873455715996183,14814267008950123050,8174326144747286996,7774113678449685934,4882576159216465958,10982607960206986724,4938231688903256454,16947378819872066576,13797646191491285992,11606288678410610225,7998388988547395671,11840879243994029254,2463159546536120769,14221096863170989933,8915285831880473931,4413860948169739490,16203366879757453535,3801850119919557013,13348088958985639553,14575388751658381831,8997383693586321770,10338525752309723421,18310463660012746435,3481832742750146777,16212330677787901120,5171440476677080432,14284835775768690865,16378183091871739711,17883462748017686043,9399754086935153974,247591363613054380,7933485763601977624,5462360663327728810,15541240446876304647,9110073282318264632,9646623106273453227,10052031235695348791,5000232492035539693,5323657890516693427,15805137534098808535,18328257000508772394,17713387462200973399,5622701340561072331,16086907953836968628,7053471978191194526,1950803216711332702,5388589039460942527,14760874974797668852,11095110211248682772,12826555694032677247,5505873664634666032,9057035906848192889,12462768516373914062,16765560720781731146,12058884036946728934,10510056951384868246,16103829930404553856,6259241058660970061,9223045988441327695,12298192366917762067,7480016910919988345,16822532161544500889,4524658085876675188,10294078964567370430,2597523674469684444,8297923619242306668,446995266069924076,6356304189028158447,14243238205550065757,17188069144378779261,12297992134047619483,10295913840692754127,15870398105094248349,4804111812005502284,360634875079729221,14564479935002850509,4548300405975405348,12269216009862288129,5522115075389312692,4683681711962371626,11738243743197964597,2768188642542392010,896878414759379649,8374155422468719031,16122013675670037407,12468840222048715292,5702276774652866934,4026147355466621588,12396662096508845406,18400553757987027518,18418582437962087742,16902085369446701243,16101134707931498060,5444512763150141072,9003107776662980439,6701911527682315725,11525993766095887173,9381626543082597023,2997492091776894028,14736888041290939073,4884199854448574,18407495941553956032,14081431093454284249,13931877327420345601,5537553045615171315,2789304352393801511,3668986818325518241,16945406819829945896,14819390147424179368,17137270108147033825,2314974601033795270,14334995849660946996,9553971096990549364,10282777137419654623,14842496431369740429,16409965706819354750,15127105006835628225,4906484309439969231,15699961213505342161,2950685276103557050,12088173506995129815,5072417060200589145,17315057650846758953,16412085850373738351,14689541978594310382,5805800948307579973,13769103115541136327,3641951560692057861,11962351593759143498,14746253646979254834,13539809779269347639,866717566613908145,8865387616306378214,7476452910721959123,17508347553164502932,4313010194945074917,12884060626414724322,4734895289157585001,12488014758255163090,87601786513091389,16422413458241162112,14847308668706973960,16721508838639397229,16132249320637822498,9848817304349107530,13303234937177203706,15254633091992210921,14993981098963755598,5217270863462422736,8331849164307833061,16864618592142003386,3475869608268796686,6128145076113358165,14903569129155370506,9592300441314626372,15565715512253457277,9536688357841153863,14329579894275425762,4075453323654395381,8186657734068701312,5725222548895626118,14219159868682941630,12099505692703838030,258204147387103276,18003772858949239459,15621116118777243554,1383625962624193546,9530734954097333506,10911716485165742097,4267111383703672358,12627051441459223148,615563214671542189,11373181179767321252,2925816871977632210,14611616552423853409,13257283266767686631,4211115844707057057,7151132215420815488,10026605065719503897,4565167180653195659,7873786274422454737,13032259773685033708,2424988045566436242,4171853373547519906,14961746396406840608,9215358943560890414,18248855084332350957]
#check [10387345722656961088,1932759071263863916,1922157984580058403,5037459499596335280,15002400197546761880,10792498714594961201,10624116801336726872,12903330217458380548,9757595895972200118,7943549864190904611,12188032599808994241,16248296213531012650,16860917588515726111,9320515035125037321,11824586356888161845,9317495090193701157,12798174099139212305,6542358382571353910,8432719020341155521,4547051000311932777,15495752065017430504,13034982811429478159,14170518179582410385,7249310025045793396,727553628536289456,16670775579421159206,15771247859494662083,6508132753307246276,13465540834166320765,4545961482378311905,5008593111378822452,17937168697417666835,8274446707539698164,17013487888433625170,12382822922155266910,12930229547647579594,14398111036562950334,6145912378217320015,14935156969734317764,8159993647027272844,16626521671886133394,14560624547652848805,3110587219445414310,11153475782318119604,5634867526602368427,6327569006664949090,1998347030407657756,11219443903484984970,16005714805435085966,6469784823511061222,15042883488752021643,539538531456391632,11308061921803828041,4772062507164038959,18384110700954362821,14135006944967825841,6194202620331982285,17163426234232328066,5483103596317574428,6056707288978253535,1972164579936704799,4309217394794523951,13459084325293418506,1979317910248211280,9387514328989991554,2046362190076281809,12747814925858328940,8356303796347215682,12003660372656728261,11384182702204212275,890339118813698166,14061609134260724683,8752102160057688731,5404398260228975080,10888863842102328177,3953844824629472508,11297082531147528311,4939483507329107499,15936768558149881340,14117097954491500355,6369209040635485196,11334998314355692241,15955381562552725985,2595585439558603231,13547939009206843870,8760152093665844161,11161164713144168021,4039707410889071942,8757050672659960515,13053770412826190925,2990168724187919761,6968137755033780318,1142673529048489019,7164969610272591079,12330612334027959195,2107523057676978006,7424060955962978353,140001813534094272,12125097214300078407,14785633479632635281,12738610918357793766,8739830900816887780,4480162626587320490,16109456028575089023,786537726763496527,15779231459743154856,8737599933303070863,8157277791214410489,4290864757253303354,8115137120850386438,3374319085511977134,14833712730911297017,1205604411410820431,13215348057498601715,14022695629967993375,3520257249291928256,16728255500844073214,13307065042914920193,6248682570935725439,3985964047577975286,14594842627406614536,4189273013823423559,5342471268416680606,6575520176995025181,11513857634932158529,15577281813014381367,4341293187932698999,987426779421491659,17862349074038704544,14607143338591219252,18101783494082082527,4699756791338806529,16203965252921439515,11180800956215176064,3198059409981156222,11434409910335936926,11368310244458860372,14963028359598502718,2392593158011319353,7837367980739423823,16839002366802243188,12542895121996172375,1986786360949550309,6945566481307383155,4323258101793500111,8919978131948313185,11076892268299887525,3726453103677007866,18031968618487185184,5665240888008139550,2172276787581067923,1692201390411429781,7220529860990300233,13055953723892786844,740290905518256060,10159399881129095643,17510684818845775701,908480701973217441,5890639436620234070,4493901809537577575,15235614512728720,9113380124883318265,6607644564249050058,9592521066531166775,2708214617527550399,6162269159774324313,14617222483516278133,11024694936033576346,4408816720484365081,17817366049700826239,2474200967059427378,3233987462203235646,6651725471809605288,13851971633180934007,10958628066121416707,3328118118096588273,8002303944043701648,13444670453868202053,855453113358079251,12887044766017154078,16298917771340976007,15168571331116189253,3997487885647526937,6657536258744368796,8080008513338510535,4015202173357781934,12917704675397863716,17986951261819808105,9972681490609642005,11266997524610791606,3897268976836264337,8422229294311615681,2483420100392427323,2261719852989239553,2213964242967304950,3713540243193553862,16120054744476736488,2400638427578300857,577049184839899653,17271881437230615512]
#check [7764699552788554220,12681666616541194006,8757255369765604158,11898673842065290130,172746767574481773,514280064592716601,16035376269474964883,5498123283257192965,7509565986652818475,4938610541543285704,9919008367099125623,4635989785427082552,10519837036962490867,5783627655825047438,15593559885672580101,296083027919845158,12715800853834201459,2527701527901579348,5467331546851215429,5362036446546632119,12315944733273679750,16902440903046159558,2455152089536381482,8908233856664302321,16260866306193365299,11205608169257636508,1717767836212652739,1000662321505670351,11717715558655726156,2295934692909999376,8498532028676091811,15702583709834301711,16053306600634468012,14811890972901180937,628631919661052299,3215387988796971590,1158361714356455011,1342123614928995077,8285278889055680438,7086961617601330827,2692750590507578028,17659185236578331656,17980500129456985241,2187251505897268136,13394580363473044415,11692469974320434101,15227483606004533461,16226643914720891334,14424681132571578402,18105302477358141223,211337195705725219,9402243437249704421,9879335643197240621,2694234056635809718,13142635158332540280,8924819469995637033,11853640710764476214,7181997581385953548,15433366417846715934,6472337539984862722,17339309145561079191,16955839230299176341,14404928986312190071,14592624751514493413,17348111734160510231,16003985067176294414,12717557048674177747,17410218998227585676,12020253756985099128,7091221385724896812,16217903435359918192,10879749546641988924,5010956058597451964,4903002758410956813,16753820520455620202,4436474186459923750,18073898193381586223,4046790133079468173,9197174079833555027,13462424878891718212,2466311954974566718,10988764466652934233,523537741815420091,18293242582946804979,7592715696027808041,4512776594637900181,4849480874435393781,17187875760726034783,6549852094080907030,3238445694619138142,11066385474520676512,14441679199631801671,13812277999558781770,12601900475763903673,938635154573522699,1915925776726481438,17312402878845073609,3049343062529576306,15438627641174518403,18004296560267143027,5694767641087392711,17464319187374939960,5832146486336120021,9510108024173832781,16925712312323332580,14647417624928369756,3099597729799864441,11033627544408312984,4946147512530127568,8222940686941784037,17852080271459398996,1719895430356276633,6216382948874008006,4859391219904099992,384561282630992784,5667099127317398114,1205274952441263945,17334828202450815106,3300454383303005205,12369848792361866835,7485256538410118956,13913613514976480042,15763482434359817770,8278001386518606062,8949853181751564097,977512076041815475,2399617604181995578,17292613610259460706,1467881925912835984,2403389108928632939,17435391645217708394,9495317472360511255,8899516883271353254,16682895059504647277,11844019762684407370,643336161829623379,10374632558016547081,16723463757517087524,3303267245142563540,16309811473084048462,3543459598558145280,9116068151291705539,14172470266813156586,16531682779099013679,16145670418848962200,17658959251048325594,12431713363859531893,12132596417379514657,14036186469904095446,13343918040275786880,17518593693041627797,17890440400047909864,5002640475654186023,2228412568605170491,14196522196718054806,2827255003249426055,10236332898609347644,14391293386007564604,15052318979288761249,12960429369202013873,10341888390210383824,772564365185477556,5610444585433571239,9388066449989048879,4483904966330829159,11468729153070441980,15214748959534726111,14479964200598819128,11481637867367846703,6714880395473160397,9433028549170029634,13956191218907399338,17360015989920007124,8185220541750880888,17016834523296244275,17823556299335049440,14202271707224943307,16873086082458093902,7538781388859322016,14958820412457663293,6084841979344569690,5920806927976990809,6526287140368922620,2868442198168577507,13813618637161013713,506581581156960101,7900394595670775223,6557801498797044033,4334401890000744311,6278996535519779258,3419001889969749887,8212203176049278890,15590096980072825465,18157406047293677543,542563422162235373,12138319994727072339,13757698761724263525,16615150188913437886,3075201292733833056,896239598344801917]
#check [14577027041581768965,17691633702590694504,1840220198017710270,11212356425047092601,9456574344343218679,2244103112122482387,206757683497733573,3433779192033484610,2741014181512449073,15142666989864626641,1937721966566455358,17678831435119133177,18183970276198133131,28018229315631829,14553807712399142462,8047209995159408440,8219003486749837733,16140922888777852060,599730875272715187,6030501089693204938,14538725608371270373,17397653436517662659,10910644110388302437,14520296925931582552,11502921971960690029,694261584828832409,14154597600763967237,18383651708701053236,2576523973992343609,17760279517084355780,13385558918117058561,4704452742865826424,11823594873375168262,18095796173783872564,5289818103960998278,1607123104830579860,2931988195819169919,13622603851894308203,8972062959192195235,3365755272349913518,11317637306720784765,4607425872040536859,13160504802963445071,7007286002206832825,4953865588907285216,17590705303994421779,1401067106901849026,463774138113389760,4096438862311573950,13631397514672939371,11408881796089955267,6124413428159637790,11429584451438056573,1378205811072252300,5992840812097835891,7921390202802761869,14074196154385387334,2259672571474061568,6125853113672642322,12652081859355081885,3235425350174046738,9404705873571188630,866652123128751154,6522051377940421278,1070438729232803039,6851275008772768644,1207101557538958131,2084650752826471497,17351735930882485243]
end PySem.W.Fast
set_option maxHeartbeats 0 in
open_top hd for PySem.Challenge.rw_loanroll_k73_harder_by_one
local macro_rules | `(tactic| walk_at "o") => `(tactic| first | lia | omega)
local macro_rules | `(tactic| ac_rfl)=>`(tactic| walk_at "o")
open List renaming getElem?_eq_getElem→yaa,length_map→yab,getElem?_eq_some_iff→yac,length_append→yad,getD_eq_getElem?_getD→yae,mem_append_right→yaf,mem_map→yag,mem_cons_of_mem→yah,mem_of_getElem?→yai,mem_cons_self→yaj,getElem?_map→yak,mem_cons→yal,mem_append→yam,mem_singleton→yan,size_toArray→yao,getElem?_eq_none→yap,mem_filter→yaq,mem_map_of_mem→yar,range→yas,map_append→yat,length_take→yau,mem_iff_getElem→yav,length_filter_le→yaw,length_cons→yax,map_cons→yay,pairwise_iff_getElem→yaz,filterMap_cons→yba,mem_append_left→ybb,filter_cons_of_pos→ybc,filter_cons_of_neg→ybd,foldl_cons→ybe,take_of_length_le→ybf,length_drop→ybg,pairwise_map→ybh,append_nil→ybi,filter_append→ybj,getElem?_append_right→ybk,getElem?_append_left→ybl,append_assoc→ybm,map_map→ybn,length_singleton→ybo,toArray→ybp,nodup_cons→ybq,pairwise_cons→ybr,foldl_append→ybs,pairwise_append→ybt,pairwise_singleton→ybu,any_eq_true→ybv,findIdx?_eq_some_iff_getElem→ybw,ext_getElem?→ybx,length_range→yby,map_congr_left→ybz,forIn_cons→yca,eraseIdx_eq_take_drop_succ→ycb,not_mem_nil→ycc,lookup→ycd,length_eq_zero_iff→yce,take_add_one→ycf,getElem?_range→ycg,filter_eq_nil_iff→ych,getElem_mem→yci,mem_iff_getElem?→ycj,take_append_drop→yck,length_eraseIdx_of_lt→ycl,findIdx?_eq_none_iff→ycm,drop_eq_getElem_cons→ycn,length_erase_of_mem→yco,all_eq_true→ycp,mem_range→ycq,length_pos_of_mem→ycr,range_succ→ycs,mem_erase_of_ne→yct,filter_cons→ycu,getElem_map→ycv,toList_toArray→ycw,length_pos_iff→ycx,any_cons→ycy
open Nat renaming le_refl→ycz,ne_of_lt→yda,lt_of_lt_of_le→ydb,zero_le→ydc,lt_of_le_of_lt→ydd,le_trans→yde,lt_succ_self→ydf,lt_irrefl→ydg,ne_of_gt→ydh,lt_succ_of_lt→ydi,lt_trichotomy→ydj,le_succ→ydk,lt_trans→ydl,le_of_lt→ydm,sub_self→ydn,zero_add→ydo
open PySem.Heap renaming get?_push_of_some→ydp,lt_size→ydq,get?_push_size→ydr,get?_update_other→yds,get?_update_self→ydt,get?_update_ne→ydu,size_push→ydv,get?_none_of_le→ydw
open Int renaming le_refl→ydx,emod_nonneg→ydy,emod_lt_of_pos→ydz,le_trans→yea
open Array renaming length_toList→yeb,getElem?_eq_getElem→yec,getD_eq_getD_getElem?→yed,forIn_toList→yee,getElem?_toList→yef,getD→yeg,size_map→yeh
namespace L2
open PySem PySem.Spec PyProof.Rows
noncomputable abbrev Key:=Sum Int Str
noncomputable def zra:Key->Value->Bool
 | .inl k,v=>Value.isInt k v
 | .inr x,v=>Value.isStrOf x v
noncomputable def ztu (w:World):Key->Int
 | .inl k=>hashInt k
 | .inr x=>hashStr w x
theorem zaC:∀ {k:Key} {v:Value},zra k v=true->(∃ i t,k=Sum.inl i/\v=Value.int i t)\/(∃ x t,k=Sum.inr x/\v=Value.str x t)
 | .inl i,v,h=>by
  obtain ⟨t,e⟩:=Value.isInt_shape (k:=i) (v:=v) h
  exact .inl ⟨i,t,rfl,e⟩
 | .inr x,v,h=>by
  obtain ⟨t,e⟩:=Value.isStrOf_shape (x:=x) (v:=v) h
  exact .inr ⟨x,t,rfl,e⟩
theorem zsb (a b:Int):decide ((Sum.inl a:Key)=Sum.inl b)=(a == b):=by
 by_cases e:a=b
 ·subst e;simp
 ·have h:¬ (Sum.inl a:Key)=Sum.inl b:=fun q=>e (Sum.inl.inj q)
  rw[decide_eq_false h]
  exact (beq_eq_false_iff_ne.mpr e).symm
theorem zsc (a b:Str):decide ((Sum.inr a:Key)=Sum.inr b)=decide (a=b):=by
 by_cases e:a=b
 ·subst e;simp
 ·have h:¬ (Sum.inr a:Key)=Sum.inr b:=fun q=>e (Sum.inr.inj q)
  rw[decide_eq_false h,decide_eq_false e]
theorem zsB (a:Int) (b:Str):decide ((Sum.inl a:Key)=Sum.inr b)=false:=decide_eq_false (fun q=>nomatch q)
theorem zsR (a:Str) (b:Int):decide ((Sum.inr a:Key)=Sum.inl b)=false:=decide_eq_false (fun q=>nomatch q)
noncomputable def zrN (prog:Program) (w:World):PySem.KeyKind prog w Key where
 is:=zra
 hash:=ztu w
 inj:=fun v a b ha hb=>by
  rcases zaC ha with ⟨i,t,rfl,rfl⟩ | ⟨x,t,rfl,rfl⟩
  ·rcases zaC hb with ⟨j,u,rfl,e⟩ | ⟨y,u,rfl,e⟩
   ·injection e with e1 _;rw[e1]
   ·exact nomatch e
  ·rcases zaC hb with ⟨j,u,rfl,e⟩ | ⟨y,u,rfl,e⟩
   ·exact nomatch e
   ·injection e with e1 _;rw[e1]
 byValue:=fun k v h=>by
  rcases zaC h with ⟨i,t,rfl,rfl⟩ | ⟨x,t,rfl,rfl⟩ <;> rfl
 pyHash:=fun hv h=>by
  rcases zaC hv with ⟨i,t,rfl,rfl⟩ | ⟨x,t,rfl,rfl⟩
  ·exact wpAny_pyHash_int h
  ·exact wpAny_pyHash_str h
 eqBool:=fun hu hv h=>by
  rcases zaC hu with ⟨i,t,rfl,rfl⟩ | ⟨x,t,rfl,rfl⟩
  ·rcases zaC hv with ⟨j,u,rfl,rfl⟩ | ⟨y,u,rfl,rfl⟩
   ·rw[zsb] at h;exact wpAny_eqBool_int h
   ·rw[zsB] at h;exact SeqAt.EqAt.int_str i t y u _ _ _ _ h
  ·rcases zaC hv with ⟨j,u,rfl,rfl⟩ | ⟨y,u,rfl,rfl⟩
   ·rw[zsR] at h;exact SeqAt.EqAt.str_int x t j u _ _ _ _ h
   ·rw[zsc] at h;exact wpAny_eqBool_str h
 «strs»:=fun k x t v h=>by
  rcases zaC h with ⟨i,u,rfl,e⟩ | ⟨y,u,rfl,e⟩
  ·exact nomatch e
  ·injection e with e1 _
   subst e1
   cases v <;> rfl
inductive V where
 | non | bl (b:Bool) | int (i:Int) | str (x:Str) | byt (b:Array UInt8) | flt (b:UInt64) | ref (a:Addr) | ty (n:String)
 deriving DecidableEq
noncomputable def RelV:V->Value->Prop
 | .non,u=>u=Value.none
 | .bl b,u=>u=Value.bool b
 | .int i,u=>∃ t,u=Value.int i t
 | .str x,u=>∃ t,u=Value.str x t
 | .byt b,u=>∃ t,u=Value.bytes b t
 | .flt b,u=>∃ t,u=Value.float b t
 | .ref a,u=>u=Value.ref a
 | .ty n,u=>u=Value.type n
noncomputable abbrev Vals:List V->List Value->Prop:=Paired RelV
theorem Vals.length {xs:List V} {us:List Value} (r:Vals xs us):xs.length=us.length:=Paired.length r
theorem Vals.get:∀ {xs:List V} {us:List Value} {i:Nat} {x:V},Vals xs us->xs[i]?=some x->∃ u,us[i]?=some u/\RelV x u
 | _,_,_,_,.nil,e=>by simp at e
 | _,_,0,_,.cons r _,e=>by simp at e;subst e;exact ⟨_,rfl,r⟩
 | _,_,i+1,x,.cons _ t,e=>by
  obtain ⟨u,h1,h2⟩:=Vals.get (i:=i) (x:=x) t (by simpa using e)
  exact ⟨u,by simpa using h1,h2⟩
theorem Vals.set {x:V} {u:Value} (r:RelV x u):∀ {xs:List V} {us:List Value} (i:Nat),Vals xs us->Vals (xs.set i x) (us.set i u)
 | _,_,_,.nil=>.nil
 | _,_,0,.cons _ t=>.cons r t
 | _,_,i+1,.cons q t=>.cons q (Vals.set r i t)
theorem Vals.append:∀ {xs ys:List V} {us ws:List Value},Vals xs us->Vals ys ws->Vals (xs++ys) (us++ws)
 | _,_,_,_,.nil,s=>s
 | _,_,_,_,.cons r t,s=>.cons r (Vals.append t s)
theorem Vals.take:∀ {xs:List V} {us:List Value} (n:Nat),Vals xs us->Vals (xs.take n) (us.take n)
 | _,_,0,_=>.nil
 | _,_,_+1,.nil=>.nil
 | _,_,n+1,.cons r t=>.cons r (Vals.take n t)
theorem Vals.drop:∀ {xs:List V} {us:List Value} (n:Nat),Vals xs us->Vals (xs.drop n) (us.drop n)
 | _,_,0,r=>r
 | _,_,_+1,.nil=>.nil
 | _,_,n+1,.cons _ t=>Vals.drop n t
noncomputable def zfC:Option V->Option Value->Prop
 | some v,some u=>RelV v u
 | none,none=>True
 | _,_=>False
noncomputable def KV {κ:Type}:List (κ × V)->List (κ × Value)->Prop:=Paired fun (p:κ × V) (q:κ × Value)=>p.1=q.1/\RelV p.2 q.2
inductive HO where
 /-- a list -/
 | lst (xs:List V)
 /-- a tuple (never changes) -/
 | tup (xs:List V)
 /-- a dict whose keys are ints and texts;one whose keys are tuples of ints and texts (the empty one is both) -/
 | dK (kvs:List (Key × V))
 /-- a set of ints: its members,its size -/
 | set (S:Int->Bool) (n:Nat)
 /-- an instance of the class at C,its dict at dx,its attributes -/
 | ins (C dx:Addr) (fs:List (Str × V))
 /-- the dict of the instance at x -/
 | own (x:Addr)
 /-- the dict of an exception -/
 | xd (fs:List (Str × V))
 /-- a bound method,f of x -/
 | met (f x:Addr)
 /-- a range object lo,lo+1,.. below hi -/
 | rng (lo hi:Int)
 /-- a thing that is known to the object (the script;a dict while a loop walks it): read,never written while it is so -/
 | frz (o:Obj) (u:HO)
 /-- a code object's table -/
 | tbl (ps:Array Value)
 /-- any other thing,by what is true of its one object (a def of one's own: zki a S n:=HO.ext fun h=>..) -/
 | ext (φ:Heap->Prop)
noncomputable abbrev Hp:=Addr->Option HO
noncomputable def upd (H:Hp) (a:Addr) (o:HO):Hp:=fun b=>if b=a then some o else H b
theorem zg {H:Hp} {a:Addr} {o:HO}:upd H a o a=some o:=by unfold upd;rw[if_pos rfl]
theorem zv {H:Hp} {a b:Addr} {o:HO} (h:b≠a):upd H a o b=H b:=by unfold upd;rw[if_neg h]
theorem zay {H:Hp} {a:Addr} {o u:HO}:upd (upd H a o) a u=upd H a u:=by
 funext b;unfold upd;split <;> rfl
theorem za8 {H:Hp} {a b:Addr} {o u:HO} (h:H a=some o) (h':H b=some u) (d:o≠u):a≠b:=by
 intro e;subst e;rw[h] at h';exact d (Option.some.inj h')
theorem zah {H:Hp} {a b:Addr} {o:HO} (h:H a=some o) (h':H b=none):a≠b:=by
 intro e;subst e;rw[h] at h';cases h'
section
variable (P:Program) (w:World)
noncomputable def zai (H:Hp) (h:Heap) (a:Addr):HO->Prop
 | .lst xs=>xs.length<=sizeLine/\∃ (its:List Value) (n:Nat),Vals xs its/\h.get? a=some { cls:=.type "list", data:=.seq its.toArray n }
 | .tup xs=>xs.length<=sizeLine/\∃ its:List Value,Vals xs its/\IsTup h a its.toArray
 | .dK kvs=>kvs.length<=sizeLine/\(a == sysModules)=false/\∃ vs,KV kvs vs/\h.DictOf (zrN P w) a vs
 | .set S n=>h.SetOf (intKind P w) a S n
 | .ins C dx fs=>H dx=some (.own a)/\fs.length<=1000/\dx≠a/\h.get? a=some (PySem.W.instObj C dx) /\
   ∃ mA,h.Ns1 dx mA/\(∀ f,zfC (fs.lookup f) (mA f))/\PySem.Within mA (fs.map (·.1))
 | .own _=>∃ o,h.get? a=some o
 | .xd fs=>∃ mA,h.Ns1 a mA/\∀ f,zfC (fs.lookup f) (mA f)
 | .rng lo hi=>∃ t u v,h.get? a=some { cls:=.type "range", data:=.fields #[.int lo t,.int hi u,.int 1 v] }
 | .frz o u=>h.get? a=some o/\zai H h a u
 | .tbl ps=>h.get? a=some { cls:=.none,data:=.fields ps }
 | .met f x=>h.get? a=some (PySem.W.methodObj (.ref f) (.ref x))
 | .ext φ=>φ h/\(∃ o,h.get? a=some o)/\∀ h1 h2:Heap,φ h1->(∀ o,h1.get? a=some o->h2.get? a=some o)->φ h2
def HOk (H:Hp) (h:Heap):Prop:=∀ a o,H a=some o->zai P w H h a o
end
section
variable {P:Program} {w:World} {H H':Hp} {h h':Heap} {a:Addr} {o:HO}
theorem zai.lt (x:zai P w H h a o):a<h.objs.size:=by
 cases o with
 | lst xs=>obtain ⟨_,_,_,_,e⟩:=x;exact ydq e
 | tup xs=>obtain ⟨_,_,_,p⟩:=x;exact p.lt
 | dK kvs=>obtain ⟨_,_,_,_,o,_,_,e,_⟩:=x;exact ydq e
 | set S n=>obtain ⟨o,_,_,_,e,_⟩:=x;exact ydq e
 | ins C dx fs=>obtain ⟨_,_,_,e,_⟩:=x;exact ydq e
 | own y=>obtain ⟨_,e⟩:=x;exact ydq e
 | xd fs=>obtain ⟨_,⟨_,_,_,e,_⟩,_⟩:=x;exact ydq e
 | rng lo hi=>obtain ⟨_,_,_,e⟩:=x;exact ydq e
 | frz ob u=>obtain ⟨e,_⟩:=x;exact ydq e
 | tbl ps=>exact ydq (show h.get? a=some _ from x)
 | met f y=>exact ydq (show h.get? a=some _ from x)
 | ext φ=>obtain ⟨_,⟨_,e⟩,_⟩:=x;exact ydq e
theorem zai.stay (x:zai P w H h a o) (k:∀ b u,(b=a\/H b=some (.own a))->h.get? b=some u->h'.get? b=some u)
  (ho:∀ b,H b=some (.own a)->H' b=some (.own a)) (ht:∀ b xs,H b=some (.tup xs)->H' b=some (.tup xs)):zai P w H' h' a o:=by
 induction o with
 | lst xs=>obtain ⟨z,its,n,r,e⟩:=x;exact ⟨z,its,n,r,k _ _ (.inl rfl) e⟩
 | tup xs=>obtain ⟨z,its,r,ob,e,c⟩:=x;exact ⟨z,its,r,ob,k _ _ (.inl rfl) e,c⟩
 | dK kvs=>obtain ⟨z,y,vs,r,ob,es,ep,e,c⟩:=x;exact ⟨z,y,vs,r,ob,es,ep,k _ _ (.inl rfl) e,c⟩
 | set S n=>obtain ⟨ob,es,ep,t,e,c⟩:=x;exact ⟨ob,es,ep,t,k _ _ (.inl rfl) e,c⟩
 | ins C dx fs =>
  obtain ⟨d,z,ne,e,mA,⟨od,es,ep,e2,c⟩,r⟩:=x
  exact ⟨ho _ d,z,ne,k _ _ (.inl rfl) e,mA,⟨od,es,ep,k _ _ (.inr d) e2,c⟩,r⟩
 | own y=>obtain ⟨ob,e⟩:=x;exact ⟨ob,k _ _ (.inl rfl) e⟩
 | xd fs=>obtain ⟨mA,⟨od,es,ep,e,c⟩,r⟩:=x;exact ⟨mA,⟨od,es,ep,k _ _ (.inl rfl) e,c⟩,r⟩
 | rng lo hi=>obtain ⟨t,u,v,e⟩:=x;exact ⟨t,u,v,k _ _ (.inl rfl) e⟩
 | frz ob u ih=>obtain ⟨e,q⟩:=x;exact ⟨k _ _ (.inl rfl) e,ih q⟩
 | tbl ps =>
  have e:h.get? a=some { cls:=.none,data:=.fields ps }:=x
  show h'.get? a=some { cls:=.none,data:=.fields ps }
  exact k a _ (.inl rfl) e
 | met f y =>
  have e:h.get? a=some (PySem.W.methodObj (.ref f) (.ref y)):=x
  show h'.get? a=some (PySem.W.methodObj (.ref f) (.ref y))
  exact k a _ (.inl rfl) e
 | ext φ=>obtain ⟨p,⟨o,e⟩,st⟩:=x;exact ⟨st _ _ p fun o q=>k _ _ (.inl rfl) q,⟨o,k _ _ (.inl rfl) e⟩,st⟩
theorem HOk.lt (x:HOk P w H h) (e:H a=some o):a<h.objs.size:=(x a o e).lt
theorem HOk.fresh (x:HOk P w H h) (e:h.objs.size<=a):H a=none:=by
 cases q:H a with
 | none=>rfl
 | some u=>exact absurd (ydb (x.lt q) e) (ydg _)
theorem HOk.kept (x:HOk P w H h) (k:∀ b u,h.get? b=some u->h'.get? b=some u):HOk P w H h':=fun a o e =>
 (x a o e).stay (fun b u _ q=>k b u q) (fun _ q=>q) fun _ _ q=>q
theorem HOk.laid (x:HOk P w H h) (k:∀ b u,h.get? b=some u->h'.get? b=some u) (hp:h.objs.size<=a) (new:zai P w (upd H a o) h' a o):HOk P w (upd H a o) h':=fun b u e=>by
 have hn:=x.fresh hp
 by_cases hb:b=a
 ·subst hb;rw[zg] at e;cases e;exact new
 ·rw[zv hb] at e
  exact (x b u e).stay (fun c v _ q=>k c v q) (fun c q=>by rw[zv (zah q hn)];exact q) fun c xs q=>by rw[zv (zah q hn)];exact q
end
def Rd (H:Hp) (a:Addr) (u:HO):Prop:=H a=some u\/∃ o,H a=some (.frz o u)
theorem Rd.ok {P:Program} {w:World} {H:Hp} {h:Heap} {a:Addr} {u:HO} (r:Rd H a u) (x:HOk P w H h):zai P w H h a u:=by
 rcases r with r | ⟨o,r⟩
 ·exact x a u r
 ·obtain ⟨_,q⟩:=x a _ r
  exact q
noncomputable def Mut:Option HO->Prop
 | some (.lst _)=>True
 | some (.dK _)=>True
 | some (.set _ _)=>True
 | some (.ins _ _ _)=>True
 | some (.ext _)=>True
 | _=>False
section
variable {P:Program} {w:World} {H:Hp} {h h':Heap} {x e:Addr} {o':HO}
theorem HOk.write (ok:HOk P w H h) (mu:Mut (H x)) (he:e=x\/H e=some (.own x)) (k:∀ b u,b≠e->h.get? b=some u->h'.get? b=some u) (heo:∃ u,h'.get? e=some u)
  (new:zai P w (upd H x o') h' x o'):HOk P w (upd H x o') h':=fun b u q=>by
 have nown:∀ c y,H c=some (.own y)->c≠x:=fun c y r z=>by subst z;rw[r] at mu;exact mu
 have ntup:∀ c xs,H c=some (.tup xs)->c≠x:=fun c xs r z=>by subst z;rw[r] at mu;exact mu
 by_cases hb:b=x
 ·subst hb;rw[zg] at q;cases q;exact new
 ·rw[zv hb] at q
  by_cases hbe:b=e
  ·have q':H b=some (.own x):=by
    rcases he with z | z
    ·exact absurd (hbe.trans z) hb
    ·rw[hbe];exact z
   rw[q] at q';cases q'
   obtain ⟨v,hv⟩:=heo
   exact ⟨v,by rw[hbe];exact hv⟩
  ·refine (ok b u q).stay (fun c v hc r=>k c v ?_ r) (fun c r=>by rw[zv (nown c b r)];exact r) fun c xs r=>by rw[zv (ntup c xs r)];exact r
   rcases hc with rfl | hc
   ·exact hbe
   ·rintro rfl
    rcases he with z | z
    ·exact nown c b hc z
    ·rw[hc] at z;cases z;exact hb rfl
end
set_option genInjectivity false
structure Un (fs ex:List Addr) (H H':Hp) (h h':Heap):Prop where
 keep:∀ b o,h.get? b=some o->H b=none->b ∉ fs->b ∉ ex->h'.get? b=some o
 slot:∀ b o,h.get? b=some o->H b=none->b∈fs->b ∉ ex->∃ sl,h'.get? b=some { o with slots:=sl }
 free:∀ b o,h.get? b=some o->H b=none->b ∉ ex->H' b=none
 there:∀ b o,h.get? b=some o->b ∉ ex->∃ o',h'.get? b=some o'
 tups:∀ b xs,H b=some (.tup xs)->H' b=some (.tup xs)
 frzs:∀ b o u,H b=some (.frz o u)->H' b=some (.frz o u)
 tbls:∀ b ps,H b=some (.tbl ps)->∃ more,H' b=some (.tbl (ps++more))
section
variable {fs fs' ex ex':List Addr} {H H1 H2:Hp} {h h1 h2 h':Heap} {a x e:Addr} {o:HO}
theorem Un.any (u:Un fs ex H H1 h h1) {b:Addr} {ob:Obj} (q:h.get? b=some ob) (n:H b=none) (hx:b ∉ ex):∃ sl,h1.get? b=some { ob with slots:=sl }:=by
 by_cases hb:b∈fs
 ·exact u.slot b ob q n hb hx
 ·exact ⟨ob.slots,u.keep b ob q n hb hx⟩
theorem Un.kept (k:∀ b u,h.get? b=some u->h'.get? b=some u):Un fs ex H H h h' :=
 ⟨fun b ob q _ _ _=>k b ob q,fun b ob q _ _ _=>⟨ob.slots,k b ob q⟩,fun _ _ _ n _=>n,fun b ob q _=>⟨ob,k b ob q⟩,fun _ _ q=>q,fun _ _ _ q=>q,fun _ ps q=>⟨#[],by rw[q];simp⟩⟩
theorem Un.refl:Un fs ex H H h h:=Un.kept fun _ _ q=>q
theorem Un.laid (k:∀ b u,h.get? b=some u->h'.get? b=some u) (hp:h.objs.size<=a) (hn:H a=none):Un fs ex H (upd H a o) h h' where
 keep:=fun b u q _ _ _=>k b u q
 slot:=fun b u q _ _ _=>⟨u.slots,k b u q⟩
 free:=fun b u q n _=>by rw[zv (yda (ydb (ydq q) hp))];exact n
 there:=fun b u q _=>⟨u,k b u q⟩
 tups:=fun b xs q=>by rw[zv (zah q hn)];exact q
 frzs:=fun b u xs q=>by rw[zv (zah q hn)];exact q
 tbls:=fun b ps q=>⟨#[],by rw[zv (zah q hn),q];simp⟩
theorem Un.write (mu:Mut (H x)) (he:e=x\/H e=some (.own x)) (k:∀ b u,b≠e->h.get? b=some u->h'.get? b=some u) (heo:∃ u,h'.get? e=some u):Un fs ex H (upd H x o) h h':=by
 have hx:∀ b,H b=none->b≠x:=fun b n z=>by subst z;rw[n] at mu;exact mu
 have hb:∀ b,H b=none->b≠e:=fun b n z=>by
  subst z
  rcases he with r | r
  ·exact hx b n r
  ·rw[n] at r;cases r
 have hm:∀ b u,H b=some u->¬ Mut (some u)->b≠x:=fun b u q nm z=>by subst z;rw[q] at mu;exact nm mu
 refine ⟨fun b u q n _ _=>k b u (hb b n) q,fun b u q n _ _=>⟨u.slots,k b u (hb b n) q⟩,fun b u q n _=>by rw[zv (hx b n)];exact n,fun b u q _=>?_,
  fun b xs q=>by rw[zv (hm b _ q fun z=>z)];exact q,fun b u xs q=>by rw[zv (hm b _ q fun z=>z)];exact q,fun b ps q=>⟨#[],by rw[zv (hm b _ q fun z=>z),q];simp⟩⟩
 by_cases hbe:b=e
 ·subst hbe;exact heo
 ·exact ⟨u,k b u hbe q⟩
end
noncomputable def trk (h:Heap) (H:Hp):List Addr:=(yas h.objs.size).filter fun a=>(H a).isSome
noncomputable def zgA (h:Heap) (H:Hp):Heap:=PySem.W.hideAll h (trk h H)
theorem zpi (h:Heap) (H:Hp):(zgA h H).objs.size=h.objs.size:=PySem.W.hideAll_size _ _
theorem zqb {h:Heap} {H:Hp} {b:Addr} {o:Obj} (e:h.get? b=some o) (n:H b=none):(zgA h H).get? b=some o :=
 PySem.W.hideAll_get _ e fun hm=>by
  have q:(H b).isSome=true:=(yaq.mp hm).2
  rw[n] at q;simp at q
theorem zrq {h:Heap} {H:Hp} {b:Addr} {o:Obj} (e:(zgA h H).get? b=some o):h.get? b=some o/\H b=none:=by
 have e':h.get? b=some o:=PySem.W.of_hideAll (trk h H) e
 refine ⟨e',?_⟩
 cases q:H b with
 | none=>rfl
 | some x =>
  have hm:b∈trk h H:=yaq.mpr ⟨ycq.mpr (ydq e'),by simp[q]⟩
  have z:(zgA h H).get? b=none:=PySem.W.hideAll_none (trk h H) hm
  rw[z] at e;cases e
noncomputable def zrX (g h:Heap) (L:Addr):List (Addr × Obj):=(yas h.objs.size).filterMap fun a=>if a=L\/(g.get? a).isSome=true then none else (h.get? a).map fun o=>(a,o)
noncomputable def rest (g h:Heap) (L d:Addr):List (Addr × Obj):=(zrX g h L).filter fun p=>decide (p.1≠d)
structure Mod (K:W.Frag) (mg:Str->Option Value) (base:Heap):Prop where
 kin:K.In base
 glob:base.Ns mainGlobals mg
 blt:∃ mb,base.Ns builtinsNs mb/\∀ x:Str,x ≠ "__name__" -> mb x=bootBuiltins x
 nolimit:base.NoLimit
structure Cx where
 prog:Program
 w:World
 K:W.Frag
 mg:Str->Option Value
 base:Heap
 A:Around
 N:List Str
 s₀:Shared
 H₀:Hp
 env:Env
 outer:List Env
 stack:List Env
 ex:List Addr
 fn:Str->Bool
 calm:Bool
 pn:List (Addr × Obj)
 xe:Value->Shared->Prop
noncomputable def frs (l:List Env):List Addr:=l.filterMap (·.frame)
noncomputable abbrev Cx.fs (X:Cx):List Addr:=frs X.outer
def Vis (sc:Scope) (x:Str):Prop:=sc.names.lookup x=some .local\/sc.names.lookup x=some .cell\/sc.names.lookup x=some .free
def Loc (sc:Scope) (x:Str):Prop:=sc.names.lookup x=some .local\/sc.names.lookup x=some .cell
def Look (env:Env) (h:Heap) (m:Str->Option Value) (x:Str) (u:Value):Prop :=
 (env.kindOf x=some .local/\m x=some u)\/((env.kindOf x=some .cell\/env.kindOf x=some .free)/\∃ c,env.cells.lookup x=some c/\h.IsCell c (some u))
structure Cx.Ok (X:Cx):Prop where
 mod:Mod X.K X.mg X.base
 kind:X.env.scope.kind=.function
 glob:X.env.globals=mainGlobals
 blt:X.env.builtins=builtinsNs
 above:X.s₀.heap.objs.size<=X.env.locals
 inj:∀ x y c,X.env.cells.lookup x=some c->X.env.cells.lookup y=some c->x=y
 has:∀ x,(X.env.kindOf x=some .cell\/X.env.kindOf x=some .free)->∃ c,X.env.cells.lookup x=some c
 cab:∀ x c,X.fn x=true->X.env.cells.lookup x=some c->X.s₀.heap.objs.size<=c
 hd:X.calm=true->X.A.handled=none
 frames:X.A.frames=some X.stack
 stk:X.stack=X.outer\/(X.stack=X.env::X.outer/\X.env.frame=some X.env.locals)
 exf:∀ b∈X.ex,b≠X.env.locals/\∀ x c,X.env.cells.lookup x=some c->c≠b
 bs:∀ b o,X.base.get? b=some o->X.s₀.heap.get? b=some o/\X.H₀ b=none
 bsz:X.base.objs.size<=X.s₀.heap.objs.size
 noex:∀ b o,X.base.get? b=some o->b ∉ X.ex
 exfs:∀ b∈X.ex,b ∉ X.fs
 funs:X.s₀.heap.FunFrames X.base X.outer
 frf:∀ b∈X.fs,X.H₀ b=none
structure Inv (X:Cx) (pins:List (Addr × Obj)) (σ:List (Option V)) (H:Hp) (s:Shared):Prop where
 ok:X.Ok
 os:s.os=X.s₀.os
 bare:AllBare s.gens
 base:Un X.fs X.ex X.H₀ H X.s₀.heap s.heap
 loc:∃ m,s.heap.Ns X.env.locals m/\∀ (i:Nat) (x:Str) (v:V),X.N[i]?=some x->σ[i]?=some (some v)->Vis X.env.scope x->∃ u,RelV v u/\Look X.env s.heap m x u
 cell:∀ x c,X.env.cells.lookup x=some c->∃ v,s.heap.IsCell c v
 free:H X.env.locals=none
 freeC:∀ x c,X.env.cells.lookup x=some c->H c=none
 pin:∀ p∈X.pn++pins,s.heap.get? p.1=some p.2/\H p.1=none/\p.1≠X.env.locals/\p.1 ∉ X.fs/\∀ v,p.2.data≠.cell v
 hok:HOk X.prog X.w H s.heap
 len:σ.length=X.N.length
section
variable {X:Cx} {pins:List (Addr × Obj)} {σ:List (Option V)} {H H':Hp} {s:Shared} {h':Heap}
theorem Cx.Ok.nofr (ok:X.Ok) {b:Addr} {o:Obj} (e:X.base.get? b=some o):b ∉ X.fs:=fun hb=>by
 have:=(ok.funs.mem hb).1
 rw[e] at this;cases this
theorem Inv.bs (I:Inv X pins σ H s):∀ b o,X.base.get? b=some o->s.heap.get? b=some o/\H b=none:=fun b o e =>
 ⟨I.base.keep b o (I.ok.bs b o e).1 (I.ok.bs b o e).2 (I.ok.nofr e) (I.ok.noex b o e),I.base.free b o (I.ok.bs b o e).1 (I.ok.bs b o e).2 (I.ok.noex b o e)⟩
theorem Inv.bk (I:Inv X pins σ H s):∀ b o,X.base.get? b=some o->s.heap.get? b=some o:=fun b o e=>(I.bs b o e).1
theorem Inv.mod (I:Inv X pins σ H s):Mod X.K X.mg X.base:=I.ok.mod
theorem Inv.kIn (I:Inv X pins σ H s):X.K.In s.heap:=I.ok.mod.kin.keeps I.bk
theorem Inv.lt (I:Inv X pins σ H s):X.env.locals<s.heap.objs.size:=let ⟨_,hn,_⟩:=I.loc;hn.lt
theorem Inv.sz (I:Inv X pins σ H s):X.s₀.heap.objs.size<=s.heap.objs.size:=yde I.ok.above (ydm I.lt)
theorem Inv.nofs (I:Inv X pins σ H s) {a:Addr} (h:s.heap.objs.size<=a):a ∉ X.fs:=fun hb=>by
 obtain ⟨_,o,ho,_⟩:=I.ok.funs.mem hb
 exact absurd (ydb (ydq ho) (yde I.sz h)) (ydg _)
theorem Inv.cne (I:Inv X pins σ H s):∀ x c,X.env.cells.lookup x=some c->c≠X.env.locals:=fun x c e z=>by
 obtain ⟨v,o,ho,hd⟩:=I.cell x c e
 obtain ⟨m,⟨o',es,ep,ho',hd',_⟩,_⟩:=I.loc
 rw[z,ho'] at ho;cases ho;rw[hd'] at hd;cases hd
theorem Inv.funs (I:Inv X pins σ H s):s.heap.FunFrames X.base X.outer:=by
 have all:∀ (l:List Env),(∀ b∈frs l,b∈X.fs)->X.s₀.heap.FunFrames X.base l->s.heap.FunFrames X.base l:=by
  intro l
  induction l with
  | nil=>intro _ _;trivial
  | cons env r ih =>
   intro hs hl
   obtain ⟨hk,⟨L,o,hf,hn,ho,hd⟩,hr⟩:=hl
   have hL:L∈X.fs:=hs L (by unfold frs;rw[yba,hf];exact yaj)
   obtain ⟨sl,e⟩:=I.base.slot L o ho (I.ok.frf L hL) hL fun z=>I.ok.exfs L z hL
   exact ⟨hk,⟨L,_,hf,hn,e,hd⟩,ih (fun b hb=>hs b (by unfold frs;rw[yba,hf];exact yah _ hb)) hr⟩
 exact all X.outer (fun _ hb=>hb) I.ok.funs
theorem Inv.stack (I:Inv X pins σ H s):s.heap.FunFrames X.base X.stack:=by
 rcases I.ok.stk with e | ⟨e,hf⟩
 ·rw[e];exact I.funs
 ·rw[e]
  obtain ⟨m,hn,_⟩:=I.loc
  refine .cons (by rw[I.ok.kind];decide) hf hn ?_ I.funs
  exact ydw (yde I.ok.bsz I.ok.above)
theorem Inv.zgc (I:Inv X pins σ H s):∀ b∈frs X.stack,b∈X.env.locals::X.fs:=fun b hb=>by
 rcases I.ok.stk with e | ⟨e,hf⟩
 ·rw[e] at hb;exact yah _ hb
 ·rw[e] at hb
  unfold frs at hb
  rw[yba,hf] at hb
  exact hb
theorem Inv.znR (I:Inv X pins σ H s):∀ b∈frs X.stack,H b=none:=fun b hb=>by
 rcases yal.mp (I.zgc b hb) with e | hb
 ·rw[e];exact I.free
 ·obtain ⟨_,o,ho,_⟩:=I.ok.funs.mem hb
  exact I.base.free b o ho (I.ok.frf b hb) fun z=>I.ok.exfs b z hb
theorem Inv.step {g':Array GenState} {t':Nat} {d':Drawn} {ch:List Addr} (I:Inv X pins σ H s)
  (hch:∀ b∈ch,(b∈X.ex\/X.s₀.heap.objs.size<=b)/\b≠X.env.locals/\(∀ x c,X.env.cells.lookup x=some c->c≠b)/\∀ p∈X.pn++pins,p.1≠b)
  (keep:∀ b o,b≠X.env.locals->b ∉ X.fs->b ∉ ch->s.heap.get? b=some o->H b=none->h'.get? b=some o)
  (slot:∀ b o,b≠X.env.locals->b∈X.fs->b ∉ ch->s.heap.get? b=some o->H b=none->∃ sl,h'.get? b=some { o with slots:=sl }) (free:∀ b o,b ∉ ch->s.heap.get? b=some o->H b=none->H' b=none)
  (there:∀ b o,b ∉ ch->s.heap.get? b=some o->∃ o',h'.get? b=some o')
  (tups:∀ b xs,H b=some (.tup xs)->H' b=some (.tup xs)) (frzs:∀ b o u,H b=some (.frz o u)->H' b=some (.frz o u)) (tbls:∀ b ps,H b=some (.tbl ps)->∃ more,H' b=some (.tbl (ps++more)))
  (ns:∀ m,s.heap.Ns X.env.locals m->h'.Ns X.env.locals m) (hok:HOk X.prog X.w H' h') (hg:AllBare g') :
  Inv X pins σ H' { s with heap:=h',gens:=g',drawn:=d',toks:=t' }:=by
 have neL:∀ b o,X.s₀.heap.get? b=some o->b≠X.env.locals:=fun b o e=>yda (ydb (ydq e) I.ok.above)
 have neC:∀ b o,X.s₀.heap.get? b=some o->b ∉ X.ex->b ∉ ch:=fun b o e hx hb=>by
  rcases (hch b hb).1 with z | z
  ·exact hx z
  ·exact absurd (ydb (ydq e) z) (ydg _)
 have cellK:∀ x c,X.env.cells.lookup x=some c->∀ v,s.heap.IsCell c v->h'.IsCell c v:=fun x c e v ⟨o,ho,hd⟩=>by
  have nch:c ∉ ch:=fun z=>(hch c z).2.2.1 x c e rfl
  by_cases hc:c∈X.fs
  ·obtain ⟨sl,q⟩:=slot c o (I.cne x c e) hc nch ho (I.freeC x c e)
   exact ⟨_,q,hd⟩
  ·exact ⟨o,keep c o (I.cne x c e) hc nch ho (I.freeC x c e),hd⟩
 refine ⟨I.ok,I.os,hg,⟨fun b o e n hb hx=>?_,fun b o e n hb hx=>?_,fun b o e n hx=>?_,fun b o e hx=>?_,fun b xs e=>tups b xs (I.base.tups b xs e),fun b o xs e=>frzs b o xs (I.base.frzs b o xs e),fun b ps e=>?_⟩,?_,fun x c e=>?_,?_,fun x c e=>?_,fun p hp=>?_,hok,I.len⟩
 ·exact keep b o (neL b o e) hb (neC b o e hx) (I.base.keep b o e n hb hx) (I.base.free b o e n hx)
 ·obtain ⟨sl,e1⟩:=I.base.slot b o e n hb hx
  obtain ⟨sl',e2⟩:=slot b _ (neL b o e) hb (neC b o e hx) e1 (I.base.free b o e n hx)
  exact ⟨sl',e2⟩
 ·obtain ⟨o',e1⟩:=I.base.there b o e hx
  exact free b o' (neC b o e hx) e1 (I.base.free b o e n hx)
 ·obtain ⟨o',e1⟩:=I.base.there b o e hx
  exact there b o' (neC b o e hx) e1
 ·obtain ⟨m1,e1⟩:=I.base.tbls b ps e
  obtain ⟨m2,e2⟩:=tbls b _ e1
  exact ⟨m1++m2,by rw[e2,Array.append_assoc]⟩
 ·obtain ⟨m,hn,hl⟩:=I.loc
  refine ⟨m,ns m hn,fun i x v e1 e2 e3=>?_⟩
  obtain ⟨u,r,l⟩:=hl i x v e1 e2 e3
  refine ⟨u,r,?_⟩
  rcases l with l | ⟨k,c,e,z⟩
  ·exact .inl l
  ·exact .inr ⟨k,c,e,cellK x c e _ z⟩
 ·obtain ⟨v,z⟩:=I.cell x c e
  exact ⟨v,cellK x c e v z⟩
 ·obtain ⟨m,⟨o,_,_,ho,_⟩,_⟩:=I.loc
  exact free _ o (fun z=>(hch _ z).2.1 rfl) ho I.free
 ·obtain ⟨v,o,ho,hd⟩:=I.cell x c e
  exact free c o (fun z=>(hch c z).2.2.1 x c e rfl) ho (I.freeC x c e)
 ·obtain ⟨e,n,ne,nf,d⟩:=I.pin p hp
  have nch:p.1 ∉ ch:=fun z=>(hch p.1 z).2.2.2 p hp rfl
  exact ⟨keep p.1 p.2 ne nf nch e n,free p.1 p.2 nch e n,ne,nf,d⟩
theorem Inv.un {t':Nat} (I:Inv X pins σ H s) (u:Un X.fs [] H H' s.heap h') (hok:HOk X.prog X.w H' h'):Inv X pins σ H' { s with heap:=h',toks:=t' }:=by
 obtain ⟨m,⟨o,es,ep,ho,r⟩,_⟩:=id I.loc
 obtain ⟨sl,hL⟩:=u.any ho I.free (by simp)
 exact I.step (g':=s.gens) (d':=s.drawn) (ch:=[]) (fun _ z=>nomatch z) (fun b o _ hb _ e n=>u.keep b o e n hb (by simp)) (fun b o _ hb _ e n=>u.slot b o e n hb (by simp)) (fun b o _ e n=>u.free b o e n (by simp)) (fun b o _ e=>u.there b o e (by simp)) u.tups u.frzs u.tbls (fun m' hm=>by
  obtain ⟨o',es',ep',ho',r'⟩:=hm
  rw[ho] at ho';cases ho'
  exact ⟨_,es',ep',hL,r'⟩) hok I.bare
theorem Inv.call {g':Array GenState} {t':Nat} {d':Drawn} {ch:List Addr} (I:Inv X pins σ H s) (u:Un (frs X.stack) ch H H' s.heap h') (hok:HOk X.prog X.w H' h') (hg:AllBare g')
  (hch:∀ b∈ch,(b∈X.ex\/X.s₀.heap.objs.size<=b)/\b≠X.env.locals/\(∀ x c,X.env.cells.lookup x=some c->c≠b)/\∀ p∈X.pn++pins,p.1≠b) :
  Inv X pins σ H' { s with heap:=h',gens:=g',drawn:=d',toks:=t' }:=by
 obtain ⟨m,⟨o,es,ep,ho,r⟩,_⟩:=id I.loc
 obtain ⟨sl,hL⟩:=u.any ho I.free fun z=>(hch _ z).2.1 rfl
 exact I.step (ch:=ch) hch (fun b o hL hb hc e n=>u.keep b o e n (fun z=>(yal.mp (I.zgc b z)).elim hL hb) hc) (fun b o _ _ hc e n=>u.any e n hc) (fun b o hc e n=>u.free b o e n hc) (fun b o hc e=>u.there b o e hc) u.tups u.frzs u.tbls (fun m' hm=>by
  obtain ⟨o',es',ep',ho',r'⟩:=hm
  rw[ho] at ho';cases ho'
  exact ⟨_,es',ep',hL,r'⟩) hok hg
theorem Inv.turned {t':Nat} {it:Addr} (I:Inv X pins σ H s) (k:∀ b o,b≠it->s.heap.get? b=some o->h'.get? b=some o) (hn:H it=none) (hL:it≠X.env.locals)
  (h1:it∈X.ex\/X.s₀.heap.objs.size<=it) (h2:∀ x c,X.env.cells.lookup x=some c->c≠it) (h3:∀ p∈X.pn++pins,p.1≠it):Inv X pins σ H { s with heap:=h',toks:=t' }:=by
 have nit:∀ b u,H b=some u->b≠it:=fun b u e z=>by rw[z,hn] at e;cases e
 refine I.step (g':=s.gens) (d':=s.drawn) (ch:=[it]) (fun b hb=>?_) (fun b o _ _ hc e _=>k b o (fun z=>hc (by simp[z])) e) (fun b o _ _ hc e _=>⟨o.slots,k b o (fun z=>hc (by simp[z])) e⟩) (fun _ _ _ _ n=>n)
  (fun b o hc e=>⟨o,k b o (fun z=>hc (by simp[z])) e⟩) (fun _ _ e=>e) (fun _ _ _ e=>e) (fun b ps e=>⟨#[],by rw[e];simp⟩) (fun m hm=>?_) (fun b u e=>?_) I.bare
 ·have e:b=it:=by simpa using hb
  subst e
  exact ⟨h1,hL,h2,h3⟩
 ·obtain ⟨o,es,ep,ho,r⟩:=hm
  exact ⟨o,es,ep,k _ o (Ne.symm hL) ho,r⟩
 ·refine (I.hok b u e).stay (fun c v hc q=>k c v ?_ q) (fun _ q=>q) fun _ _ q=>q
  rcases hc with z | z
  ·rw[z];exact nit b u e
  ·exact nit c _ z
theorem Inv.tok (I:Inv X pins σ H s) (t:Nat):Inv X pins σ H { s with toks:=t }:=I.un (h':=s.heap) (t':=t) Un.refl I.hok
theorem Inv.kept {t':Nat} (I:Inv X pins σ H s) (k:∀ b u,s.heap.get? b=some u->h'.get? b=some u):Inv X pins σ H { s with heap:=h',toks:=t' }:=I.un (Un.kept k) (I.hok.kept k)
theorem Inv.laid {a:Addr} {o:HO} {t':Nat} (I:Inv X pins σ H s) (k:∀ b u,s.heap.get? b=some u->h'.get? b=some u) (hp:s.heap.objs.size<=a) (new:zai X.prog X.w (upd H a o) h' a o) :
  Inv X pins σ (upd H a o) { s with heap:=h',toks:=t' }:=I.un (Un.laid k hp (I.hok.fresh hp)) (I.hok.laid k hp new)
theorem Inv.write {x e:Addr} {o:HO} {t':Nat} (I:Inv X pins σ H s) (mu:Mut (H x)) (he:e=x\/H e=some (.own x)) (k:∀ b u,b≠e->s.heap.get? b=some u->h'.get? b=some u) (heo:∃ u,h'.get? e=some u)
  (new:zai X.prog X.w (upd H x o) h' x o):Inv X pins σ (upd H x o) { s with heap:=h',toks:=t' }:=I.un (Un.write mu he k heo) (I.hok.write mu he k heo new)
theorem Inv.zjZ {pins':List (Addr × Obj)} (I:Inv X pins σ H s) (h:∀ p∈pins',s.heap.get? p.1=some p.2/\H p.1=none/\p.1≠X.env.locals/\p.1 ∉ X.fs/\∀ v,p.2.data≠.cell v):Inv X pins' σ H s :=
 ⟨I.ok,I.os,I.bare,I.base,I.loc,I.cell,I.free,I.freeC,fun p hp=>(yam.mp hp).elim (fun z=>I.pin p (ybb _ z)) (h p),I.hok,I.len⟩
theorem zlu {N:List Str} (hN:N.Nodup) {i j:Nat} {x:Str} (a:N[i]?=some x) (b:N[j]?=some x):i=j:=by
 obtain ⟨h1,e1⟩:=yac.mp a
 obtain ⟨h2,e2⟩:=yac.mp b
 exact (List.getElem_inj hN).mp (e1.trans e2.symm)
theorem zp1 {M:Model} {A:Around} {E:Value->Shared->Prop} {i:Nat} {x:Str} {v:V} {u:Value} {Q:Unit->Shared->Prop} (I:Inv X pins σ H s) (hN:X.N.Nodup) (hi:X.N[i]?=some x) (hx:Loc X.env.scope x) (r:RelV v u)
  (h:∀ s',Inv X pins (σ.set i (some v)) H s'->(∃ a,Heap.SameBut a s.heap s'.heap/\(a=X.env.locals\/X.env.cells.lookup x=some a))->Q () s') (hf:X.fn x=true\/X.env.scope.names.lookup x=some .local:=by first | exact .inl rfl | exact .inr rfl | assumption):wpAny M A (storeName X.env x u) Q E s:=by
 obtain ⟨m,hn,hl⟩:=id I.loc
 have hcls:(X.env.scope.kind == .class || (X.env.scope.kind == .module && X.env.locals != X.env.globals))=false:=by rw[I.ok.kind];rfl
 have hiσ:i<σ.length:=by rw[I.len];exact (yac.mp hi).1
 have cne:=I.cne
 have tracked:∀ {a:Addr} {h':Heap},(∃ o,s.heap.get? a=some o/\H a=none)->Heap.SameBut a s.heap h'->HOk X.prog X.w H h':=fun {a h'} ha hs b ob e=>by
  obtain ⟨_,_,hfree⟩:=ha
  refine (I.hok b ob e).stay (fun c w' hc q=>(hs.2 c ?_).trans q) (fun _ q=>q) fun _ _ q=>q
  rintro rfl
  rcases hc with rfl | hc
  ·rw[hfree] at e;cases e
  ·rw[hfree] at hc;cases hc
 rcases hx with hk | hk
 ·refine wpAny_storeName_local hk hn (fun h' hn' hs=>?_) hcls
  obtain ⟨oL,_,_,hoL,_⟩:=id hn
  refine h _ ⟨I.ok,I.os,I.bare,⟨fun b o e n hb hx=>?_,fun b o e n hb hx=>?_,I.base.free,fun b o e hx=>?_,I.base.tups,I.base.frzs,I.base.tbls⟩,⟨_,hn',fun j y v' e1 e2 e3=>?_⟩,fun y c e=>?_,I.free,I.freeC,fun p hp=>?_,tracked ⟨oL,hoL,I.free⟩ hs,by simpa using I.len⟩ ⟨_,hs,.inl rfl⟩
  ·exact (hs.2 b (yda (ydb (ydq e) I.ok.above))).trans (I.base.keep b o e n hb hx)
  ·obtain ⟨sl,e1⟩:=I.base.slot b o e n hb hx
   exact ⟨sl,(hs.2 b (yda (ydb (ydq e) I.ok.above))).trans e1⟩
  ·obtain ⟨o',e1⟩:=I.base.there b o e hx
   exact ⟨o',(hs.2 b (yda (ydb (ydq e) I.ok.above))).trans e1⟩
  ·by_cases hj:j=i
   ·subst hj
    rw[hi] at e1;cases e1
    rw[List.getElem?_set_self hiσ] at e2
    cases e2
    exact ⟨u,r,.inl ⟨hk,by simp⟩⟩
   ·rw[List.getElem?_set_ne (Ne.symm hj)] at e2
    obtain ⟨u',r',q⟩:=hl j y v' e1 e2 e3
    refine ⟨u',r',?_⟩
    rcases q with ⟨k,e⟩ | ⟨k,c,e,z⟩
    ·refine .inl ⟨k,?_⟩
     have:y≠x:=fun e=>hj (zlu hN e1 (e ▸ hi))
     simp[this,e]
    ·exact .inr ⟨k,c,e,z.sameBut hs (cne y c e)⟩
  ·obtain ⟨w',z⟩:=I.cell y c e
   exact ⟨w',z.sameBut hs (cne y c e)⟩
  ·obtain ⟨e,n,ne,nf,d⟩:=I.pin p hp
   exact ⟨(hs.2 p.1 ne).trans e,n,ne,nf,d⟩
 ·have hfn:X.fn x=true:=by
   rcases hf with z | z
   ·exact z
   ·rw[z] at hk;cases hk
  obtain ⟨c,hc⟩:=I.ok.has x (.inl hk)
  obtain ⟨w',z⟩:=I.cell x c hc
  refine wpAny_storeName_cell I.ok.kind hk hc z (fun h' hc' hs=>?_)
  obtain ⟨oc,hoc,hocd⟩:=id z
  refine h { s with heap:=h' } ⟨I.ok,I.os,I.bare,⟨fun b o e n hb hx=>?_,fun b o e n hb hx=>?_,I.base.free,fun b o e hx=>?_,I.base.tups,I.base.frzs,I.base.tbls⟩,⟨m,hn.sameBut hs (Ne.symm (cne x c hc)),fun j y v' e1 e2 e3=>?_⟩,fun y c' e=>?_,I.free,I.freeC,fun p hp=>?_,tracked ⟨oc,hoc,I.freeC x c hc⟩ hs,by simpa using I.len⟩ ⟨c,hs,.inr hc⟩
  ·exact (hs.2 b (yda (ydb (ydq e) (I.ok.cab x c hfn hc)))).trans (I.base.keep b o e n hb hx)
  ·obtain ⟨sl,e1⟩:=I.base.slot b o e n hb hx
   exact ⟨sl,(hs.2 b (yda (ydb (ydq e) (I.ok.cab x c hfn hc)))).trans e1⟩
  ·obtain ⟨o',e1⟩:=I.base.there b o e hx
   exact ⟨o',(hs.2 b (yda (ydb (ydq e) (I.ok.cab x c hfn hc)))).trans e1⟩
  ·by_cases hj:j=i
   ·subst hj
    rw[hi] at e1;cases e1
    rw[List.getElem?_set_self hiσ] at e2
    cases e2
    exact ⟨u,r,.inr ⟨.inl hk,c,hc,hc'⟩⟩
   ·rw[List.getElem?_set_ne (Ne.symm hj)] at e2
    obtain ⟨u',r',q⟩:=hl j y v' e1 e2 e3
    refine ⟨u',r',?_⟩
    rcases q with q | ⟨k,c',e,z'⟩
    ·exact .inl q
    ·refine .inr ⟨k,c',e,z'.sameBut hs ?_⟩
     rintro rfl
     exact hj (zlu hN e1 (I.ok.inj _ _ _ e hc ▸ hi))
  ·by_cases hcc:c'=c
   ·subst hcc;exact ⟨_,hc'⟩
   ·obtain ⟨w2,z2⟩:=I.cell y c' e
    exact ⟨w2,z2.sameBut hs hcc⟩
  ·obtain ⟨e,n,ne,nf,d⟩:=I.pin p hp
   refine ⟨(hs.2 p.1 ?_).trans e,n,ne,nf,d⟩
   intro q
   rw[q,hoc] at e
   have q':oc=p.2:=Option.some.inj e
   exact d w' (by rw[<-q'];exact hocd)
theorem zlM {M:Model} {A:Around} {E:Value->Shared->Prop} {i:Nat} {x:Str} {v:V} {u:Value} {Q:Unit->Shared->Prop} (I:Inv X pins σ H s) (hN:X.N.Nodup) (hi:X.N[i]?=some x) (hx:Loc X.env.scope x) (r:RelV v u)
  (h:∀ s',Inv X pins (σ.set i (some v)) H s'->Q () s') (hf:X.fn x=true\/X.env.scope.names.lookup x=some .local:=by first | exact .inl rfl | exact .inr rfl | assumption):wpAny M A (storeName X.env x u) Q E s :=
 zp1 I hN hi hx r (fun s' I' _=>h s' I') hf
theorem Inv.call' {s':Shared} {ch:List Addr} (I:Inv X pins σ H s) (ho:s'.os=s.os) (u:Un (frs X.stack) ch H H' s.heap s'.heap) (hok:HOk X.prog X.w H' s'.heap) (hg:AllBare s'.gens)
  (hch:∀ b∈ch,(b∈X.ex\/X.s₀.heap.objs.size<=b)/\b≠X.env.locals/\(∀ x c,X.env.cells.lookup x=some c->c≠b)/\∀ p∈X.pn++pins,p.1≠b):Inv X pins σ H' s':=by
 obtain ⟨h',g',d',t',o'⟩:=s'
 have e:o'=s.os:=ho
 subst e
 exact I.call (g':=g') (t':=t') (d':=d') u hok hg hch
end
noncomputable abbrev XK:=Value->Option Addr->Hp->Prop
noncomputable abbrev St:=List (Option V)
noncomputable abbrev VK:=V->Hp->Prop
noncomputable abbrev TE:=St->Hp->VK->Prop
noncomputable abbrev TT:=St->Hp->(Bool->Hp->Prop)->Prop
noncomputable abbrev TA:=St->Hp->(List V->Hp->Prop)->Prop
structure Ends where
 nx:St->Hp->Prop
 rt:VK
 bk:St->Hp->Prop:=fun _ _=>False
 ct:St->Hp->Prop:=fun _ _=>False
noncomputable abbrev TS:=Ends->St->Hp->Prop
def EP (X:Cx) (pins:List (Addr × Obj)) (σ:St) (Q:VK) (u:Value) (s':Shared):Prop:=∃ v H',Inv X pins σ H' s'/\RelV v u/\Q v H'
def TP (X:Cx) (pins:List (Addr × Obj)) (σ:St) (Q:Bool->Hp->Prop) (b:Bool) (s':Shared):Prop:=∃ H',Inv X pins σ H' s'/\Q b H'
def AP (X:Cx) (pins:List (Addr × Obj)) (σ:St) (Q:List V->Hp->Prop) (us:List Value) (s':Shared):Prop:=∃ vs H',Inv X pins σ H' s'/\Vals vs us/\Q vs H'
def SP (X:Cx) (pins:List (Addr × Obj)) (D:Ends) (f:Flow) (s':Shared):Prop :=
 match f with
 | .next=>∃ σ' H',Inv X pins σ' H' s'/\D.nx σ' H'
 | .brk=>∃ σ' H',Inv X pins σ' H' s'/\D.bk σ' H'
 | .cont=>∃ σ' H',Inv X pins σ' H' s'/\D.ct σ' H'
 | .ret u=>∃ v σ' H',Inv X pins σ' H' s'/\RelV v u/\D.rt v H'
def PE (X:Cx) (e:Expr) (t:TE):Prop :=
 ∀ (pins:List (Addr × Obj)) (s:Shared) (σ:St) (H:Hp) (Q:VK),Inv X pins σ H s->t σ H Q->wpAny (model X.prog X.w) X.A (eval e X.env) (EP X pins σ Q) X.xe s
def PT (X:Cx) (e:Expr) (t:TT):Prop :=
 ∀ (pins:List (Addr × Obj)) (s:Shared) (σ:St) (H:Hp) (Q:Bool->Hp->Prop),Inv X pins σ H s->t σ H Q->wpAny (model X.prog X.w) X.A (isTrue e X.env (eval e X.env)) (TP X pins σ Q) X.xe s
def PW (X:Cx) (e:Expr) (t:TT):Prop :=
 ∀ (whole:Sem Value) (pins:List (Addr × Obj)) (s:Shared) (σ:St) (H:Hp) (Q:Bool->Hp->Prop),Inv X pins σ H s->t σ H Q->wpAny (model X.prog X.w) X.A (isTrue e X.env whole) (TP X pins σ Q) X.xe s
theorem PW.pt {X:Cx} {e:Expr} {t:TT} (h:PW X e t):PT X e t:=h _
def PA (X:Cx) (es:List Expr) (t:TA):Prop :=
 ∀ (pos:Pos) (pins:List (Addr × Obj)) (s:Shared) (σ:St) (H:Hp) (Q:List V->Hp->Prop),Inv X pins σ H s->t σ H Q->wpAny (model X.prog X.w) X.A (spliced (backTo pos (starEach es X.env))) (AP X pins σ Q) X.xe s
def PS (X:Cx) (st:Stmt) (t:TS):Prop :=
 ∀ (pins:List (Addr × Obj)) (s:Shared) (σ:St) (H:Hp) (D:Ends),Inv X pins σ H s->t D σ H->wpAny (model X.prog X.w) X.A (exec st X.env) (SP X pins D) X.xe s
def PSs (X:Cx) (st:List Stmt) (t:TS):Prop :=
 ∀ (pins:List (Addr × Obj)) (s:Shared) (σ:St) (H:Hp) (D:Ends),Inv X pins σ H s->t D σ H->wpAny (model X.prog X.w) X.A (execs st X.env) (SP X pins D) X.xe s
theorem thn {α:Type} {t:Sem α} {Q Q':α->Shared->Prop} {M:Model} {A:Around} {E:Value->Shared->Prop} {s:Shared} (h:wpAny M A t Q E s) (hQ:∀ a s,Q a s->Q' a s):wpAny M A t Q' E s:=wpAny_mono h hQ fun _ _ x=>x
section
variable {X:Cx}
def zst (i:Nat):TE:=fun σ H Q=>∃ v,σ[i]?=some (some v)/\Q v H
def tC (v:V):TE:=fun _ H Q=>Q v H
theorem zsh {i:Nat} {x:Str} {pos:Pos} (hN:X.N[i]?=some x) (hv:Vis X.env.scope x) (hd:(x == ("__debug__" : Str))=false:=by decide) (hcd:(x == ("__classdict__" : Str))=false:=by decide):PE X (.Name x pos) (zst i):=by
 intro pins s σ H Q I h
 obtain ⟨v,e,h⟩:=h
 obtain ⟨m,hn,hl⟩:=I.loc
 obtain ⟨u,r,l⟩:=hl i x v hN e hv
 have fin:EP X pins σ Q u s:=⟨v,H,I,r,h⟩
 rcases l with ⟨hk,hm⟩ | ⟨hk,c,hc,hcell⟩
 ·exact wpAny_Name (wpAny_loadName_local I.ok.kind hk hn hm fin) hd
 ·rcases hk with hk | hk
  ·exact wpAny_Name (wpAny_loadName_cell I.ok.kind hk hc hcell fin) hd
  ·exact wpAny_Name (wpAny_loadName_free I.ok.kind hk hc hcell fin hcd) hd
theorem zd {i j pos}:PE X (.Constant (.int i) j pos) (tC (.int i)):=fun _ _ _ H _ I h=>wpAny_Constant_int ⟨.int i,H,I.tok _,⟨_,rfl⟩,h⟩
theorem za6 {b j pos}:PE X (.Constant (.bool b) j pos) (tC (.bl b)):=fun _ _ _ H _ I h=>Constant_bool ⟨.bl b,H,I,rfl,h⟩
theorem zt {x j pos}:PE X (.Constant (.str x) j pos) (tC (.str x)):=fun _ _ _ H _ I h=>Calls.Constant_str ⟨.str x,H,I.tok _,⟨_,rfl⟩,h⟩
def Gl (X:Cx) (x:Str):Prop:=X.env.kindOf x=some .globalImplicit
theorem zh0 {E:Value->Shared->Prop} {pins:List (Addr × Obj)} {s:Shared} {σ:St} {H:Hp} {x:Str} {u:Value} {pos:Pos} {Q:Value->Shared->Prop} (I:Inv X pins σ H s) (hg:Gl X x) (hm:X.mg x=some u) (h:Q u s)
  (hd:(x == ("__debug__" : Str))=false:=by decide):wpAny (model X.prog X.w) X.A (eval (.Name x pos) X.env) Q E s :=
 Calls.Name_function_global I.ok.kind hg (Calls.loadGlobal_global (by rw[I.ok.glob];exact I.mod.glob.keeps I.bk) hm h) hd
theorem zga {E:Value->Shared->Prop} {pins:List (Addr × Obj)} {s:Shared} {σ:St} {H:Hp} {x:Str} {u:Value} {pos:Pos} {Q:Value->Shared->Prop} (I:Inv X pins σ H s) (hg:Gl X x) (hm:X.mg x=none) (hv:bootBuiltins x=some u) (h:Q u s)
  (hn:x ≠ "__name__" := by decide) (hd:(x == ("__debug__" : Str))=false:=by decide):wpAny (model X.prog X.w) X.A (eval (.Name x pos) X.env) Q E s:=by
 obtain ⟨mb,h1,h2⟩:=I.mod.blt
 exact Calls.Name_function_global I.ok.kind hg (Calls.loadGlobal_builtin (by rw[I.ok.glob];exact I.mod.glob.keeps I.bk) hm (by rw[I.ok.blt];exact h1.keeps I.bk) ((h2 x hn).trans hv) h) hd
theorem zez {x:Str} {v:V} {u:Value} {pos:Pos} (hg:Gl X x) (hm:X.mg x=some u) (r:RelV v u) (hd:(x == ("__debug__" : Str))=false:=by decide):PE X (.Name x pos) (tC v) :=
 fun _ _ _ H _ I h=>zh0 I hg hm ⟨v,H,I,r,h⟩ hd
theorem zjT {x:Str} {v:V} {u:Value} {pos:Pos} (hg:Gl X x) (hm:X.mg x=none) (hv:bootBuiltins x=some u) (r:RelV v u) (hn:x ≠ "__name__" := by decide) (hd:(x == ("__debug__" : Str))=false:=by decide):PE X (.Name x pos) (tC v) :=
 fun _ _ _ H _ I h=>zga I hg hm hv ⟨v,H,I,r,h⟩ hn hd
variable {a b:Expr} {ta tb:TE} {pos:Pos}
def PC (X:Cx) (op:CmpOp) (a b:Expr) (t:TE):Prop :=
 ∀ (pins:List (Addr × Obj)) (s:Shared) (σ:St) (H:Hp) (Q:VK),Inv X pins σ H s->t σ H Q ->
  wpAny (model X.prog X.w) X.A (eval a X.env) (fun v s₁=>wpAny (model X.prog X.w) X.A (eval b X.env) (fun u s₂=>wpAny (model X.prog X.w) X.A (compareOp op v u) (EP X pins σ Q) X.xe s₂) X.xe s₁) X.xe s
def tB (t:TE):TT:=fun σ H Q=>t σ H fun x H1=>∃ c,x=.bl c/\Q c H1
theorem zaD {e:Expr} {t:TE} (h:PE X e t) (he:∀ whole,isTrue e X.env whole=(do let v <-whole;standAt e.pos;holding [v] (truthy v)):=by intro _;rfl):PT X e (tB t):=by
 intro pins s σ H Q I hw
 refine isTrue_plain (thn (h pins s σ H _ I hw) fun v s1 ⟨x,H1,I1,r1,q1⟩=>?_) (he _)
 obtain ⟨d,rfl,q⟩:=q1
 cases r1
 exact wpAny_truthy_bool ⟨H1,I1,q⟩
variable {tA tB':TT} {rest:List Expr}
def ztU (t u:TT):TT:=fun σ H Q=>t σ H fun c H1=>if c=true then u σ H1 Q else Q false H1
def tOr (t u:TT):TT:=fun σ H Q=>t σ H fun c H1=>if c=true then Q true H1 else u σ H1 Q
def ztF (t:TT):TT:=fun σ H Q=>t σ H fun c H1=>Q (!c) H1
theorem zdq (ha:PT X a tA):PW X (.BoolOp .And [a] pos) tA:=by
 intro wh pins s σ H Q I h
 refine isTrue_and (thn (ha pins s σ H Q I h) fun c s1 e=>?_)
 cases c with
 | true=>exact isTrue_and_nil e
 | false=>exact e
theorem zeI (ha:PT X a tA):PW X (.BoolOp .Or [a] pos) tA:=by
 intro wh pins s σ H Q I h
 refine isTrue_or (thn (ha pins s σ H Q I h) fun c s1 e=>?_)
 cases c with
 | false=>exact isTrue_or_nil e
 | true=>exact e
theorem zcj (ha:PT X a tA) (hb:PW X (.BoolOp .And (b::rest) pos) tB'):PW X (.BoolOp .And (a::b::rest) pos) (ztU tA tB'):=by
 intro wh pins s σ H Q I h
 refine isTrue_and (thn (ha pins s σ H _ I h) fun c s1 ⟨H1,I1,q1⟩=>?_)
 cases c with
 | true=>exact hb wh pins s1 σ H1 Q I1 q1
 | false=>exact ⟨H1,I1,q1⟩
theorem zgv (ha:PT X a tA) (hb:PW X (.BoolOp .Or (b::rest) pos) tB'):PW X (.BoolOp .Or (a::b::rest) pos) (tOr tA tB'):=by
 intro wh pins s σ H Q I h
 refine isTrue_or (thn (ha pins s σ H _ I h) fun c s1 ⟨H1,I1,q1⟩=>?_)
 cases c with
 | true=>exact ⟨H1,I1,q1⟩
 | false=>exact hb wh pins s1 σ H1 Q I1 q1
theorem zbo (ha:PT X a tA):PT X (.UnaryOp .Not a pos) (ztF tA):=by
 intro pins s σ H Q I h
 exact isTrue_not (ha pins s σ H (fun c H1=>Q (!c) H1) I h)
def ztg (ta tb:TE):TE:=fun σ H Q=>ta σ H fun x H1=>∃ c,x=.bl c/\if c=true then tb σ H1 Q else Q (.bl false) H1
def ztC (ta tb:TE):TE:=fun σ H Q=>ta σ H fun x H1=>∃ c,x=.bl c/\if c=true then Q (.bl true) H1 else tb σ H1 Q
def zte (ta:TE):TE:=fun σ H Q=>ta σ H fun x H1=>∃ c,x=.bl c/\Q (.bl (!c)) H1
theorem zbP {op} {t:TE} (h:PE X a t):PE X (.BoolOp op [a] pos) t:=fun pins s σ H Q I hw=>BoolOp_one (h pins s σ H Q I hw)
theorem zbQ (ha:PE X a ta) (hb:PE X (.BoolOp .And (b::rest) pos) tb):PE X (.BoolOp .And (a::b::rest) pos) (ztg ta tb):=by
 intro pins s σ H Q I h
 refine BoolOp_and (thn (ha pins s σ H _ I h) fun v s1 ⟨x,H1,I1,r1,q1⟩=>?_)
 obtain ⟨c,rfl,q1⟩:=q1
 cases r1
 refine wpAny_truthy_bool ?_
 cases c with
 | true=>exact hb pins s1 σ H1 Q I1 q1
 | false=>exact ⟨.bl false,H1,I1,rfl,q1⟩
theorem zsZ (ha:PE X a ta) (hb:PE X (.BoolOp .Or (b::rest) pos) tb):PE X (.BoolOp .Or (a::b::rest) pos) (ztC ta tb):=by
 intro pins s σ H Q I h
 refine BoolOp_or (thn (ha pins s σ H _ I h) fun v s1 ⟨x,H1,I1,r1,q1⟩=>?_)
 obtain ⟨c,rfl,q1⟩:=q1
 cases r1
 refine wpAny_truthy_bool ?_
 cases c with
 | false=>exact hb pins s1 σ H1 Q I1 q1
 | true=>exact ⟨.bl true,H1,I1,rfl,q1⟩
theorem zsf (ha:PE X a ta):PE X (.UnaryOp .Not a pos) (zte ta):=by
 intro pins s σ H Q I h
 refine UnaryOp_ (thn (ha pins s σ H _ I h) fun v s1 ⟨x,H1,I1,r1,q1⟩=>?_)
 obtain ⟨c,rfl,q1⟩:=q1
 cases r1
 exact not_of (wpAny_truthy_bool ⟨.bl (!c),H1,I1,rfl,q1⟩)
def tIf (t:TT) (ta tb:TE):TE:=fun σ H Q=>t σ H fun c H1=>if c=true then ta σ H1 Q else tb σ H1 Q
theorem zqG {c:Expr} (hc:PT X c tA) (ha:PE X a ta) (hb:PE X b tb):PE X (.IfExp c a b pos) (tIf tA ta tb):=by
 intro pins s σ H Q I h
 refine wpAny_IfExp (thn (hc pins s σ H _ I h) fun d s1 ⟨H1,I1,q1⟩=>?_)
 cases d with
 | true=>exact ha pins s1 σ H1 Q I1 q1
 | false=>exact hb pins s1 σ H1 Q I1 q1
end
def SqL (K:W.Frag) (H:Hp) (a:Addr) (xs:List V):Prop :=
 Rd H a (.lst xs) \/
  ∃ (o:Obj) (its:Array Value) (n:Nat),K.lookup a=some o/\o.cls=.type "list" /\ o.dict=none/\o.data=.seq its n/\its.size<=sizeLine/\Vals xs its.toList
def SqT (K:W.Frag) (H:Hp) (a:Addr) (xs:List V):Prop :=
 Rd H a (.tup xs) \/
  ∃ (o:Obj) (its:Array Value) (n:Nat),K.lookup a=some o/\o.cls=.type "tuple" /\ o.data=.seq its n/\its.size<=sizeLine/\Vals xs its.toList
noncomputable def ztE:Value->Option V
 | .none=>some .non
 | .bool b=>some (.bl b)
 | .int i _=>some (.int i)
 | .str x _=>some (.str x)
 | .bytes b _=>some (.byt b)
 | .float b _=>some (.flt b)
 | .ref a=>some (.ref a)
 | .type n=>some (.ty n)
 | _=>none
theorem RelV.abs {x:V} {u:Value} (r:RelV x u):ztE u=some x:=by
 cases x with
 | non=>cases r;rfl
 | bl _=>cases r;rfl
 | int _=>obtain ⟨t,rfl⟩:=r;rfl
 | str _=>obtain ⟨t,rfl⟩:=r;rfl
 | byt _=>obtain ⟨t,rfl⟩:=r;rfl
 | flt _=>obtain ⟨t,rfl⟩:=r;rfl
 | ref _=>cases r;rfl
 | ty _=>cases r;rfl
theorem RelV.inj {x y:V} {u:Value} (r:RelV x u) (q:RelV y u):x=y:=Option.some.inj (r.abs.symm.trans q.abs)
theorem Vals.inj:∀ {xs ys:List V} {us:List Value},Vals xs us->Vals ys us->xs=ys
 | _,_,_,.nil,.nil=>rfl
 | _,_,_,.cons r t,.cons r' t'=>by rw[r.inj r',Vals.inj t t']
section
variable {X:Cx} {pins:List (Addr × Obj)} {σ:St} {H:Hp} {s:Shared} {a:Addr} {xs ys:List V}
theorem SqL.of {K:W.Frag} (h:H a=some (.lst xs)):SqL K H a xs:=.inl (.inl h)
theorem SqT.of {K:W.Frag} (h:H a=some (.tup xs)):SqT K H a xs:=.inl (.inl h)
theorem Inv.list (I:Inv X pins σ H s) (h:SqL X.K H a xs):∃ its:List Value,Vals xs its/\PlainL s.heap a its.toArray/\xs.length<=sizeLine:=by
 rcases h with h | ⟨o,its,n,hk,hc,hd,hs,hz,r⟩
 ·obtain ⟨z,its,n,r,e⟩:=h.ok I.hok
  exact ⟨its,r,⟨_,n,e,rfl,rfl,rfl⟩,z⟩
 ·refine ⟨its.toList,r,⟨o,n,I.kIn a o hk,hc,hd,by simpa using hs⟩,?_⟩
  have e:=r.length
  simp only[yeb] at e
  ac_rfl
theorem Inv.tuple (I:Inv X pins σ H s) (h:SqT X.K H a xs):∃ its:List Value,Vals xs its/\IsTup s.heap a its.toArray/\xs.length<=sizeLine:=by
 rcases h with h | ⟨o,its,n,hk,hc,hs,hz,r⟩
 ·obtain ⟨z,its,r,p⟩:=h.ok I.hok
  exact ⟨its,r,p,z⟩
 ·refine ⟨its.toList,r,⟨o,I.kIn a o hk,hc,n,by simpa using hs⟩,?_⟩
  have e:=r.length
  simp only[yeb] at e
  ac_rfl
theorem Inv.zqf (I:Inv X pins σ H s) (h:SqL X.K H a xs) (h':SqL X.K H a ys):xs=ys:=by
 obtain ⟨its,r,⟨o,n,e,_,_,d⟩,_⟩:=I.list h
 obtain ⟨its',r',⟨o',n',e',_,_,d'⟩,_⟩:=I.list h'
 rw[e] at e';cases e'
 rw[d] at d'
 injection d' with d1 _
 have:its=its':=by simpa using congrArg Array.toList d1
 subst this
 exact r.inj r'
end
noncomputable abbrev Cx.wish (X:Cx) (E:Value->Shared->Prop):Cx:={ X with xe:=E }
noncomputable abbrev Cx.nox (X:Cx):Cx:=X.wish fun _ _=>False
theorem Cx.Ok.wish {X:Cx} (ok:X.Ok) (E:Value->Shared->Prop):(X.wish E).Ok :=
 ⟨ok.mod,ok.kind,ok.glob,ok.blt,ok.above,ok.inj,ok.has,ok.cab,ok.hd,ok.frames,ok.stk,ok.exf,ok.bs,ok.bsz,ok.noex,ok.exfs,ok.funs,ok.frf⟩
theorem Cx.Ok.unwish {X:Cx} {E:Value->Shared->Prop} (ok:(X.wish E).Ok):X.Ok :=
 ⟨ok.mod,ok.kind,ok.glob,ok.blt,ok.above,ok.inj,ok.has,ok.cab,ok.hd,ok.frames,ok.stk,ok.exf,ok.bs,ok.bsz,ok.noex,ok.exfs,ok.funs,ok.frf⟩
section
variable {X:Cx} {pins:List (Addr × Obj)} {σ:St} {H:Hp} {s:Shared} {E:Value->Shared->Prop}
theorem Inv.wish (I:Inv X pins σ H s) (E:Value->Shared->Prop):Inv (X.wish E) pins σ H s:=⟨I.ok.wish E,I.os,I.bare,I.base,I.loc,I.cell,I.free,I.freeC,I.pin,I.hok,I.len⟩
theorem Inv.unwish (I:Inv (X.wish E) pins σ H s):Inv X pins σ H s:=⟨I.ok.unwish,I.os,I.bare,I.base,I.loc,I.cell,I.free,I.freeC,I.pin,I.hok,I.len⟩
theorem SP.unwish {D:Ends} {f:Flow} {s':Shared} (h:SP (X.wish E) pins D f s'):SP X pins D f s':=by
 cases f with
 | next=>obtain ⟨σ',H',I,q⟩:=h;exact ⟨σ',H',I.unwish,q⟩
 | brk=>obtain ⟨σ',H',I,q⟩:=h;exact ⟨σ',H',I.unwish,q⟩
 | cont=>obtain ⟨σ',H',I,q⟩:=h;exact ⟨σ',H',I.unwish,q⟩
 | ret u=>obtain ⟨v,σ',H',I,r,q⟩:=h;exact ⟨v,σ',H',I.unwish,r,q⟩
theorem PSs.nox {st:List Stmt} {t:TS} (h:PSs X.nox st t):PSs X st t:=fun pins s σ H D I hw =>
 wpAny_mono (h pins s σ H D (I.wish _) hw) (fun _ _ q=>q.unwish) fun _ _ z=>False.elim z
end
section
variable {X:Cx} {st:Stmt} {rest:List Stmt} {t u:TS} {e:Expr} {te:TE} {pos:Pos}
def zsW:TS:=fun D σ H=>D.nx σ H
def zV (t u:TS):TS:=fun D σ H=>t { D with nx:=u D } σ H
theorem zx:PSs X [] zsW:=fun _ _ σ H _ I h=>wpAny_execs_nil ⟨σ,H,I,h⟩
theorem zqO (h1:PS X st t) (h2:PSs X rest u):PSs X (st::rest) (zV t u):=by
 intro pins s σ H D I h
 refine wpAny_execs_cons (thn (h1 pins s σ H { D with nx:=u D } I h) fun f s1 q=>?_)
 cases f with
 | next =>
  obtain ⟨σ',H',I',q⟩:=q
  exact h2 pins s1 σ' H' D I' q
 | ret v=>exact q
 | brk=>exact q
 | cont=>exact q
theorem zi (h1:PS X st t):PSs X [st] t:=by
 intro pins s σ H D I h
 refine wpAny_execs_cons (thn (h1 pins s σ H D I h) fun f s1 q=>?_)
 cases f with
 | next=>exact wpAny_execs_nil q
 | ret v=>exact q
 | brk=>exact q
 | cont=>exact q
theorem Inv.quiet {pins:List (Addr × Obj)} {σ:St} {H:Hp} {s:Shared} (I:Inv X pins σ H s):interactive X.env=false:=by simp[interactive,I.ok.kind]
def zs7 (te:TE):TS:=fun D σ H=>te σ H fun _ H1=>D.nx σ H1
theorem zb3 (he:PE X e te) (hs:swapsWith e none pos.line X.env=pure false:=by rfl):PS X (.Expr e pos) (zs7 te):=by
 intro pins s σ H D I h
 exact wpAny_Expr_any (thn (he pins s σ H _ I h) fun v s1 ⟨x,H1,I1,r1,q1⟩=>⟨σ,H1,I1,q1⟩) I.quiet hs
def ztB (te:TE):TS:=fun D σ H=>te σ H D.rt
theorem zl (he:PE X e te):PS X (.Return (some e) pos) (ztB te):=by
 intro pins s σ H D I h
 exact wpAny_Return_some (thn (he pins s σ H _ I h) fun v s1 ⟨x,H1,I1,r1,q1⟩=>⟨x,σ,H1,I1,r1,q1⟩)
def ztA (c:TT) (t u:TS):TS:=fun D σ H=>c σ H fun b H1=>if b=true then t D σ H1 else u D σ H1
theorem zH {c:Expr} {a b:List Stmt} {tc:TT} (hc:PT X c tc) (ha:PSs X a t) (hb:PSs X b u):PS X (.If c a b pos) (ztA tc t u):=by
 intro pins s σ H D I h
 refine wpAny_If (thn (hc pins s σ H _ I h) fun d s1 ⟨H1,I1,q1⟩=>?_)
 cases d with
 | true=>exact ha pins s1 σ H1 D I1 q1
 | false=>exact hb pins s1 σ H1 D I1 q1
def zsr:TS:=fun _ _ _=>False
theorem zdU {sts:List Stmt}:PSs X sts zsr:=fun _ _ _ _ _ _ h=>h.elim
end
noncomputable abbrev TG:=V->St->Hp->(St->Hp->Prop)->Prop
noncomputable abbrev TGs:=List V->St->Hp->(St->Hp->Prop)->Prop
def PG (X:Cx) (target:Expr) (t:TG):Prop :=
 ∀ (pins:List (Addr × Obj)) (s:Shared) (σ:St) (H:Hp) (v:V) (u:Value) (Q:St->Hp->Prop),Inv X pins σ H s->RelV v u->t v σ H Q ->
  wpAny (model X.prog X.w) X.A (assign target X.env u) (fun _ s'=>∃ σ' H',Inv X pins σ' H' s'/\Q σ' H') X.xe s
def PGs (X:Cx) (ts:List Expr) (t:TGs):Prop :=
 ∀ (pins:List (Addr × Obj)) (s:Shared) (σ:St) (H:Hp) (vs:List V) (us:List Value) (Q:St->Hp->Prop),Inv X pins σ H s->Vals vs us->t vs σ H Q ->
  wpAny (model X.prog X.w) X.A (assignInOrder ((assignEach ts X.env).map (·.2)) us) (fun _ s'=>∃ σ' H',Inv X pins σ' H' s'/\Q σ' H') X.xe s
noncomputable abbrev TSet:=V->V->V->Hp->(Hp->Prop)->Prop
def PSet (X:Cx) (t:TSet):Prop :=
 ∀ (pins:List (Addr × Obj)) (s:Shared) (σ:St) (H:Hp) (o i v:V) (ov iv u:Value) (Q:Hp->Prop),Inv X pins σ H s->RelV o ov->RelV i iv->RelV v u->t o i v H Q ->
  wpAny (model X.prog X.w) X.A (setItem ov iv u) (fun _ s'=>∃ H',Inv X pins σ H' s'/\Q H') X.xe s
section
variable {X:Cx} {pos:Pos}
def zfn (i:Nat):TG:=fun v σ H Q=>Q (σ.set i (some v)) H
theorem zar {i:Nat} {x:Str} (hN:X.N.Nodup) (hi:X.N[i]?=some x) (hx:Loc X.env.scope x) (hf:X.fn x=true\/X.env.scope.names.lookup x=some .local:=by first | exact .inl rfl | exact .inr rfl | assumption):PG X (.Name x pos) (zfn i):=by
 intro pins s σ H v u Q I r h
 exact wpAny_assign_Name (zlM I hN hi hx r (fun s' I'=>⟨_,H,I',h⟩) hf)
noncomputable def ztY:TGs:=fun vs σ H Q=>vs=[]/\Q σ H
noncomputable def zs3 (t:TG) (u:TGs):TGs:=fun vs σ H Q=>∃ v r,vs=v::r/\t v σ H fun σ' H'=>u r σ' H' Q
theorem zjW:PGs X [] ztY:=by
 intro pins s σ H vs us Q I r h
 obtain ⟨e,h⟩:=h
 subst e
 cases r
 exact assignInOrder_nil ⟨σ,H,I,h⟩
theorem zbC {e:Expr} {es:List Expr} {t:TG} {u:TGs} (h1:PG X e t) (h2:PGs X es u)
  (hs:(assignEach (e::es) X.env).map (·.2)=assign e X.env::(assignEach es X.env).map (·.2):=by rfl):PGs X (e::es) (zs3 t u):=by
 intro pins s σ H vs us Q I r h
 obtain ⟨v,vr,e1,h⟩:=h
 subst e1
 cases r with
 | cons r rr =>
  rw[hs]
  refine assignInOrder_cons (thn (h1 pins s σ H _ _ _ I r h) fun _ s1 ⟨σ1,H1,I1,q1⟩=>?_)
  exact h2 pins s1 σ1 H1 _ _ Q I1 rr q1
def ztt (K:W.Frag) (n:Nat) (t:TGs):TG:=fun v σ H Q=>∃ a xs,v=.ref a/\SqT K H a xs/\xs.length=n/\t xs σ H Q
theorem zmP {es:List Expr} {k:Nat} {t:TGs} {n:Nat} (hc:X.calm=true) (h:PGs X es t)
  (hn:(assignEach es X.env).length=n:=by rfl) (hst:(assignEach es X.env).findIdx? (·.1)=none:=by rfl):PG X (.Tuple es k pos) (ztt X.K n t):=by
 intro pins s σ H v u Q I r hw
 obtain ⟨a,xs,e1,hq,hl,hw⟩:=hw
 subst e1
 cases r
 obtain ⟨its,rv,ht,hz⟩:=I.tuple hq
 refine assign_Tuple_tuple (I.ok.hd hc) ht (by simp[hn,<-hl,rv.length]) hst fun h' hx=>?_
 have I1:Inv X pins σ H { s with heap:=h' }:=I.kept (t':=s.toks) fun b o e=>hx b o (yda (ydq e)) e
 exact h pins _ σ H xs _ Q I1 (by simpa using rv) hw
def ztO (to ti:TE) (t:TSet):TG:=fun v σ H Q=>to σ H fun o H1=>ti σ H1 fun i H2=>t o i v H2 fun H3=>Q σ H3
theorem zso {o i:Expr} {to ti:TE} {t:TSet} (ho:PE X o to) (hi:PE X i ti) (hs:PSet X t)
  (ha:∀ v,assign (.Subscript o i pos) X.env v=(do
   let ov <-holding [v] (eval o X.env)
   let iv <-holding [v,ov] (eval i X.env)
   standAt pos
   holding [v,ov,iv] (setItem ov iv v)
   release [v,ov,iv] []):=by intro _;rfl):PG X (.Subscript o i pos) (ztO to ti t):=by
 intro pins s σ H v u Q I r h
 rw[ha]
 refine wpAny_bind (wpAny_holding (thn (ho pins s σ H _ I h) fun ov s1 ⟨x,H1,I1,r1,q1⟩=>?_))
 refine wpAny_bind (wpAny_holding (thn (hi pins s1 σ H1 _ I1 q1) fun iv s2 ⟨y,H2,I2,r2,q2⟩=>?_))
 refine wpAny_bind (wpAny_standAt (wpAny_bind (wpAny_holding (thn (hs pins s2 σ H2 x y v ov iv u _ I2 r1 r2 r q2) fun _ s3 ⟨H3,I3,q3⟩=>?_))))
 exact wpAny_release ⟨σ,H3,I3,q3⟩
def zoy (te:TE) (g:TG):TS:=fun D σ H=>te σ H fun x H1=>g x σ H1 D.nx
theorem zjv {tg e:Expr} {te:TE} {g:TG} (he:PE X e te) (hg:PG X tg g) (hs:swapsWithSole [tg] e pos.line X.env=pure false:=by rfl) (hw:swappedStores [tg] e X.env=pure none:=by rfl)
  (h1:(assignEach [tg] X.env).map (·.2)=[assign tg X.env]:=by rfl):PS X (.Assign [tg] e pos) (zoy te g):=by
 intro pins s σ H D I h
 refine wpAny_Assign_stores (thn (he pins s σ H _ I h) fun v s1 ⟨x,H1,I1,r1,q1⟩=>?_) hs hw
 rw[h1]
 exact thn (hg pins s1 σ H1 x v _ I1 r1 q1) fun _ s2 q=>q
theorem zq {i:Nat} {x:Str} {e:Expr} {te:TE} {pos':Pos} (hN:X.N.Nodup) (hi:X.N[i]?=some x) (hx:Loc X.env.scope x) (he:PE X e te) (hs:swapsWith e (some (.Name x pos')) pos.line X.env=pure false:=by rfl) (hf:X.fn x=true\/X.env.scope.names.lookup x=some .local:=by first | exact .inl rfl | exact .inr rfl | assumption) :
  PS X (.Assign [.Name x pos'] e pos) (zoy te (zfn i)):=by
 intro pins s σ H D I h
 refine wpAny_Assign_Name (thn (he pins s σ H _ I h) fun v s1 ⟨y,H1,I1,r1,q1⟩=>?_) hs
 exact zlM I1 hN hi hx r1 (fun s2 I2=>⟨_,H1,I2,q1⟩) hf
end
section
variable {X:Cx} {pos:Pos}
def zsg (c:TT) (tb:TS):TS:=fun D σ H=>∃ W:Nat->St->Hp->Prop,(∃ m,W m σ H)/\∀ m σ H,W m σ H ->
 c σ H fun b H1=>if b=true then ∃ N:St->Hp->Prop,(∀ σ' H',N σ' H'->∃ m',m'<m/\W m' σ' H')/\tb { D with nx:=N,ct:=N,bk:=D.nx } σ H1 else D.nx σ H1
theorem zqk {c:Expr} {body:List Stmt} {tc:TT} {tb:TS} (hp:PassesOwn (model X.prog X.w) X.A X.env X.xe) (hc:PT X c tc) (hb:PSs X body tb):PS X (.While c body [] pos) (zsg tc tb):=by
 intro pins s σ H D I h
 obtain ⟨W,⟨m0,w0⟩,turn⟩:=h
 refine wpAny_While (codeAny_whileLoop (fun n s'=>∃ σ' H',Inv X pins σ' H' s'/\W n σ' H') ?_ m0 ⟨σ,H,I,w0⟩)
 rintro n s1 ⟨σ1,H1,I1,w1⟩
 refine wpAny_passesOwn hp (thn (hc pins s1 σ1 H1 _ I1 (turn n σ1 H1 w1)) fun b s2 ⟨H2,I2,q2⟩=>?_)
 cases b with
 | true =>
  obtain ⟨N,hN,q2⟩:=q2
  rw[if_pos rfl]
  refine wpAny_passesOwn hp (thn (hb pins s2 σ1 H2 _ I2 q2) fun f s3 q3=>?_)
  cases f with
  | next =>
   obtain ⟨σ3,H3,I3,n3⟩:=q3
   obtain ⟨m',hm,w3⟩:=hN σ3 H3 n3
   exact ⟨m',hm,σ3,H3,I3,w3⟩
  | cont =>
   obtain ⟨σ3,H3,I3,n3⟩:=q3
   obtain ⟨m',hm,w3⟩:=hN σ3 H3 n3
   exact ⟨m',hm,σ3,H3,I3,w3⟩
  | brk=>exact q3
  | ret v=>exact q3
 | false =>
  rw[if_neg Bool.false_ne_true]
  exact wpAny_execs_nil ⟨σ1,H2,I2,q2⟩
end
structure It where
 go:Nat->Hp->Prop
 yld:Nat->Hp->V->Hp->Prop
 stop:Nat->Hp->Prop
def zbZ (X:Cx) (pins:List (Addr × Obj)) (H:Hp) (b:Addr):Prop :=
 H b=none/\b≠X.env.locals/\b ∉ X.fs/\(b∈X.ex\/X.s₀.heap.objs.size<=b)/\(∀ x c,X.env.cells.lookup x=some c->c≠b)/\∀ p∈X.pn++pins,p.1≠b
theorem Inv.zon {X:Cx} {pins:List (Addr × Obj)} {σ:St} {H H':Hp} {s:Shared} {b:Addr} (I:Inv X pins σ H s) (hb:s.heap.objs.size<=b) (hn:H' b=none):zbZ X pins H' b:=by
 refine ⟨hn,ydh (ydb I.lt hb),I.nofs hb,.inr (yde I.sz hb),fun x c e z=>?_,fun p hp z=>?_⟩
 ·obtain ⟨v,q⟩:=I.cell x c e
  exact absurd (ydb q.lt (by rw[z];exact hb)) (ydg _)
 ·exact absurd (ydb (ydq (I.pin p hp).1) (by rw[z];exact hb)) (ydg _)
structure Turn (P:Program) (w:World) (K:W.Frag) (tg:Expr) (J:It) (fp:List Addr) (it:Addr) (tn:Nat->Heap->Prop):Prop where
 mem:it∈fp
 obj:∀ i h,tn i h->∀ b∈fp,∃ o,h.get? b=some o/\∀ v,o.data≠.cell v
 keep:∀ i h h',tn i h->(∀ b∈fp,∀ o,h.get? b=some o->h'.get? b=some o)->tn i h'
 item:∀ (X:Cx),X.prog=P->X.w=w->X.K=K->X.calm=true->∀ (i:Nat) (pins:List (Addr × Obj)) (s:Shared) (σ:St) (H:Hp) (E:Value->Shared->Prop),Inv X pins σ H s->(∀ b∈fp,zbZ X pins H b)->tn i s.heap->J.go i H ->
  wpAny (model P w) X.A (pyNext (.ref it)) (fun r s1=>∃ u,r=some u /\
   wpAny (model P w) X.A (letOwnedTupleGo tg (.ref it) u) (fun _ s2=>∃ x H',Inv X pins σ H' s2/\RelV x u/\J.yld i H x H'/\tn (i+1) s2.heap/\∀ b∈fp,H' b=none) E s1) E s
 done:∀ (X:Cx),X.prog=P->X.w=w->X.K=K->X.calm=true->∀ (i:Nat) (pins:List (Addr × Obj)) (s:Shared) (σ:St) (H:Hp) (E:Value->Shared->Prop),Inv X pins σ H s->(∀ b∈fp,zbZ X pins H b)->tn i s.heap->J.stop i H ->
  wpAny (model P w) X.A (pyNext (.ref it)) (fun r s1=>r=none/\Inv X pins σ H s1) E s
 self:∀ (A:Around) (i:Nat) (s:Shared) (Q:Value->Shared->Prop) (E:Value->Shared->Prop),tn i s.heap->Q (.ref it) s->wpAny (model P w) A (pyIter (.ref it)) Q E s
noncomputable abbrev TI:=St->Hp->(It->Hp->Prop)->Prop
def PIE (X:Cx) (pins:List (Addr × Obj)) (σ:St) (tg:Expr) (R:It->Hp->Prop) (itv:Value) (s2:Shared):Prop :=
 ∃ (it:Addr) (fp:List Addr) (tn:Nat->Heap->Prop) (J:It) (H':Hp),itv=.ref it/\Inv X pins σ H' s2/\Turn X.prog X.w X.K tg J fp it tn/\tn 0 s2.heap/\(∀ b∈fp,zbZ X pins H' b)/\R J H'
def PI (X:Cx) (tg iter:Expr) (wi:TI):Prop :=
 ∀ (pins:List (Addr × Obj)) (s:Shared) (σ:St) (H:Hp) (R:It->Hp->Prop),Inv X pins σ H s->wi σ H R ->
  wpAny (model X.prog X.w) X.A (eval iter X.env) (fun v s1=>wpAny (model X.prog X.w) X.A (pyIter v) (PIE X pins σ tg R) X.xe s1) X.xe s
theorem zre {M:Model} {A:Around} {E:Value->Shared->Prop} {s:Shared} {tg:Expr} {it:Addr} {u:Value} {o:Obj} {n:String} {vs:Array Value} {Q:Unit->Shared->Prop} (ho:s.heap.get? it=some o) (hc:o.cls=.type n) (hd:o.data=.fields vs)
  (hn:["enumerate", "zip", "dict_itemiterator", "dict_reverseitemiterator", "odict_iterator", "itertools.zip_longest", "itertools.pairwise"].contains n=false) (hQ:Q () s):wpAny M A (letOwnedTupleGo tg (.ref it) u) Q E s:=by
 unfold letOwnedTupleGo
 cases tg <;> first
  | exact wpAny_pure hQ
  | (cases u <;> first
    | exact wpAny_pure hQ
    | (refine wpAny_bind (wpAny_load ho ?_)
       rw[hc,hd]
       show wpAny M A (if (["enumerate", "zip", "dict_itemiterator", "dict_reverseitemiterator", "odict_iterator", "itertools.zip_longest", "itertools.pairwise"].contains n && vs[0]? == some (rawInt _))=true then _ else _) Q E s
       rw[if_neg (by intro h;rw[hn,Bool.false_and] at h;cases h)]
       exact wpAny_pure hQ))
noncomputable def Itl (K:W.Frag) (a:Addr):It :=
 ⟨fun i H=>∃ xs x,SqL K H a xs/\xs[i]?=some x,fun i H x H'=>H'=H/\∀ xs,SqL K H a xs->xs[i]?=some x,fun i H=>∃ xs,SqL K H a xs/\xs.length<=i⟩
noncomputable def Itr (lo:Int) (n:Nat):It:=⟨fun i _=>i<n,fun i H x H'=>H'=H/\x=.int (lo+i),fun i _=>n<=i⟩
theorem zph {P:Program} {w:World} {K:W.Frag} {tg:Expr} (a it:Addr):Turn P w K tg (Itl K a) [it] it (fun i h=>h.IsListIter it a i) where
 mem:=by simp
 obj:=fun i h st b hb=>by
  have e:b=it:=by simpa using hb
  subst e
  obtain ⟨o,e,c,d⟩:=st
  exact ⟨o,e,fun v z=>by rw[d] at z;cases z⟩
 keep:=fun i h h' st k=>st.at fun o e=>k it (by simp) o e
 item:=by
  intro X hP hw hK hc i pins s σ H E I hf st hg
  subst hP hw hK
  obtain ⟨xs,x,hq,hx⟩:=hg
  obtain ⟨its,rv,p,hz⟩:=I.list hq
  obtain ⟨u,hu,ru⟩:=rv.get hx
  obtain ⟨f0,f1,f2,f3,f4,f5⟩:=hf it (by simp)
  refine wpAny_pyNext_list_item st p.isList (x:=u) (by simpa using hu) fun h' st' sb=>?_
  have I1:Inv X pins σ H { s with heap:=h' }:=I.turned (t':=s.toks) (fun b o hb e=>(sb.2 b hb).trans e) f0 f1 f3 f4 f5
  obtain ⟨o,e,c,d⟩:=id st'
  exact ⟨u,rfl,zre (s:={ s with heap:=h' }) e c d (by decide) ⟨x,H,I1,ru,⟨rfl,fun ys hy=>by rw[I.zqf hy hq];exact hx⟩,st',fun b hb=>(hf b hb).1⟩⟩
 done:=by
  intro X hP hw hK hc i pins s σ H E I hf st hg
  subst hP hw hK
  obtain ⟨xs,hq,hx⟩:=hg
  obtain ⟨its,rv,p,hz⟩:=I.list hq
  obtain ⟨f0,f1,f2,f3,f4,f5⟩:=hf it (by simp)
  have hl:=rv.length
  exact wpAny_pyNext_list_end (I.ok.hd hc) st p.isList (by simp;ac_rfl) fun h' eb=>⟨rfl,I.turned (t':=s.toks) (fun b o hb e=>eb b o hb e) f0 f1 f3 f4 f5⟩
 self:=fun _ _ _ _ _ st h=>wpAny_pyIter_listiter st h
theorem zoA {P:Program} {w:World} {K:W.Frag} {tg:Expr} (it:Addr) (lo:Int) (n:Nat):Turn P w K tg (Itr lo n) [it] it (fun i h=>IsRangeIter h it (lo+(i:Nat)*1) ((n:Int)-(i:Nat)) 1) where
 mem:=by simp
 obj:=fun i h st b hb=>by
  have e:b=it:=by simpa using hb
  subst e
  exact ⟨_,st,fun v z=>by
   have z':Data.fields _=Data.cell v:=z
   cases z'⟩
 keep:=fun i h h' st k=>k it (by simp) _ st
 item:=by
  intro X hP hw hK hc i pins s σ H E I hf st hg
  subst hP hw hK
  obtain ⟨f0,f1,f2,f3,f4,f5⟩:=hf it (by simp)
  have W:=Walks.range (prog:=X.prog) (w:=X.w) (I.ok.hd hc) it lo 1 n
  refine W.item i s _ _ hg st fun v h' tk hv st' kk=>?_
  obtain ⟨t,rfl⟩:=hv
  have I1:Inv X pins σ H { s with heap:=h',toks:=tk }:=I.turned (fun b o hb e=>kk b o (by simpa using hb) e) f0 f1 f3 f4 f5
  refine ⟨_,rfl,zre (s:={ s with heap:=h',toks:=tk }) (n:="range_iterator") st' rfl rfl (by decide) ⟨.int (lo+i),H,I1,⟨t,?_⟩,⟨rfl,rfl⟩,st',fun b hb=>(hf b hb).1⟩⟩
  rw[Int.mul_one]
 done:=by
  intro X hP hw hK hc i pins s σ H E I hf st hg
  subst hP hw hK
  obtain ⟨f0,f1,f2,f3,f4,f5⟩:=hf it (by simp)
  exact wpAny_pyNext_range_end (I.ok.hd hc) st (by have:n<=i:=hg;ac_rfl) fun h' eb=>⟨rfl,I.turned (t':=s.toks) (fun b o hb e=>eb b o hb e) f0 f1 f3 f4 f5⟩
 self:=fun _ _ _ _ _ st h=>wpAny_pyIter_rangeiter st h
section
variable {X:Cx} {tg:Expr}
def zs0 (K:W.Frag) (tl:TE):TI:=fun σ H R=>tl σ H fun x H1=>∃ a,x=.ref a/\(∃ xs,SqL K H1 a xs)/\R (Itl K a) H1
theorem zaj {l:Expr} {tl:TE} (hl:PE X l tl):PI X tg l (zs0 X.K tl):=by
 intro pins s σ H R I h
 refine thn (hl pins s σ H _ I h) fun v s1 ⟨x,H1,I1,r1,q1⟩=>?_
 obtain ⟨a,e,⟨xs,hq⟩,q⟩:=q1
 subst e
 cases r1
 obtain ⟨its,rv,p,hz⟩:=I1.list hq
 refine wpAny_pyIter_list p.isList ?_
 refine ⟨s1.heap.objs.size,[s1.heap.objs.size],_,_,H1,rfl,I1.kept (t':=s1.toks) fun b o e=>ydp _ e,zph a _,⟨_,ydr _ rfl,rfl,rfl⟩,fun b hb=>?_,q⟩
 have e:b=s1.heap.objs.size:=by simpa using hb
 subst e
 exact I1.zon (ycz _) (I1.hok.fresh (ycz _))
theorem zmX {pins:List (Addr × Obj)} {σ:St} {H:Hp} {s:Shared} {R:It->Hp->Prop} {E:Value->Shared->Prop} {lo hi:Int} {t u v:Tok} {tk:Nat} (I:Inv X pins σ H s) (h1:-(2 ^ 62)<=lo) (h2:lo<2 ^ 62) (h3:-(2 ^ 62)<=hi) (h4:hi<2 ^ 62)
  (q:R (Itr lo (hi-lo).toNat) H):wpAny (model X.prog X.w) X.A (pyIter (.ref s.heap.objs.size)) (PIE X pins σ tg R) E { s with heap:=s.heap.push { cls:=.type "range", data:=.fields #[.int lo t,.int hi u,.int 1 v] },toks:=tk }:=by
 refine wpAny_pyIter_range (IsRange.new ..) (small_one h1 h2 h3 h4) ?_
 have I1:Inv X pins σ H { s with heap:=s.heap.push { cls:=.type "range", data:=.fields #[.int lo t,.int hi u,.int 1 v] },toks:=tk }:=I.kept fun b o e=>ydp _ e
 refine ⟨(s.heap.push { cls:=.type "range", data:=.fields #[.int lo t,.int hi u,.int 1 v] }).objs.size,[(s.heap.push { cls:=.type "range", data:=.fields #[.int lo t,.int hi u,.int 1 v] }).objs.size],_,_,H,rfl,
  I1.kept (t':=tk) fun b o e=>ydp _ e,zoA _ lo (hi-lo).toNat,?_,fun b hb=>?_,q⟩
 ·have e1:lo+((0:Nat):Int)*1=lo:=by simp
  have e2:(((hi-lo).toNat:Nat):Int)-((0:Nat):Int)=Builtin.Range.rangeSize lo hi 1:=by rw[rangeSize_one];split <;> ac_rfl
  show IsRangeIter _ _ (lo+((0:Nat):Int)*1) ((((hi-lo).toNat:Nat):Int)-((0:Nat):Int)) 1
  rw[e1,e2]
  exact ydr _ rfl
 ·have e:b=(s.heap.push { cls:=.type "range", data:=.fields #[.int lo t,.int hi u,.int 1 v] }).objs.size:=by simpa using hb
  subst e
  exact I1.zon (ycz _) (I1.hok.fresh (ycz _))
def ztl (ta:TA):TI:=fun σ H R=>ta σ H fun vs H1=>∃ j:Int,vs=[.int j] /\ -(2 ^ 62)<=j/\j<2 ^ 62/\R (Itr 0 j.toNat) H1
def ztm (ta:TA):TI:=fun σ H R=>ta σ H fun vs H1=>∃ i j:Int,vs=[.int i,.int j]/\(-(2 ^ 62)<=i/\i<2 ^ 62 /\ -(2 ^ 62)<=j/\j<2 ^ 62)/\R (Itr i (j-i).toNat) H1
theorem zkl {a:Expr} {ta:TA} {p pos:Pos} (hg:Gl X "range") (hm:X.mg "range" = none) (ha:PA X [a] ta) (hs:starEach [a] X.env=[(false,eval a X.env)]:=by rfl):PI X tg (.Call (.Name "range" p) [a] [] pos) (ztl ta):=by
 intro pins s σ H R I h
 refine Call_ (zga I hg hm boot_range (PyProof.Rows.callWith_type1 (thn (ha pos pins s σ H _ I h) fun us s1 ⟨vs,H1,I1,r1,q1⟩=>?_) hs rfl))
 obtain ⟨j,e,q1,q2,q⟩:=q1
 subst e
 cases r1 with
 | cons r rr =>
  cases rr
  obtain ⟨t,rfl⟩:=r
  exact call_range_1 (zmX I1 (by ac_rfl) (by ac_rfl) q1 q2 (by simpa using q))
theorem zhG {a b:Expr} {ta:TA} {p pos:Pos} (hg:Gl X "range") (hm:X.mg "range" = none) (ha:PA X [a,b] ta) (hs:starEach [a,b] X.env=[(false,eval a X.env),(false,eval b X.env)]:=by rfl) (hs2:starEach [b] X.env=[(false,eval b X.env)]:=by rfl) :
  PI X tg (.Call (.Name "range" p) [a,b] [] pos) (ztm ta):=by
 intro pins s σ H R I h
 refine Call_ (zga I hg hm boot_range (PyProof.Rows.callWith_type1 (thn (ha pos pins s σ H _ I h) fun us s1 ⟨vs,H1,I1,r1,q1⟩=>?_) (by rw[hs,hs2]) (by rw[hs2];rfl)))
 obtain ⟨i,j,e,⟨q1,q2,q3,q4⟩,q⟩:=q1
 subst e
 cases r1 with
 | cons r rr =>
  cases rr with
  | cons r' rr =>
   cases rr
   obtain ⟨t,rfl⟩:=r
   obtain ⟨t',rfl⟩:=r'
   exact call_range_2 (zmX I1 q1 q2 q3 q4 q)
def ztD (wi:TI) (g:TG) (tb:TS):TS:=fun D σ H=>wi σ H fun J H1=>∃ W:Nat->Nat->St->Hp->Prop,(∃ m,W 0 m σ H1)/\∀ i m σ H,W i m σ H ->
 (J.stop i H/\D.nx σ H)\/(J.go i H/\∃ N:St->Hp->Prop,(∀ σ' H',N σ' H'->∃ m',m'<m/\W (i+1) m' σ' H')/\∀ x H',J.yld i H x H'->g x σ H' fun σ2 H2=>tb { D with nx:=N,ct:=N,bk:=D.nx } σ2 H2)
noncomputable def zhy (fp:List Addr) (h:Heap):List (Addr × Obj):=fp.filterMap fun b=>(h.get? b).map fun o=>(b,o)
theorem zb7 {fp:List Addr} {h:Heap} {b:Addr} {o:Obj} (hb:b∈fp) (e:h.get? b=some o):(b,o)∈zhy fp h:=List.mem_filterMap.mpr ⟨b,hb,by rw[e];rfl⟩
theorem zpC {fp:List Addr} {h:Heap} {p:Addr × Obj} (hp:p∈zhy fp h):p.1∈fp/\h.get? p.1=some p.2:=by
 obtain ⟨b,hb,e⟩:=List.mem_filterMap.mp hp
 cases q:h.get? b with
 | none=>rw[q] at e;cases e
 | some o =>
  rw[q] at e
  have e':(b,o)=p:=Option.some.inj e
  subst e'
  exact ⟨hb,q⟩
theorem Inv.pinned {pins:List (Addr × Obj)} {σ:St} {H:Hp} {s:Shared} {fp:List Addr} (I:Inv X pins σ H s) (hf:∀ b∈fp,zbZ X pins H b) (ho:∀ b∈fp,∃ o,s.heap.get? b=some o/\∀ v,o.data≠.cell v):Inv X (pins++zhy fp s.heap) σ H s :=
 I.zjZ fun p hp=>(yam.mp hp).elim (fun z=>I.pin p (yaf _ z)) fun z=>by
  obtain ⟨hb,e⟩:=zpC z
  obtain ⟨f0,f1,f2,_⟩:=hf p.1 hb
  obtain ⟨o,e',d⟩:=ho p.1 hb
  rw[e] at e';cases e'
  exact ⟨e,f0,f1,f2,d⟩
theorem Inv.unpinned {pins pl:List (Addr × Obj)} {σ:St} {H:Hp} {s:Shared} (I:Inv X (pins++pl) σ H s):Inv X pins σ H s:=I.zjZ fun p hp=>I.pin p (yaf _ (ybb _ hp))
theorem zha {iter:Expr} {body:List Stmt} {wi:TI} {g:TG} {tb:TS} {pos:Pos} (hp:PassesOwn (model X.prog X.w) X.A X.env X.xe) (hc:X.calm=true) (hi:PI X tg iter wi) (hg:PG X tg g) (hb:PSs X body tb)
  (hs:∀ x,foldedSetIterable iter X.env x=pure x:=by intro _;rfl):PS X (.For tg iter body [] pos) (ztD wi g tb):=by
 intro pins s σ H D I h
 refine wpAny_For (thn (hi pins s σ H _ I h) fun v s1 h1=>thn h1 fun itv s2 h2=>?_) hs
 obtain ⟨it,fp,tn,J,H2,e,I2,T,st2,f2,W,⟨m0,w0⟩,turn⟩:=h2
 subst e
 have stat:∀ {H':Hp},(∀ b∈fp,H' b=none)->∀ b∈fp,zbZ X pins H' b:=fun hn b hb=>⟨hn b hb,(f2 b hb).2⟩
 refine codeAny_forLoop_any (fun n s'=>∃ i σ' H',Inv X pins σ' H' s'/\tn i s'.heap/\(∀ b∈fp,H' b=none)/\W i n σ' H') ?_ m0 ⟨0,σ,H2,I2,st2,fun b hb=>(f2 b hb).1,w0⟩
 rintro n s3 ⟨i,σ3,H3,I3,st3,fr3,w3⟩
 rcases turn i n σ3 H3 w3 with ⟨stop,qn⟩ | ⟨go,N,hN,step⟩
 ·refine wpAny_passesOwn hp (thn (T.done X rfl rfl rfl hc i pins s3 σ3 H3 X.xe I3 (stat fr3) st3 stop) fun r s4 ⟨hr,I4⟩=>?_)
  subst hr
  exact wpAny_execs_nil ⟨σ3,H3,I4,qn⟩
 ·refine wpAny_passesOwn hp (thn (T.item X rfl rfl rfl hc i pins s3 σ3 H3 X.xe I3 (stat fr3) st3 go) fun r s4 ⟨u,hr,h4⟩=>?_)
  subst hr
  refine wpAny_passesOwn hp (thn h4 fun _ s5 ⟨x,H5,I5,r5,y5,st5,fr5⟩=>?_)
  have I5':=I5.pinned (stat fr5) (T.obj _ _ st5)
  refine wpAny_passesOwn hp (thn (hg _ s5 σ3 H5 x u _ I5' r5 (step x H5 y5)) fun _ s6 ⟨σ6,H6,I6,q6⟩=>?_)
  refine wpAny_passesOwn hp (thn (hb _ s6 σ6 H6 _ I6 q6) fun f s7 q7=>?_)
  have again:∀ {σ7:St} {H7:Hp},Inv X (pins++zhy fp s5.heap) σ7 H7 s7->N σ7 H7->∃ m,m<n/\∃ i σ' H',Inv X pins σ' H' s7/\tn i s7.heap/\(∀ b∈fp,H' b=none)/\W i m σ' H':=fun {σ7 H7} I7 n7=>by
   obtain ⟨m',hm,w7⟩:=hN σ7 H7 n7
   refine ⟨m',hm,i+1,σ7,H7,I7.unpinned,T.keep _ _ _ st5 fun b hb o e=>(I7.pin (b,o) (yaf _ (yaf _ (zb7 hb e)))).1,fun b hb=>?_,w7⟩
   obtain ⟨o,e,d⟩:=T.obj _ _ st5 b hb
   exact (I7.pin (b,o) (yaf _ (yaf _ (zb7 hb e)))).2.1
  cases f with
  | next=>obtain ⟨σ7,H7,I7,n7⟩:=q7;exact again I7 n7
  | cont=>obtain ⟨σ7,H7,I7,n7⟩:=q7;exact again I7 n7
  | brk=>obtain ⟨σ7,H7,I7,q7⟩:=q7;exact ⟨σ7,H7,I7.unpinned,q7⟩
  | ret v=>obtain ⟨x7,σ7,H7,I7,r7,q7⟩:=q7;exact ⟨x7,σ7,H7,I7.unpinned,r7,q7⟩
end
theorem ziH {K:W.Frag} {a:Addr} {xs:List V} {g:TG} {tb:TS} {D:Ends} {σ:St} {H:Hp} (Pv:Nat->St->Hp->Prop) (h0:Pv 0 σ H) (hl:∀ i σ H,i<=xs.length->Pv i σ H->SqL K H a xs)
  (hs:∀ i x σ H,xs[i]?=some x->Pv i σ H->g x σ H fun σ2 H2=>tb { D with nx:=Pv (i+1),ct:=Pv (i+1),bk:=D.nx } σ2 H2) (hd:∀ σ H,Pv xs.length σ H->D.nx σ H) :
  ∃ W:Nat->Nat->St->Hp->Prop,(∃ m,W 0 m σ H)/\∀ i m σ H,W i m σ H ->
   ((Itl K a).stop i H/\D.nx σ H)\/((Itl K a).go i H/\∃ N:St->Hp->Prop,(∀ σ' H',N σ' H'->∃ m',m'<m/\W (i+1) m' σ' H')/\∀ x H',(Itl K a).yld i H x H'->g x σ H' fun σ2 H2=>tb { D with nx:=N,ct:=N,bk:=D.nx } σ2 H2):=by
 refine ⟨fun i m σ H=>m=xs.length-i/\i<=xs.length/\Pv i σ H,⟨xs.length,by simp,ydc _,h0⟩,?_⟩
 rintro i m σ H ⟨rfl,hi,p⟩
 have q:=hl i σ H hi p
 by_cases hlt:i<xs.length
 ·refine .inr ⟨⟨xs,xs[i],q,by simp[hlt]⟩,Pv (i+1),fun σ' H' p'=>⟨xs.length-(i+1),by ac_rfl,rfl,hlt,p'⟩,fun x H' y=>?_⟩
  obtain ⟨e,y⟩:=y
  subst e
  exact hs i x σ _ (y xs q) p
 ·have e:i=xs.length:=by ac_rfl
  subst e
  exact .inl ⟨⟨xs,q,ycz _⟩,hd σ H p⟩
theorem zkJ {lo:Int} {n:Nat} {g:TG} {tb:TS} {D:Ends} {σ:St} {H:Hp} (Pv:Nat->St->Hp->Prop) (h0:Pv 0 σ H)
  (hs:∀ i σ H,i<n->Pv i σ H->g (.int (lo+i)) σ H fun σ2 H2=>tb { D with nx:=Pv (i+1),ct:=Pv (i+1),bk:=D.nx } σ2 H2) (hd:∀ σ H,Pv n σ H->D.nx σ H) :
  ∃ W:Nat->Nat->St->Hp->Prop,(∃ m,W 0 m σ H)/\∀ i m σ H,W i m σ H ->
   ((Itr lo n).stop i H/\D.nx σ H)\/((Itr lo n).go i H/\∃ N:St->Hp->Prop,(∀ σ' H',N σ' H'->∃ m',m'<m/\W (i+1) m' σ' H')/\∀ x H',(Itr lo n).yld i H x H'->g x σ H' fun σ2 H2=>tb { D with nx:=N,ct:=N,bk:=D.nx } σ2 H2):=by
 refine ⟨fun i m σ H=>m=n-i/\i<=n/\Pv i σ H,⟨n,by simp,ydc _,h0⟩,?_⟩
 rintro i m σ H ⟨rfl,hi,p⟩
 by_cases hlt:i<n
 ·refine .inr ⟨hlt,Pv (i+1),fun σ' H' p'=>⟨n-(i+1),by ac_rfl,rfl,hlt,p'⟩,fun x H' y=>?_⟩
  obtain ⟨e,y⟩:=y
  subst e y
  exact hs i σ _ hlt p
 ·have e:i=n:=by ac_rfl
  subst e
  exact .inl ⟨ycz _,hd σ H p⟩
noncomputable abbrev R2:=V->V->Hp->VK->Prop
def OpR (X:Cx) (f:Value->Value->Sem Value) (r:R2):Prop :=
 ∀ (pins:List (Addr × Obj)) (s:Shared) (σ:St) (H:Hp) (x y:V) (v u:Value) (Q:VK),Inv X pins σ H s->RelV x v->RelV y u->r x y H Q ->
  wpAny (model X.prog X.w) X.A (f v u) (EP X pins σ Q) X.xe s
def UnR (X:Cx) (f:Value->Sem Value) (r:V->Hp->VK->Prop):Prop :=
 ∀ (pins:List (Addr × Obj)) (s:Shared) (σ:St) (H:Hp) (x:V) (v:Value) (Q:VK),Inv X pins σ H s->RelV x v->r x H Q ->
  wpAny (model X.prog X.w) X.A (f v) (EP X pins σ Q) X.xe s
def zbc (X:Cx) (f:Value) (r:List V->Hp->VK->Prop):Prop :=
 ∀ (pins:List (Addr × Obj)) (s:Shared) (σ:St) (H:Hp) (xs:List V) (us:List Value) (Q:VK),Inv X pins σ H s->Vals xs us->r xs H Q ->
  wpAny (model X.prog X.w) X.A (call f us) (EP X pins σ Q) X.xe s
def tOp (r:R2) (ta tb:TE):TE:=fun σ H Q=>ta σ H fun x H1=>tb σ H1 fun y H2=>r x y H2 Q
def tUn (r:V->Hp->VK->Prop) (ta:TE):TE:=fun σ H Q=>ta σ H fun x H1=>r x H1 Q
def rI (C:Int->Int->Prop) (g:Int->Int->V):R2:=fun x y H Q=>∃ i j,x=.int i/\y=.int j/\C i j/\Q (g i j) H
def rI0 (g:Int->Int->V):R2:=fun x y H Q=>∃ i j,x=.int i/\y=.int j/\Q (g i j) H
noncomputable def rU (g:Int->V):V->Hp->VK->Prop:=fun x H Q=>∃ i,x=.int i/\Q (g i) H
section
variable {X:Cx} {a b c:Expr} {ta tb tc:TE} {pos:Pos}
theorem zqe (ha:PE X a ta) (hb:PE X b tb) {pins:List (Addr × Obj)} {s:Shared} {σ:St} {H:Hp} {R:V->V->Hp->Prop} (I:Inv X pins σ H s)
  (h:ta σ H fun x H1=>tb σ H1 fun y H2=>R x y H2) {Q:Value->Shared->Prop} {f:Value->Value->Sem Value}
  (hf:∀ v u s2 x y H2,Inv X pins σ H2 s2->RelV x v->RelV y u->R x y H2->wpAny (model X.prog X.w) X.A (f v u) Q X.xe s2) :
  wpAny (model X.prog X.w) X.A (eval a X.env) (fun v s₁=>wpAny (model X.prog X.w) X.A (eval b X.env) (fun u s₂=>wpAny (model X.prog X.w) X.A (f v u) Q X.xe s₂) X.xe s₁) X.xe s:=by
 refine thn (ha pins s σ H _ I h) fun v s1 ⟨x,H1,I1,r1,q1⟩=>?_
 refine thn (hb pins s1 σ H1 _ I1 q1) fun u s2 ⟨y,H2,I2,r2,q2⟩=>?_
 exact hf v u s2 x y H2 I2 r1 r2 q2
theorem zh {op:Operator} {r:R2} (ho:OpR X (binaryOp op) r) (ha:PE X a ta) (hb:PE X b tb):PE X (.BinOp a op b pos) (tOp r ta tb):=by
 intro pins s σ H Q I h
 exact wpAny_BinOp (zqe ha hb I h fun v u s2 x y H2 I2 rx ry q=>ho pins s2 σ H2 x y v u Q I2 rx ry q)
theorem zlo {op:UnaryOp} {r:V->Hp->VK->Prop} (ho:UnR X (unaryOp op) r) (ha:PE X a ta):PE X (.UnaryOp op a pos) (tUn r ta):=by
 intro pins s σ H Q I h
 exact UnaryOp_ (thn (ha pins s σ H _ I h) fun v s1 ⟨x,H1,I1,r1,q1⟩=>ho pins s1 σ H1 x v Q I1 r1 q1)
theorem opI {f:Value->Value->Sem Value} {C:Int->Int->Prop} {g:Int->Int->Int}
  (rule:∀ (i j:Int) (t u:Tok) (s:Shared) (Q:Value->Shared->Prop) (E:Value->Shared->Prop),C i j->Q (.int (g i j) s.toks) { s with toks:=s.toks+1 }->wpAny (model X.prog X.w) X.A (f (.int i t) (.int j u)) Q E s) :
  OpR X f (rI C fun i j=>.int (g i j)):=by
 intro pins s σ H x y v u Q I rx ry h
 obtain ⟨i,j,rfl,rfl,hc,q⟩:=h
 obtain ⟨t,rfl⟩:=rx
 obtain ⟨t',rfl⟩:=ry
 exact rule i j t t' s _ _ hc ⟨.int (g i j),H,I.tok _,⟨_,rfl⟩,q⟩
theorem zsH {f:Value->Value->Sem Value} {g:Int->Int->Int}
  (rule:∀ (i j:Int) (t u:Tok) (s:Shared) (Q:Value->Shared->Prop) (E:Value->Shared->Prop),Q (.int (g i j) s.toks) { s with toks:=s.toks+1 }->wpAny (model X.prog X.w) X.A (f (.int i t) (.int j u)) Q E s) :
  OpR X f (rI0 fun i j=>.int (g i j)):=by
 intro pins s σ H x y v u Q I rx ry h
 obtain ⟨i,j,rfl,rfl,q⟩:=h
 obtain ⟨t,rfl⟩:=rx
 obtain ⟨t',rfl⟩:=ry
 exact rule i j t t' s _ _ ⟨.int (g i j),H,I.tok _,⟨_,rfl⟩,q⟩
theorem zqr {f:Value->Value->Sem Value} {g:Int->Int->Bool}
  (rule:∀ (i j:Int) (t u:Tok) (s:Shared) (Q:Value->Shared->Prop) (E:Value->Shared->Prop),Q (.bool (g i j)) s->wpAny (model X.prog X.w) X.A (f (.int i t) (.int j u)) Q E s) :
  OpR X f (rI0 fun i j=>.bl (g i j)):=by
 intro pins s σ H x y v u Q I rx ry h
 obtain ⟨i,j,rfl,rfl,q⟩:=h
 obtain ⟨t,rfl⟩:=rx
 obtain ⟨t',rfl⟩:=ry
 exact rule i j t t' s _ _ ⟨.bl (g i j),H,I,rfl,q⟩
def CDiv (i j:Int):Prop:=0<j/\j<1073741824
def CPow (i j:Int):Prop:=0<=j/\j<=1000000/\i.natAbs<2 ^ 64
def CMul (i j:Int):Prop:=(-(2 ^ 64)<i/\i<2 ^ 64)\/(-(2 ^ 64)<j/\j<2 ^ 64)
theorem CMul.ok {i j:Int} (h:CMul i j):IntMulOk i j:=by
 rcases h with ⟨h1,h2⟩ | ⟨h1,h2⟩
 ·exact .of_left (intBits_le_64 h1 h2)
 ·exact .of_right (intBits_le_64 h1 h2)
theorem zy:OpR X (binaryOp .Add) (rI0 fun i j=>.int (i+j)):=zsH fun _ _ _ _ _ _ _ q=>add_int q
theorem zat:OpR X (binaryOp .Sub) (rI0 fun i j=>.int (i-j)):=zsH fun _ _ _ _ _ _ _ q=>sub_int q
theorem zbh:OpR X (binaryOp .Mult) (rI CMul fun i j=>.int (i*j)):=opI fun _ _ _ _ _ _ _ hc q=>mul_int q hc.ok
theorem zM:OpR X (binaryOp .FloorDiv) (rI CDiv fun i j=>.int (i / j)):=opI fun i j _ _ _ _ _ hc q=>by
 have h1:(0:Int)<j:=hc.1
 have h2:j<1073741824:=hc.2
 exact floordiv_int (by ac_rfl) (by rw[Int.fdiv_eq_ediv_of_nonneg i (by ac_rfl)];exact q) (.inl (PyProof.noPylong_small (by ac_rfl)))
theorem zC:OpR X (binaryOp .Mod) (rI (fun _ j=>0<j) fun i j=>.int (i % j)):=opI fun i j _ _ _ _ _ hc q=>by
 have h1:(0:Int)<j:=hc
 exact mod_int' (by ac_rfl) (by rw[Int.fmod_eq_emod_of_nonneg i (by ac_rfl)];exact q)
theorem zsD:OpR X (binaryOp .Pow) (rI CPow fun i j=>.int (i ^ j.toNat)):=opI fun _ _ _ _ _ _ _ hc q=>pow_int_small hc.1 hc.2.1 hc.2.2 q
theorem unI {f:Value->Sem Value} {g:Int->Int}
  (rule:∀ (i:Int) (t:Tok) (s:Shared) (Q:Value->Shared->Prop) (E:Value->Shared->Prop),Q (.int (g i) s.toks) { s with toks:=s.toks+1 }->wpAny (model X.prog X.w) X.A (f (.int i t)) Q E s) :
  UnR X f (rU fun i=>.int (g i)):=by
 intro pins s σ H x v Q I rx h
 obtain ⟨i,rfl,q⟩:=h
 obtain ⟨t,rfl⟩:=rx
 exact rule i t s _ _ ⟨.int (g i),H,I.tok _,⟨_,rfl⟩,q⟩
theorem zjk:UnR X (unaryOp .USub) (rU fun i=>.int (-i)):=unI fun _ _ _ _ _ q=>neg_int q
end
noncomputable def scal:V->V->Bool
 | .non,.non=>true | .non,.int _=>true | .int _,.non=>true | .non,.bl _=>true | .bl _,.non=>true | .non,.str _=>true | .str _,.non=>true
 | .int _,.int _=>true | .bl _,.bl _=>true | .str _,.str _=>true | .byt _,.byt _=>true
 | .int _,.str _=>true | .str _,.int _=>true | .bl _,.str _=>true | .str _,.bl _=>true
 | _,_=>false
def rEq:R2:=fun x y H Q=>scal x y=true/\Q (.bl (decide (x=y))) H
def rNe:R2:=fun x y H Q=>scal x y=true/\Q (.bl (!decide (x=y))) H
theorem znF {i j:Int}:decide (V.int i=V.int j)=(i == j):=by
 rw[Bool.eq_iff_iff]
 simp
theorem zpE {i j:Bool}:decide (V.bl i=V.bl j)=(i == j):=by
 rw[Bool.eq_iff_iff]
 simp
theorem znO {i j:Str}:decide (V.str i=V.str j)=(i == j):=by
 rw[Bool.eq_iff_iff]
 simp
theorem znG {i j:Array UInt8}:decide (V.byt i=V.byt j)=(i.toList == j.toList):=by
 rw[Bool.eq_iff_iff]
 cases i
 cases j
 simp
section
variable {X:Cx} {a b c:Expr} {ta tb tc:TE} {pos:Pos}
theorem zZ {pins:List (Addr × Obj)} {σ:St} {H:Hp} {s:Shared} {Q:VK} {k k':Bool} (I:Inv X pins σ H s) (q:Q (.bl k) H) (e:k=k'):EP X pins σ Q (.bool k') s:=by
 subst e
 exact ⟨.bl k,H,I,rfl,q⟩
theorem zQ:OpR X (compareOp .Eq) rEq:=by
 intro pins s σ H x y v u Q I rx ry h
 obtain ⟨hs,q⟩:=h
 cases x with
 | non =>
  cases rx
  cases y with
  | non=>cases ry;exact PySem.EqNone.eq_none_none (zZ I q (by simp))
  | bl j=>cases ry;exact PySem.EqNone.eq_none_bool (zZ I q (by simp))
  | int j=>obtain ⟨t',rfl⟩:=ry;exact PySem.EqNone.eq_none_int (zZ I q (by simp))
  | str j=>obtain ⟨t',rfl⟩:=ry;exact PySem.EqNone.eq_none_str (zZ I q (by simp))
  | _=>exact absurd (show false=true from hs) Bool.false_ne_true
 | bl i =>
  cases rx
  cases y with
  | non=>cases ry;exact PySem.EqNone.eq_bool_none (zZ I q (by simp))
  | bl j=>cases ry;exact eq_bool (zZ I q zpE)
  | str j=>obtain ⟨t',rfl⟩:=ry;exact PySem.EqMixed.eq_bool_str (zZ I q (by simp))
  | _=>exact absurd (show false=true from hs) Bool.false_ne_true
 | int i =>
  obtain ⟨t,rfl⟩:=rx
  cases y with
  | non=>cases ry;exact PySem.EqNone.eq_int_none (zZ I q (by simp))
  | int j=>obtain ⟨t',rfl⟩:=ry;exact eq_int (zZ I q znF)
  | str j=>obtain ⟨t',rfl⟩:=ry;exact PySem.EqMixed.eq_int_str (zZ I q (by simp))
  | _=>exact absurd (show false=true from hs) Bool.false_ne_true
 | str i =>
  obtain ⟨t,rfl⟩:=rx
  cases y with
  | non=>cases ry;exact PySem.EqNone.eq_str_none (zZ I q (by simp))
  | bl j=>cases ry;exact PySem.EqMixed.eq_str_bool (zZ I q (by simp))
  | int j=>obtain ⟨t',rfl⟩:=ry;exact PySem.EqMixed.eq_str_int (zZ I q (by simp))
  | str j=>obtain ⟨t',rfl⟩:=ry;exact eq_str (zZ I q znO)
  | _=>exact absurd (show false=true from hs) Bool.false_ne_true
 | byt i =>
  obtain ⟨t,rfl⟩:=rx
  cases y with
  | byt j=>obtain ⟨t',rfl⟩:=ry;exact PySem.W.eq_bytes (zZ I q znG)
  | _=>exact absurd (show false=true from hs) Bool.false_ne_true
 | _=>cases y <;> exact absurd (show false=true from hs) Bool.false_ne_true
theorem zoF:OpR X (compareOp .NotEq) rNe:=by
 intro pins s σ H x y v u Q I rx ry h
 obtain ⟨hs,q⟩:=h
 cases x with
 | non =>
  cases rx
  cases y with
  | non=>cases ry;exact PySem.EqNone.ne_none_none (zZ I q (by simp))
  | bl j=>cases ry;exact PySem.EqNone.ne_none_bool (zZ I q (by simp))
  | int j=>obtain ⟨t',rfl⟩:=ry;exact PySem.EqNone.ne_none_int (zZ I q (by simp))
  | str j=>obtain ⟨t',rfl⟩:=ry;exact PySem.EqNone.ne_none_str (zZ I q (by simp))
  | _=>exact absurd (show false=true from hs) Bool.false_ne_true
 | bl i =>
  cases rx
  cases y with
  | non=>cases ry;exact PySem.EqNone.ne_bool_none (zZ I q (by simp))
  | bl j=>cases ry;exact ne_bool (zZ I q (congrArg not zpE))
  | str j=>obtain ⟨t',rfl⟩:=ry;exact PySem.EqMixed.ne_bool_str (zZ I q (by simp))
  | _=>exact absurd (show false=true from hs) Bool.false_ne_true
 | int i =>
  obtain ⟨t,rfl⟩:=rx
  cases y with
  | non=>cases ry;exact PySem.EqNone.ne_int_none (zZ I q (by simp))
  | int j=>obtain ⟨t',rfl⟩:=ry;exact ne_int (zZ I q (congrArg not znF))
  | str j=>obtain ⟨t',rfl⟩:=ry;exact PySem.EqMixed.ne_int_str (zZ I q (by simp))
  | _=>exact absurd (show false=true from hs) Bool.false_ne_true
 | str i =>
  obtain ⟨t,rfl⟩:=rx
  cases y with
  | non=>cases ry;exact PySem.EqNone.ne_str_none (zZ I q (by simp))
  | bl j=>cases ry;exact PySem.EqMixed.ne_str_bool (zZ I q (by simp))
  | int j=>obtain ⟨t',rfl⟩:=ry;exact PySem.EqMixed.ne_str_int (zZ I q (by simp))
  | str j=>obtain ⟨t',rfl⟩:=ry;exact ne_str (zZ I q (congrArg not znO))
  | _=>exact absurd (show false=true from hs) Bool.false_ne_true
 | byt i =>
  obtain ⟨t,rfl⟩:=rx
  cases y with
  | byt j=>obtain ⟨t',rfl⟩:=ry;exact PySem.W.ne_bytes (zZ I q (congrArg not znG))
  | _=>exact absurd (show false=true from hs) Bool.false_ne_true
 | _=>cases y <;> exact absurd (show false=true from hs) Bool.false_ne_true
theorem zfj:OpR X (compareOp .Lt) (rI0 fun i j=>.bl (decide (i<j))):=zqr fun _ _ _ _ _ _ _ q=>lt_int q
theorem zcr:OpR X (compareOp .LtE) (rI0 fun i j=>.bl (decide (i<=j))):=zqr fun _ _ _ _ _ _ _ q=>le_int q
theorem zfp:OpR X (compareOp .Gt) (rI0 fun i j=>.bl (decide (j<i))):=zqr fun _ _ _ _ _ _ _ q=>gt_int q
theorem nomark (b:Expr) {op:CmpOp} (h:op≠.In:=by decide) (h2:op≠.NotIn:=by decide):behindInMarks op b=false:=by
 have e1:(op == CmpOp.In)=false:=by cases op <;> first | rfl | exact absurd rfl h
 have e2:(op == CmpOp.NotIn)=false:=by cases op <;> first | rfl | exact absurd rfl h2
 cases b <;> simp[behindInMarks,e1,e2]
theorem zdl {op:CmpOp} {r:R2} (ho:OpR X (compareOp op) r) (ha:PE X a ta) (hb:PE X b tb) (hm:behindInMarks op b=false):PE X (.Compare a [op] [b] pos) (tOp r ta tb):=by
 intro pins s σ H Q I h
 exact wpAny_Compare1 (zqe ha hb I h fun v u s2 x y H2 I2 rx ry q=>ho pins s2 σ H2 x y v u Q I2 rx ry q) hm
def zq9 (t:TE):TT:=fun σ H Q=>t σ H fun x H'=>∃ k,x=.bl k/\Q k H'
theorem zr {op:CmpOp} {r:R2} (ho:OpR X (compareOp op) r) (ha:PE X a ta) (hb:PE X b tb) (hm:behindInMarks op b=false):PT X (.Compare a [op] [b] pos) (zq9 (tOp r ta tb)):=by
 intro pins s σ H Q I h
 refine wpAny_isTrue_Compare1 (thn (ha pins s σ H _ I h) fun v s1 ⟨x,H1,I1,r1,q1⟩=>thn (hb pins s1 σ H1 _ I1 q1) fun u s2 ⟨y,H2,I2,r2,q2⟩ =>
  thn (ho pins s2 σ H2 x y v u _ I2 r1 r2 q2) fun c s3 ⟨z,H3,I3,r3,k,e,q3⟩=>?_) hm
 subst e
 cases r3
 exact wpAny_truthy_bool ⟨H3,I3,q3⟩
def zpH (r r':R2) (ta tb tc:TE):TE:=fun σ H Q=>ta σ H fun x H1=>tb σ H1 fun y H2=>r x y H2 fun z H3=>∃ k,z=.bl k /\
 (if k=true then tc σ H3 fun w' H4=>r' y w' H4 Q else Q (.bl false) H3)
theorem zgC {op op':CmpOp} {r r':R2} (ho:OpR X (compareOp op) r) (ho':OpR X (compareOp op') r') (ha:PE X a ta) (hb:PE X b tb) (hc:PE X c tc)
  (hm:lastMarks [op,op'] [b,c]=false:=by with_unfolding_all rfl):PE X (.Compare a [op,op'] [b,c] pos) (zpH r r' ta tb tc):=by
 intro pins s σ H Q I h
 refine Compare_chain (thn (ha pins s σ H _ I h) fun v s1 ⟨x,H1,I1,r1,q1⟩=>chain_link (thn (hb pins s1 σ H1 _ I1 q1) fun u s2 ⟨y,H2,I2,r2,q2⟩ =>
  thn (ho pins s2 σ H2 x y v u _ I2 r1 r2 q2) fun d s3 ⟨z,H3,I3,r3,k,e,q3⟩=>?_)) hm
 subst e
 cases r3
 refine wpAny_truthy_bool ?_
 cases k with
 | false=>exact ite_ff ⟨.bl false,H3,I3,rfl,q3⟩
 | true=>exact ite_tt (chain_last (thn (hc pins s3 σ H3 _ I3 q3) fun w' s4 ⟨z',H4,I4,r4,q4⟩=>ho' pins s4 σ H4 y z' u w' Q I4 r2 r4 q4))
theorem zqV {op op':CmpOp} {r r':R2} (ho:OpR X (compareOp op) r) (ho':OpR X (compareOp op') r') (ha:PE X a ta) (hb:PE X b tb) (hc:PE X c tc)
  (hm:lastMarks [op,op'] [b,c]=false:=by with_unfolding_all rfl):PT X (.Compare a [op,op'] [b,c] pos) (zq9 (zpH r r' ta tb tc)):=by
 intro pins s σ H Q I h
 refine isTrue_chain (thn (ha pins s σ H _ I h) fun v s1 ⟨x,H1,I1,r1,q1⟩=>test_link (thn (hb pins s1 σ H1 _ I1 q1) fun u s2 ⟨y,H2,I2,r2,q2⟩ =>
  thn (ho pins s2 σ H2 x y v u _ I2 r1 r2 q2) fun d s3 ⟨z,H3,I3,r3,k,e,q3⟩=>?_)) hm
 subst e
 cases r3
 refine wpAny_truthy_bool ?_
 cases k with
 | false =>
  obtain ⟨k',e',q'⟩:=q3
  cases e'
  exact ite_ff ⟨H3,I3,q'⟩
 | true =>
  refine ite_tt (test_last (thn (hc pins s3 σ H3 _ I3 q3) fun w' s4 ⟨z',H4,I4,r4,q4⟩=>thn (ho' pins s4 σ H4 y z' u w' _ I4 r2 r4 q4) fun d' s5 ⟨z2,H5,I5,r5,k2,e2,q5⟩=>?_))
  subst e2
  cases r5
  exact wpAny_truthy_bool ⟨H5,I5,q5⟩
theorem zjd:(sizeLine:Nat)<2 ^ 63:=by rw[sizeLine_eq];decide
theorem vals1 {x:V} {us:List Value} (r:Vals [x] us):∃ u,us=[u]/\RelV x u:=by
 cases r with
 | cons r1 r2=>cases r2;exact ⟨_,rfl,r1⟩
theorem vals2 {x y:V} {us:List Value} (r:Vals [x,y] us):∃ u w',us=[u,w']/\RelV x u/\RelV y w':=by
 cases r with
 | cons r1 r2 =>
  cases r2 with
  | cons r3 r4=>cases r4;exact ⟨_,_,rfl,r1,r3⟩
theorem zcz (hc:X.calm=true):zbc X (.builtin "max") (fun xs H Q=>∃ i j,xs=[.int i,.int j]/\Q (.int (if j > i then j else i)) H):=by
 intro pins s σ H xs us Q I r h
 obtain ⟨i,j,rfl,q⟩:=h
 obtain ⟨u,w',rfl,⟨t,rfl⟩,⟨t',rfl⟩⟩:=vals2 r
 refine max_two_ints (I.ok.hd hc) fun h' tk k=>⟨_,H,I.kept k,?_,q⟩
 by_cases hj:j > i
 ·rw[if_pos hj,if_pos hj];exact ⟨_,rfl⟩
 ·rw[if_neg hj,if_neg hj];exact ⟨_,rfl⟩
theorem zpR (hc:X.calm=true):zbc X (.builtin "min") (fun xs H Q=>∃ i j,xs=[.int i,.int j]/\Q (.int (if j<i then j else i)) H):=by
 intro pins s σ H xs us Q I r h
 obtain ⟨i,j,rfl,q⟩:=h
 obtain ⟨u,w',rfl,⟨t,rfl⟩,⟨t',rfl⟩⟩:=vals2 r
 refine min_two_ints (I.ok.hd hc) fun h' tk k=>⟨_,H,I.kept k,?_,q⟩
 by_cases hj:j<i
 ·rw[if_pos hj,if_pos hj];exact ⟨_,rfl⟩
 ·rw[if_neg hj,if_neg hj];exact ⟨_,rfl⟩
end
structure ziJ (h:Heap) (x dx C:Addr) (mA:Str->Option Value):Prop where
 obj:h.get? x=some (PySem.W.instObj C dx)
 ns:h.Ns1 dx mA
 ne:dx≠x
theorem zo8 {h:Heap} {dx:Addr} {mA:Str->Option Value} (n:h.Ns1 dx mA):∃ od,h.get? dx=some od/\∀ name,PySem.W.lookIn name od=some (mA name):=by
 obtain ⟨o,es,ep,ho,hd,hk,_,hm⟩:=n
 refine ⟨o,ho,fun name=>?_⟩
 have e:=hm name
 unfold nsFind findBy at e
 rw[<-Array.find?_toList] at e
 unfold PySem.W.lookIn
 rw[hd]
 dsimp only
 split
 ·rename_i y q
  rw[q] at e
  exact congrArg some e
 ·rename_i q
  rw[q] at e
  have a:es.toList.any (·.refKey)=false:=by
   rw[List.any_eq_false]
   intro y hy
   obtain ⟨z,t,hkey⟩:=hk y (Array.mem_toList_iff.mp hy)
   simp[DictEntry.refKey,hkey]
  have a':¬ es.toList.any (·.refKey)=true:=by rw[a];exact Bool.false_ne_true
  rw[if_neg a']
  exact congrArg some e
theorem ziJ.look {h:Heap} {x dx C:Addr} {mA:Str->Option Value} (I:ziJ h x dx C mA):∃ od,PySem.W.InstAt h x (PySem.W.instObj C dx) C (some od)/\∀ name,PySem.W.lookIn name od=some (mA name) :=
 let ⟨od,ho,hl⟩:=zo8 I.ns
 ⟨od,⟨I.obj,rfl,rfl,ho⟩,hl⟩
section
variable {prog:Program} {w:World} {A:Around} {E:Value->Shared->Prop} {s:Shared} {K:W.Frag} {x dx C f:Addr} {mA:Str->Option Value} {name:Str} {v:Value}
theorem get_map {expr:Bool} {Q:Value->Shared->Prop} (X:K.In s.heap) (I:ziJ s.heap x dx C mA) (hg:PySem.W.plainGet K C name=true) (hh:PySem.W.hasDictIn K C=true)
  (ha:PySem.W.findIn K (.ref C) name=some none) (hv:mA name=some v) (hv':PySem.W.handedIn v=true) (h:Q v { s with toks:=s.toks+1 }) :
  wpAny (model prog w) A (getAttr (.ref x) name expr) Q E s:=by
 obtain ⟨od,J,hl⟩:=I.look
 exact PySem.W.get_value X J (PySem.W.plainGet_of hg).1 (PySem.W.findObj_own hh ha rfl (by rw[hl,hv])) hv' h
theorem zp9 {pl:Sem Bool} {Q:Value × List Value->Shared->Prop} (X:K.In s.heap) (I:ziJ s.heap x dx C mA) (hg:PySem.W.plainGet K C name=true)
  (hf:PySem.W.findIn K (.ref C) name=some (some (.ref f))) (ht:PySem.W.isFn K (.ref f)=true) (hv:mA name=none) (h:Q (.ref f,[.ref x]) s) :
  wpAny (model prog w) A (getMethod (.ref x) name pl) Q E s:=by
 obtain ⟨od,J,hl⟩:=I.look
 exact PySem.W.method_fn X J (PySem.W.plainGet_of hg).1 (PySem.W.plainGet_of hg).2 hf (beq_iff_eq.mp ht) (by show (PySem.W.lookIn name od).map (·.isSome)=some false;rw[hl,hv];rfl) h
theorem zrV {ns:List Str} {Q:Unit->Shared->Prop} (X:K.In s.heap) (I:ziJ s.heap x dx C mA)
  (hs:PySem.W.findIn K (.ref C) "__setattr__" = some (some (.builtin "object.__setattr__"))) (hp:PySem.W.plainOver K C=true) (ht:PySem.W.takerIn K C name=some none) (hh:PySem.W.hasDictIn K C=true)
  (hw:PySem.Within mA ns) (hsz:ns.length<=sizeLine)
  (h:∀ h',ziJ h' x dx C (fun y=>if y=name then some v else mA y)->Heap.SameBut dx s.heap h'->Q () { s with heap:=h',toks:=s.toks+2 }) :
  wpAny (model prog w) A (setAttr (.ref x) name v) Q E s:=by
 obtain ⟨od,J,hl⟩:=I.look
 refine PySem.W.set_plain X J hs (PySem.W.osa_open (s:={ s with toks:=s.toks+1 }) (r:=none) X J hp ht fun b=>?_)
 obtain ⟨cd,hc,hd'⟩:=PySem.W.any_some hh
 have hx:s.heap.get? x=some ⟨.ref C,some dx,.plain,#[]⟩:=I.obj
 refine wpAny_bind (wpAny_pure (wpAny_bind (wpAny_bind (wpAny_loadPart hx (wpAny_bind (PySem.W.Looks.here (s:={ s with toks:=s.toks+1 }) (PySem.W.looks_clsIn X hc) ?_))))))
 rw[hd']
 refine wpAny_pure (a:=some dx) (wpAny_bind (wpAny_pure (wpAny_bind ?_)))
 refine wpAny_nsSet1 (s:={ s with toks:=s.toks+1 }) I.ns fun h' hn2 hs2=>?_
 obtain ⟨oD,esD,epD,hoD,hdD,hcD⟩:=hn2.count (PySem.Within.cons name v hw)
 refine wpAny_bind (wpAny_lookBehind hoD (by rw[hdD];exact pastItsLine_dict (yde hcD (by rw[yax];ac_rfl))) ?_)
 exact wpAny_pure (h _ ⟨(hs2.2 _ (Ne.symm I.ne)).trans I.obj,hn2,I.ne⟩ hs2)
theorem zqA {R:Result->Shared->Prop} {vs:List Value} {kw:List (Str × Value)} (X:K.In s.heap) (hm:PySem.W.makesIn K C=true)
  (hi:PySem.W.findIn K (.ref C) "__init__" = some (some (.ref f))) (hf:PySem.W.typeIn K (.ref f)=some (.type "function"))
  (h:codeAny (model prog w) (A.under (.builtin "type.__call__" ⟨.ref C::vs,kw⟩)) (.call (.ref f) ⟨.ref (s.heap.objs.size+1)::vs,kw⟩) (PySem.W.InitBack (s.heap.objs.size+1) R)
   { s with heap:=(s.heap.push PySem.W.emptyDict).push (PySem.W.instObj C s.heap.objs.size) }) :
  codeAny (model prog w) A (.call (.ref C) ⟨vs,kw⟩) R s:=by
 obtain ⟨hh,g,d,t,os⟩:=s
 exact PySem.W.make_core (PySem.W.makes_of X hm) (PySem.W.looks_findIn X hi) (fun self=>PySem.W.bind_fn X self hf) (.inl rfl) h
theorem zpu {R:Result->Shared->Prop} (X:K.In s.heap) (hm:PySem.W.makesIn K C=true)
  (hi:PySem.W.findIn K (.ref C) "__init__" = some (some (.builtin "object.__init__")))
  (hb:∀ self,PySem.W.Looks (model prog w) s.heap (bindSpecial (.builtin "object.__init__") self) (.builtin "object.__init__", [self]))
  (h:codeAny (model prog w) (A.under (.builtin "type.__call__" ⟨[.ref C],[]⟩)) (.call (.builtin "object.__init__") ⟨[.ref (s.heap.objs.size+1)],[]⟩) (PySem.W.InitBack (s.heap.objs.size+1) R)
   { s with heap:=(s.heap.push PySem.W.emptyDict).push (PySem.W.instObj C s.heap.objs.size) }) :
  codeAny (model prog w) A (.call (.ref C) ⟨[],[]⟩) R s:=by
 obtain ⟨hh,g,d,t,os⟩:=s
 exact PySem.W.make_core (PySem.W.makes_of X hm) (PySem.W.looks_findIn X hi) hb (.inr ⟨rfl,rfl⟩) h
end
noncomputable def zax (f:Str) (v:V):List (Str × V)->List (Str × V)
 | []=>[(f,v)]
 | (g,x)::r=>if g=f then (g,v)::r else (g,x)::zax f v r
theorem ziw (f g:Str) (v:V):∀ fs:List (Str × V),(zax f v fs).lookup g=if g=f then some v else fs.lookup g
 | []=>by
  show ycd g [(f,v)]=_
  by_cases h:g=f
  ·have hb:(g == f)=true:=beq_iff_eq.mpr h
   simp only[ycd,hb,if_pos h]
  ·have hb:(g == f)=false:=beq_eq_false_iff_ne.mpr h
   simp only[ycd,hb,if_neg h]
 | (k,x)::r=>by
  have ih:=ziw f g v r
  rw[show zax f v ((k,x)::r)=(if k=f then (k,v)::r else (k,x)::zax f v r) from rfl]
  by_cases hk:k=f
  ·rw[if_pos hk]
   by_cases h:g=k
   ·have hb:(g == k)=true:=beq_iff_eq.mpr h
    simp only[ycd,hb,if_pos (h.trans hk)]
   ·have hb:(g == k)=false:=beq_eq_false_iff_ne.mpr h
    simp only[ycd,hb,if_neg (fun e:g=f=>h (e.trans hk.symm))]
  ·rw[if_neg hk]
   by_cases h:g=k
   ·have hb:(g == k)=true:=beq_iff_eq.mpr h
    simp only[ycd,hb,if_neg (fun e:g=f=>hk (h.symm.trans e))]
   ·have hb:(g == k)=false:=beq_eq_false_iff_ne.mpr h
    simp only[ycd,hb]
    exact ih
theorem zhA (f:Str) (v:V):∀ fs:List (Str × V),f∈(zax f v fs).map (·.1)/\∀ g,g∈fs.map (·.1)->g∈(zax f v fs).map (·.1)
 | []=>⟨by simp[zax],fun g h=>by simp at h⟩
 | (k,x)::r=>by
  obtain ⟨i1,i2⟩:=zhA f v r
  rw[show zax f v ((k,x)::r)=(if k=f then (k,v)::r else (k,x)::zax f v r) from rfl]
  by_cases hk:k=f
  ·rw[if_pos hk]
   subst hk
   exact ⟨by simp,fun g h=>by simpa using h⟩
  ·rw[if_neg hk]
   refine ⟨?_,fun g h=>?_⟩
   ·rw[yay]
    exact yah _ i1
   ·rw[yay] at h ⊢
    rcases yal.mp h with e | e
    ·exact yal.mpr (.inl e)
    ·exact yah _ (i2 g e)
theorem ziy (f:Str) (v:V):∀ fs:List (Str × V),(zax f v fs).length<=fs.length+1
 | []=>by simp[zax]
 | (k,x)::r=>by
  have ih:=ziy f v r
  rw[show zax f v ((k,x)::r)=(if k=f then (k,v)::r else (k,x)::zax f v r) from rfl]
  by_cases hk:k=f
  ·rw[if_pos hk,yax,yax];ac_rfl
  ·rw[if_neg hk,yax,yax];ac_rfl
theorem zfC.some_of {v:V} {o:Option Value} (r:zfC (some v) o):∃ u,o=some u/\RelV v u:=by
 cases o with
 | none=>exact (show False from r).elim
 | some u=>exact ⟨u,rfl,r⟩
theorem zfC.none_of {o:Option Value} (r:zfC none o):o=none:=by
 cases o with
 | none=>rfl
 | some u=>exact (show False from r).elim
theorem zp0 {v:V} {u:Value} (r:RelV v u):PySem.W.handedIn u=true:=by
 cases v with
 | non=>cases (show u=Value.none from r);rfl
 | bl b=>cases (show u=Value.bool b from r);rfl
 | int i=>obtain ⟨t,e⟩:=(show ∃ t,u=Value.int i t from r);cases e;rfl
 | str x=>obtain ⟨t,e⟩:=(show ∃ t,u=Value.str x t from r);cases e;rfl
 | byt b=>obtain ⟨t,e⟩:=(show ∃ t,u=Value.bytes b t from r);cases e;rfl
 | flt b=>obtain ⟨t,e⟩:=(show ∃ t,u=Value.float b t from r);cases e;rfl
 | ref a=>cases (show u=Value.ref a from r);rfl
 | ty n=>cases (show u=Value.type n from r);rfl
section
variable {P:Program} {w:World} {H H':Hp} {h h':Heap} {a C dx:Addr} {fs fs':List (Str × V)}
theorem zh8 (hok:HOk P w H h) (e:H a=some (.ins C dx fs)):∃ mA,ziJ h a dx C mA/\(∀ f,zfC (fs.lookup f) (mA f))/\PySem.Within mA (fs.map (·.1))/\fs.length<=1000/\H dx=some (.own a):=by
 obtain ⟨d,z,ne,ob,mA,n,r,q⟩:=(show zai P w H h a (.ins C dx fs) from hok a _ e)
 exact ⟨mA,⟨ob,n,ne⟩,r,q,z,d⟩
end
structure Cls (K:W.Frag) (C:Addr):Prop where
 pg:PySem.W.plainGet K C Str.empty=true
 hd:PySem.W.hasDictIn K C=true
 po:PySem.W.plainOver K C=true
 sa:PySem.W.findIn K (.ref C) "__setattr__" = some (some (.builtin "object.__setattr__"))
theorem Cls.get {K:W.Frag} {C:Addr} (c:Cls K C) (f:Str):PySem.W.plainGet K C f=true:=c.pg
def zY (K:W.Frag) (C:Addr) (f:Str):Prop:=PySem.W.findIn K (.ref C) f=some none
theorem zY.taker {K:W.Frag} {C:Addr} {f:Str} (n:zY K C f):PySem.W.takerIn K C f=some none:=by
 unfold PySem.W.takerIn
 rw[show PySem.W.findIn K (.ref C) f=some none from n]
 rfl
structure Meth (K:W.Frag) (C:Addr) (m:Str) (f:Addr):Prop where
 at_:PySem.W.findIn K (.ref C) m=some (some (.ref f))
 fn:PySem.W.isFn K (.ref f)=true
 kp:PySem.W.keepIn K (.ref f)=true
section
variable {X:Cx} {pins:List (Addr × Obj)} {σ:St} {H:Hp} {s:Shared} {a C dx:Addr} {fs:List (Str × V)} {f:Str} {v:V} {A:Around} {E:Value->Shared->Prop}
theorem zjr {b:Bool} {Q:Value->Shared->Prop} (I:Inv X pins σ H s) (e:H a=some (.ins C dx fs)) (c:Cls X.K C) (n:zY X.K C f) (l:fs.lookup f=some v)
  (h:∀ u s',Inv X pins σ H s'->RelV v u->Q u s'):wpAny (model X.prog X.w) A (getAttr (.ref a) f b) Q E s:=by
 obtain ⟨mA,O,r,_,_,_⟩:=zh8 I.hok e
 obtain ⟨u,hu,ru⟩:=zfC.some_of (v:=v) (o:=mA f) (by rw[<-l];exact r f)
 exact get_map I.kIn O (c.get f) c.hd n hu (zp0 ru) (h u _ (I.tok _) ru)
theorem zgF {m:Str} {g:Addr} {pl:Sem Bool} {Q:Value × List Value->Shared->Prop} (I:Inv X pins σ H s) (e:H a=some (.ins C dx fs)) (c:Cls X.K C) (k:Meth X.K C m g) (l:fs.lookup m=none)
  (h:Q (.ref g,[.ref a]) s):wpAny (model X.prog X.w) A (getMethod (.ref a) m pl) Q E s:=by
 obtain ⟨mA,O,r,_,_,_⟩:=zh8 I.hok e
 have hn:mA m=none:=zfC.none_of (by rw[<-l];exact r m)
 exact zp9 I.kIn O (c.get m) k.at_ k.fn hn h
theorem zjp {y:V} {u:Value} {Q:Unit->Shared->Prop} (I:Inv X pins σ H s) (e:H a=some (.ins C dx fs)) (c:Cls X.K C) (n:zY X.K C f) (hl:fs.length<1000) (ry:RelV y u)
  (h:∀ s',Inv X pins σ (upd H a (.ins C dx (zax f y fs))) s'->Q () s'):wpAny (model X.prog X.w) A (setAttr (.ref a) f u) Q E s:=by
 obtain ⟨mA,O,r,wi,_,ho⟩:=zh8 I.hok e
 have hz:(fs.map (·.1)).length<=sizeLine:=by rw[yab,sizeLine_eq];ac_rfl
 refine zrV I.kIn O c.sa c.po n.taker c.hd wi hz fun h' O' sb=>h _ ?_
 have hd:∃ o,h'.get? dx=some o:=let ⟨o,_,_,e',_⟩:=O'.ns;⟨o,e'⟩
 refine I.write (x:=a) (e:=dx) (by rw[e];exact True.intro) (.inr ho) (fun b q hb z=>(sb.2 b hb).trans z) hd ?_
 refine ⟨by rw[zv O.ne];exact ho,?_,O.ne,O'.obj,_,O'.ns,fun g=>?_,fun g hg=>?_⟩
 ·have:=ziy f y fs;ac_rfl
 ·show zfC ((zax f y fs).lookup g) (if g=f then some u else mA g)
  rw[ziw]
  by_cases q:g=f
  ·rw[if_pos q,if_pos q];exact ry
  ·rw[if_neg q,if_neg q];exact r g
 ·by_cases q:g=f
  ·rw[q];exact (zhA f y fs).1
  ·refine (zhA f y fs).2 g (wi g fun z=>hg ?_)
   show (if g=f then some u else mA g)=none
   rw[if_neg q];exact z
theorem Inv.made (I:Inv X pins σ H s):Inv X pins σ (upd (upd H s.heap.objs.size (.own (s.heap.objs.size+1))) (s.heap.objs.size+1) (.ins C s.heap.objs.size []))
  { s with heap:=(s.heap.push PySem.W.emptyDict).push (PySem.W.instObj C s.heap.objs.size) }:=by
 have e1:(s.heap.push PySem.W.emptyDict).get? s.heap.objs.size=some PySem.W.emptyDict:=ydr s.heap rfl
 have e2:((s.heap.push PySem.W.emptyDict).push (PySem.W.instObj C s.heap.objs.size)).get? (s.heap.objs.size+1)=some (PySem.W.instObj C s.heap.objs.size):=by
  have:=ydr (s.heap.push PySem.W.emptyDict) (o:=PySem.W.instObj C s.heap.objs.size) rfl
  rwa [ydv] at this
 have e3:(s.heap.push PySem.W.emptyDict).Ns s.heap.objs.size (fun _=>none):=⟨PySem.W.emptyDict,#[],_,e1,rfl,(fun e he=>absurd he (by simp)),fun _=>rfl⟩
 have I1:=I.laid (a:=s.heap.objs.size) (o:=.own (s.heap.objs.size+1)) (h':=s.heap.push PySem.W.emptyDict) (t':=s.toks) (fun b u q=>ydp _ q) (ycz _) ⟨_,e1⟩
 refine I1.laid (a:=s.heap.objs.size+1) (o:=.ins C s.heap.objs.size []) (t':=s.toks) (fun b u q=>ydp _ q) (Nat.le_of_eq (ydv _ _)) ?_
 have ne:s.heap.objs.size≠s.heap.objs.size+1:=yda (ydf _)
 refine ⟨by rw[zv ne,zg],ydc _,ne,e2,fun _=>none,(Heap.Ns1.of_empty e3).at fun o q=>ydp _ q,fun _=>True.intro,fun y hy=>absurd rfl hy⟩
theorem zn2 {prog:Program} {w:World} {env:Env} {e:Expr} {f:Str} {pos:Pos} {s:Shared} {Q:Value->Shared->Prop} (hb:attributeBase e f env (eval e env)=eval e env)
  (h:wpAny (model prog w) A (eval e env) (fun o s₁=>wpAny (model prog w) A (getAttr o f true) Q E s₁) E s):wpAny (model prog w) A (eval (.Attribute e f pos) env) Q E s :=
 Attribute_any_ h (by rw[arm_eval_Attribute,hb])
end
def zsO (K:W.Frag) (ta:TE) (f:Str):TE:=fun σ H Q=>ta σ H fun x H1=>∃ a C dx fs v,x=.ref a/\H1 a=some (.ins C dx fs)/\Cls K C/\zY K C f/\fs.lookup f=some v/\Q v H1
def ztX (K:W.Frag) (ta tv:TE) (f:Str):TS:=fun D σ H=>tv σ H fun y H1=>ta σ H1 fun x H2=>∃ a C dx fs,x=.ref a/\H2 a=some (.ins C dx fs)/\Cls K C/\zY K C f/\fs.length<1000 /\
 D.nx σ (upd H2 a (.ins C dx (zax f y fs)))
section
variable {X:Cx} {o e value:Expr} {f:Str} {pos pos' tpos:Pos} {ta tv:TE}
theorem zsq (he:PE X e ta) (hb:attributeBase e f X.env (eval e X.env)=eval e X.env):PE X (.Attribute e f pos) (zsO X.K ta f):=by
 intro pins s σ H Q I h
 refine zn2 hb (thn (he pins s σ H _ I h) fun u s1 ⟨x,H1,I1,rx,a,C,dx,fs,v,ex,ea,c,n,l,q⟩=>?_)
 subst ex
 obtain rfl:u=Value.ref a:=rx
 exact zjr I1 ea c n l fun u' s2 I2 ru=>⟨v,H1,I2,ru,q⟩
theorem zhu (ha:PE X o ta) (hv:PE X value tv) (hs:swapsWith value (some (.Attribute o f pos')) pos.line X.env=pure false):PS X (.Assign [.Attribute o f pos'] value pos) (ztX X.K ta tv f):=by
 intro pins s σ H D I h
 refine plainObj_wpAny_Assign_Attribute (thn (hv pins s σ H _ I h) fun u s1 ⟨y,H1,I1,ry,q⟩=>thn (ha pins s1 σ H1 _ I1 q) fun ov s2 ⟨x,H2,I2,rx,a,C,dx,fs,ex,ea,c,n,l,q2⟩=>?_) hs
 subst ex
 obtain rfl:ov=Value.ref a:=rx
 exact zjp I2 ea c n l ry fun s3 I3=>⟨σ,_,I3,q2⟩
end
section
variable {X:Cx} {pins:List (Addr × Obj)} {σ:St} {H:Hp} {s:Shared} {A:Around} {E:Value->Shared->Prop} {Q:Value->Shared->Prop} {c:Value} {b:Bool}
inductive zbU (K:W.Frag) (H:Hp):V->Value->Prop where
 | non:zbU K H .non (.type "NoneType")
 | bl (x:Bool):zbU K H (.bl x) (.type "bool")
 | int (i:Int):zbU K H (.int i) (.type "int")
 | str (x:Str):zbU K H (.str x) (.type "str")
 | flt (x:UInt64):zbU K H (.flt x) (.type "float")
 | lst {a:Addr} {xs:List V} (e:H a=some (.lst xs)):zbU K H (.ref a) (.type "list")
 | frz {a:Addr} {o:Obj} {xs:List V} (e:H a=some (.frz o (.lst xs))):zbU K H (.ref a) (.type "list")
 | tup {a:Addr} {xs:List V} (e:H a=some (.tup xs)):zbU K H (.ref a) (.type "tuple")
 | dK {a:Addr} {kvs:List (Key × V)} (e:H a=some (.dK kvs)):zbU K H (.ref a) (.type "dict")
 | ins {a C dx:Addr} {fs:List (Str × V)} (e:H a=some (.ins C dx fs)) (cl:Cls K C) (ha:PySem.W.findIn K (.ref C) "__class__" = some (some (.builtin "object.__class__")))
   (hn:PySem.W.specialIn K (.builtin "object.__class__") "__get__" = some (some (.builtin "getset_descriptor.__get__"))) (htk:PySem.W.takesIn K (.builtin "object.__class__")=some true)
   (hm:PySem.W.mroIn K C (.type "object")=some true):zbU K H (.ref a) (.ref C)
theorem zkw {x:V} {u t:Value} (I:Inv X pins σ H s) (rx:RelV x u) (ty:zbU X.K H x t) (e:PySem.W.kitOne X.K t c=some b) (h:∀ tk,Q (.bool b) { s with toks:=tk }) :
  wpAny (model X.prog X.w) A (call (.builtin "isinstance") [u,c]) Q E s:=by
 cases ty with
 | non=>cases (show u=Value.none from rx);exact PySem.W.kia_one PySem.W.kitx_none I.kIn True.intro e (fun z=>nomatch z) h
 | bl y=>cases (show u=Value.bool y from rx);exact PySem.W.kia_one PySem.W.kitx_bool I.kIn True.intro e (fun z=>nomatch z) h
 | int i=>obtain ⟨t,q⟩:=(show ∃ t,u=Value.int i t from rx);cases q;exact PySem.W.kia_one PySem.W.kitx_int I.kIn True.intro e (fun z=>nomatch z) h
 | str y=>obtain ⟨t,q⟩:=(show ∃ t,u=Value.str y t from rx);cases q;exact PySem.W.kia_one PySem.W.kitx_str I.kIn True.intro e (fun z=>nomatch z) h
 | flt y=>obtain ⟨t,q⟩:=(show ∃ t,u=Value.float y t from rx);cases q;exact PySem.W.kia_one PySem.W.kitx_float I.kIn True.intro e (fun z=>nomatch z) h
 | @lst a xs ea =>
  cases (show u=Value.ref a from rx)
  obtain ⟨_,_,n,_,h1⟩:=(show zai X.prog X.w H s.heap a (.lst xs) from I.hok a _ ea)
  exact PySem.W.kia_one PySem.W.kitx_list I.kIn ⟨_,h1,rfl⟩ e (fun z=>nomatch z) h
 | @frz a ob xs ea =>
  cases (show u=Value.ref a from rx)
  obtain ⟨_,_,_,n,_,h1⟩:=(show zai X.prog X.w H s.heap a (.frz ob (.lst xs)) from I.hok a _ ea)
  exact PySem.W.kia_one PySem.W.kitx_list I.kIn ⟨_,h1,rfl⟩ e (fun z=>nomatch z) h
 | @tup a xs ea =>
  cases (show u=Value.ref a from rx)
  obtain ⟨_,_,_,p⟩:=(show zai X.prog X.w H s.heap a (.tup xs) from I.hok a _ ea)
  obtain ⟨o,h1,h2,_⟩:=p
  exact PySem.W.kia_one PySem.W.kitx_tuple I.kIn ⟨o,h1,h2⟩ e (fun z=>nomatch z) h
 | @dK a kvs ea =>
  cases (show u=Value.ref a from rx)
  obtain ⟨_,_,vs,_,p⟩:=(show zai X.prog X.w H s.heap a (.dK kvs) from I.hok a _ ea)
  obtain ⟨o,es,ep,h1,h2,_⟩:=p
  exact PySem.W.kia_one PySem.W.kitx_dict I.kIn ⟨o,h1,h2.1⟩ e (fun z=>nomatch z) h
 | @ins a C dx fs ea cl ha hn htk hm =>
  cases (show u=Value.ref a from rx)
  obtain ⟨mA,O,_⟩:=zh8 I.hok ea
  obtain ⟨od,J,_⟩:=O.look
  exact PySem.W.kia_one (PySem.W.kitx_own (cl.get _) cl.hd ha hn htk hm) I.kIn J e (fun z=>nomatch z) h
end
structure Room (k:Nat) (A:Around):Prop where
 hd:A.handled=none
 dp:A.depth+3*k+5<recursionLimit
 un:A.units+16*k+200<cLine
theorem Room.mono {j k:Nat} {A:Around} (r:Room k A) (h:j<=k):Room j A:=⟨r.hd,by have:=r.dp;ac_rfl,by have:=r.un;ac_rfl⟩
theorem Room.deeper {k:Nat} {A:Around} (r:Room (k+1) A) (env:Env):Room k (A.deeper env) :=
 ⟨r.hd,by have:=r.dp;show A.depth+1+3*k+5<_;ac_rfl,by have:=r.un;show A.units+3+16*k+200<_;ac_rfl⟩
theorem zoN {A:Around} {C:Addr} {us:List Value} {kw:List (Str × Value)}:(A.under (.builtin "type.__call__" ⟨.ref C::us,kw⟩)).depth=A.depth+1:=by
 first | rfl | simp[Around.under,Code.weight,Code.isCreation,Code.isGuard,Code.isCaller,Code.frames,Code.isFrame,guardIds]
theorem zol {A:Around} {C:Addr} {us:List Value} {kw:List (Str × Value)}:(A.under (.builtin "type.__call__" ⟨.ref C::us,kw⟩)).units=A.units+1:=by
 first | rfl | simp[Around.under,Code.cUnits,Code.frames,Code.isFrame]
theorem Room.make {k:Nat} {A:Around} (r:Room (k+1) A) (C:Addr) (us:List Value) (kw:List (Str × Value)):Room k (A.under (.builtin "type.__call__" ⟨.ref C::us,kw⟩)) :=
 ⟨r.hd,by have:=r.dp;rw[zoN];ac_rfl,by have:=r.un;rw[zol];ac_rfl⟩
theorem Room.depth {k:Nat} {A:Around} (r:Room k A):A.depth<recursionLimit:=by have:=r.dp;ac_rfl
theorem Room.units {k:Nat} {A:Around} (r:Room k A):A.units+64<cLine:=by have:=r.un;ac_rfl
def zjV:TA:=fun _ H Q=>Q [] H
def ztb (ta:TE) (tr:TA):TA:=fun σ H Q=>ta σ H fun x H1=>tr σ H1 fun xs H2=>Q (x::xs) H2
section
variable {X:Cx} {e:Expr} {es:List Expr} {te:TE} {t:TA} {pos:Pos}
theorem ze:PA X [] zjV:=fun _ _ _ _ H Q I h=>Calls.spliced_nil ⟨[],H,I,.nil,h⟩
theorem za (ha:PE X e te) (hr:PA X es t) (hs:starEach (e::es) X.env=(false,eval e X.env)::starEach es X.env:=by rfl):PA X (e::es) (ztb te t):=by
 intro pos pins s σ H Q I h
 rw[hs]
 show wpAny _ _ (spliced ((false,eval e X.env)::backTo pos (starEach es X.env))) _ _ s
 refine Calls.spliced_cons (thn (ha pins s σ H _ I h) fun u s1 ⟨x,H1,I1,r1,q1⟩=>?_)
 exact thn (hr pos pins s1 σ H1 _ I1 q1) fun us s2 ⟨xs,H2,I2,r2,q2⟩=>⟨x::xs,H2,I2,.cons r1 r2,q2⟩
def ztx (t:TA):TE:=fun σ H Q=>t σ H fun xs H1=>xs.length<=sizeLine/\∀ p,H1 p=none->Q (.ref p) (upd H1 p (.tup xs))
def ztI (t:TA):TE:=fun σ H Q=>t σ H fun xs H1=>xs.length<=sizeLine/\∀ p,H1 p=none->Q (.ref p) (upd H1 p (.lst xs))
theorem zE {x1} (h:PA X es t):PE X (.Tuple es x1 pos) (ztx t):=by
 intro pins s σ H Q I hq
 refine wpAny_Tuple_spliced (thn (h pos pins s σ H _ I hq) fun us s1 ⟨xs,H1,I1,r,z,q⟩=>⟨by rw[<-r.length];exact z,?_⟩)
 have hf:H1 s1.heap.objs.size=none:=I1.hok.fresh (ycz _)
 refine ⟨.ref s1.heap.objs.size,upd H1 s1.heap.objs.size (.tup xs),I1.laid (t':=s1.toks) (fun b u e=>ydp _ e) (ycz _) ?_,rfl,q _ hf⟩
 exact ⟨z,us,r,⟨_,ydr _ rfl,rfl,_,rfl⟩⟩
theorem zN (h:PA X es t):PE X (.List es pos) (ztI t):=by
 intro pins s σ H Q I hq
 refine wpAny_List_spliced (thn (h pos pins s σ H _ I hq) fun us s1 ⟨xs,H1,I1,r,z,q⟩=>⟨by rw[<-r.length];exact z,?_⟩)
 have hf:H1 s1.heap.objs.size=none:=I1.hok.fresh (ycz _)
 refine ⟨.ref s1.heap.objs.size,upd H1 s1.heap.objs.size (.lst xs),I1.laid (t':=s1.toks) (fun b u e=>ydp _ e) (ycz _) ?_,rfl,q _ hf⟩
 exact ⟨z,us,0,r,ydr _ rfl⟩
end
noncomputable abbrev Sp:=List V->Hp->VK->XK->Prop
noncomputable abbrev CXT:=List Env->Hp->Shared->XK->Value->Shared->Prop
structure ziU (P:Program) (w:World) (K:W.Frag) (mg:Str->Option Value) (base:Heap) (A:Around) (outer:List Env) (s:Shared) (H:Hp):Prop where
 frames:A.frames=some outer
 mod:Mod K mg base
 bs:∀ b o,base.get? b=some o->s.heap.get? b=some o/\H b=none
 bsz:base.objs.size<=s.heap.objs.size
 funs:s.heap.FunFrames base outer
 frf:∀ b∈frs outer,H b=none
 hok:HOk P w H s.heap
 bare:AllBare s.gens
def CE (outer:List Env) (P:Program) (w:World) (H:Hp) (s:Shared) (Q:VK) (u:Value) (s':Shared):Prop :=
 ∃ v H',s'.os=s.os/\AllBare s'.gens/\Un (frs outer) [] H H' s.heap s'.heap/\HOk P w H' s'.heap/\RelV v u/\Q v H'
def CR (CX:CXT) (outer:List Env) (P:Program) (w:World) (H:Hp) (s:Shared) (Q:VK) (E:XK) (r:Result) (s':Shared):Prop :=
 match r with
 | .ok (.ret u)=>CE outer P w H s Q u s'
 | .ok _=>False
 | .error e=>CX outer H s E e s'
structure zcc (P:Program) (w:World) (K:W.Frag) (mg:Str->Option Value) (base:Heap) (CX:CXT) (k:Nat) (f:Addr) (fd:FuncData) (ps:List Str) (sp:Sp):Prop where
 len:∀ vs H Q E,sp vs H Q E->vs.length=ps.length
 run:∀ (A:Around) (outer:List Env) (s:Shared) (H:Hp) (args:Args) (us:List Value) (vs:List V) (Q:VK) (E:XK),Room k A->ziU P w K mg base A outer s H->BindsTo s fd args (ps.zip us)->Vals vs us->sp vs H Q E ->
  codeAny (model P w) A (.call (.ref f) args) (CR CX outer P w H s Q E) s
theorem ziU.make {P:Program} {w:World} {K:W.Frag} {mg:Str->Option Value} {base:Heap} {A:Around} {outer:List Env} {s:Shared} {H:Hp} (e:ziU P w K mg base A outer s H) (C:Addr) (us:List Value) (kw:List (Str × Value)) :
  ziU P w K mg base (A.under (.builtin "type.__call__" ⟨.ref C::us,kw⟩)) outer s H:=⟨by first | exact e.frames | (simpa [Around.under,Code.envs,Code.isFrame,pushEnvs] using e.frames),e.mod,e.bs,e.bsz,e.funs,e.frf,e.hok,e.bare⟩
section
variable {X:Cx} {pins:List (Addr × Obj)} {σ:St} {H:Hp} {s s':Shared}
theorem Inv.zsI (I:Inv X pins σ H s):ziU X.prog X.w X.K X.mg X.base X.A X.stack s H :=
 ⟨I.ok.frames,I.ok.mod,I.bs,yde I.ok.bsz I.sz,I.stack,I.znR,I.hok,I.bare⟩
theorem Inv.after {Q:VK} {u:Value} (I:Inv X pins σ H s) (h:CE X.stack X.prog X.w H s Q u s'):EP X pins σ Q u s':=by
 obtain ⟨v,H',os,bare,un,hok,r,q⟩:=h
 obtain ⟨hh,g,d,t,os'⟩:=s'
 obtain rfl:os'=s.os:=os
 exact ⟨v,H',I.call (h':=hh) (g':=g) (d':=d) (t':=t) (ch:=[]) un hok bare (fun b z=>absurd z (by simp)),r,q⟩
end
def zow (sp:Sp) (dvs:List V) (E:XK) (t:TA):TE:=fun σ H Q=>t σ H fun vs H1=>sp (vs++dvs) H1 Q E
def zrb (C:Addr) (m:Str) (sp:Sp) (dvs:List V) (E:XK) (ta:TE) (t:TA):TE:=fun σ H Q=>ta σ H fun x H1=>∃ a dx fs,x=.ref a/\H1 a=some (.ins C dx fs)/\fs.lookup m=none /\
 t σ H1 fun vs H2=>sp (x::(vs++dvs)) H2 Q E
def zrc (C:Addr) (sp:Sp) (dvs:List V) (E:XK) (t:TA):TE:=fun σ H Q=>t σ H fun vs H1=>∀ x dx,H1 x=none->H1 dx=none->dx≠x ->
 sp (.ref x::(vs++dvs)) (upd (upd H1 dx (.own x)) x (.ins C dx [])) (fun v H2=>v=.non/\Q (.ref x) H2) E
def Binds (K:W.Frag) (fd:FuncData) (ps:List Str) (ds:List Value):Prop :=
 ∀ (s:Shared) (us:List Value),K.In s.heap->(us++ds).length=ps.length->BindsTo s fd ⟨us,[]⟩ (ps.zip (us++ds))
theorem Binds.all {K:W.Frag} {fd:FuncData} {ps:List Str} (h:∀ us:List Value,us.length=ps.length->bindArgs fd ⟨us,[]⟩=pure (ps.zip us)):Binds K fd ps []:=fun s us _ hl=>by
 rw[ybi] at hl ⊢
 exact .of_eq (h us hl)
def Passes (CX:CXT) (X:Cx) (E:XK):Prop:=∀ (pins:List (Addr × Obj)) (σ:St) (H:Hp) (s:Shared) (e:Value) (s':Shared),Inv X pins σ H s->CX X.stack H s E e s'->X.xe e s'
section
variable {X:Cx} {CX:CXT} {k:Nat} {f C:Addr} {fd:FuncData} {ps:List Str} {sp:Sp} {dvs:List V} {ds:List Value} {E:XK} {x m:Str} {p pos apos:Pos} {e o:Expr} {es:List Expr} {ta:TE} {t:TA}
theorem zhi {pins:List (Addr × Obj)} {σ:St} {H:Hp} {s:Shared} {Q:VK} {us:List Value} {vs:List V} (F:zcc X.prog X.w X.K X.mg X.base CX k f fd ps sp) (hr:Room k X.A) (hb:Binds X.K fd ps ds) (hd:Vals dvs ds) (hx:Passes CX X E)
  (I:Inv X pins σ H s) (r:Vals vs us) (h:sp (vs++dvs) H Q E):wpAny (model X.prog X.w) X.A (call (.ref f) us) (EP X pins σ Q) X.xe s:=by
 have r2:Vals (vs++dvs) (us++ds):=r.append hd
 have hl:(us++ds).length=ps.length:=by rw[<-r2.length];exact F.len _ _ _ _ h
 refine wpAny_call (codeAny_mono (F.run X.A X.stack s H ⟨us,[]⟩ (us++ds) (vs++dvs) Q E hr I.zsI (hb s us I.kIn hl) r2 h) fun r s' hq=>?_)
 cases r with
 | error e=>exact hx pins σ H s e s' I hq
 | ok fl =>
  cases fl with
  | ret u=>exact I.after hq
  | next=>exact False.elim hq
  | brk=>exact False.elim hq
  | cont=>exact False.elim hq
theorem zrK (F:zcc X.prog X.w X.K X.mg X.base CX k f fd ps sp) (hr:Room k X.A) (hg:Gl X x) (hm:X.mg x=some (.ref f)) (hk:PySem.W.keepIn X.K (.ref f)=true) (hb:Binds X.K fd ps ds) (hd:Vals dvs ds) (hx:Passes CX X E)
  (ha:PA X (e::es) t) (hdb:(x == ("__debug__" : Str))=false:=by decide) (he:starEach (e::es) X.env=(false,eval e X.env)::starEach es X.env:=by rfl) (hpl:(backTo pos (starEach es X.env)).any (·.1)=false:=by rfl) :
  PE X (.Call (.Name x p) (e::es) [] pos) (zow sp dvs E t):=by
 intro pins s σ H Q I h
 refine wpAny_Call_Name_kw (zh0 I hg hm ?_ hdb)
 refine PySem.W.callWith_K (h₀:=X.base) I.ok.mod.kin hk (thn (ha pos pins s σ H _ I h) fun us s1 ⟨vs,H1,I1,r,q⟩=>⟨I1.kIn,?_⟩) he hpl
 exact zhi F hr hb hd hx I1 r q
theorem zq0 {pl:Sem Bool} (he:PE X o ta) (c:Cls X.K C) (hm:Meth X.K C m f) (F:zcc X.prog X.w X.K X.mg X.base CX k f fd ps sp) (hr:Room k X.A) (hb:Binds X.K fd ps ds) (hd:Vals dvs ds) (hx:Passes CX X E)
  (ht:eval (.Call (.Attribute o m apos) [] [] pos) X.env=(do
   let ov <-eval o X.env
   standAt apos.atName
   let (f,first) <-holding [ov] (getMethod ov m pl)
   callWith pos f first (backTo pos (starEach [] X.env)) (backToKw pos (keywordEach [] X.env))):=by rfl) :
  PE X (.Call (.Attribute o m apos) [] [] pos) (zrb C m sp dvs E ta zjV):=by
 intro pins s σ H Q I h
 refine PySem.W.methodCall_KW (pl:=pl) (thn (he pins s σ H _ I h) fun u s1 ⟨x,H1,I1,rx,a,dx,fs,ex,ea,l,q⟩=>?_) ht
 subst ex
 obtain rfl:u=Value.ref a:=rx
 refine zgF I1 ea c hm l ?_
 exact PySem.W.callWith_K0 (first:=[.ref a]) I1.kIn hm.kp (zhi (us:=[.ref a]) (vs:=[.ref a]) F hr hb hd hx I1 (.cons rfl .nil) q)
structure Mk (K:W.Frag) (C f:Addr):Prop where
 makes:PySem.W.makesIn K C=true
 init:PySem.W.findIn K (.ref C) "__init__" = some (some (.ref f))
 fn:PySem.W.isFn K (.ref f)=true
 kp:PySem.W.keepIn K (.ref C)=true
theorem zp2 {pins:List (Addr × Obj)} {σ:St} {H:Hp} {s:Shared} {Q:VK} {us:List Value} {vs:List V} (M:Mk X.K C f) (F:zcc X.prog X.w X.K X.mg X.base CX k f fd ps sp) (hr:Room (k+1) X.A) (hb:Binds X.K fd ps ds) (hd:Vals dvs ds)
  (hx:Passes CX X E) (I:Inv X pins σ H s) (r:Vals vs us)
  (h:∀ x dx,H x=none->H dx=none->dx≠x->sp (.ref x::(vs++dvs)) (upd (upd H dx (.own x)) x (.ins C dx [])) (fun v H2=>v=.non/\Q (.ref x) H2) E) :
  wpAny (model X.prog X.w) X.A (call (.ref C) us) (EP X pins σ Q) X.xe s:=by
 have hq:=h (s.heap.objs.size+1) s.heap.objs.size (I.hok.fresh (ydk _)) (I.hok.fresh (ycz _)) (yda (ydf _))
 have I2:=Inv.made (C:=C) I
 have r2:Vals (V.ref (s.heap.objs.size+1)::(vs++dvs)) (Value.ref (s.heap.objs.size+1)::(us++ds)):=.cons rfl (r.append hd)
 have hl:(Value.ref (s.heap.objs.size+1)::us++ds).length=ps.length:=by
  have e:=r2.length
  rw[F.len _ _ _ _ hq] at e
  exact e.symm
 refine wpAny_call (zqA (f:=f) I.kIn M.makes M.init (beq_iff_eq.mp M.fn) (codeAny_mono (F.run _ X.stack _ _ ⟨Value.ref (s.heap.objs.size+1)::us,[]⟩ (Value.ref (s.heap.objs.size+1)::(us++ds)) _ _ E (hr.make C us [])
  (I2.zsI.make C us []) (hb _ (Value.ref (s.heap.objs.size+1)::us) I2.kIn hl) r2 hq) fun r s' hq'=>?_))
 cases r with
 | error e=>exact hx pins σ _ _ e s' I2 hq'
 | ok fl =>
  cases fl with
  | ret u =>
   obtain ⟨v,H',I3,rv,ev,q3⟩:=I2.after hq'
   subst ev
   exact ⟨rv,⟨V.ref (s.heap.objs.size+1),H',I3,rfl,q3⟩⟩
  | next=>exact False.elim hq'
  | brk=>exact False.elim hq'
  | cont=>exact False.elim hq'
theorem zrt (M:Mk X.K C f) (F:zcc X.prog X.w X.K X.mg X.base CX k f fd ps sp) (hr:Room (k+1) X.A) (hg:Gl X x) (hm:X.mg x=some (.ref C)) (hb:Binds X.K fd ps ds) (hd:Vals dvs ds) (hx:Passes CX X E)
  (ha:PA X (e::es) t) (hdb:(x == ("__debug__" : Str))=false:=by decide) (he:starEach (e::es) X.env=(false,eval e X.env)::starEach es X.env:=by rfl) (hpl:(backTo pos (starEach es X.env)).any (·.1)=false:=by rfl) :
  PE X (.Call (.Name x p) (e::es) [] pos) (zrc C sp dvs E t):=by
 intro pins s σ H Q I h
 refine wpAny_Call_Name_kw (zh0 I hg hm ?_ hdb)
 refine PySem.W.callWith_K (h₀:=X.base) I.ok.mod.kin M.kp (thn (ha pos pins s σ H _ I h) fun us s1 ⟨vs,H1,I1,r,q⟩=>⟨I1.kIn,?_⟩) he hpl
 exact zp2 M F hr hb hd hx I1 r q
end
section
variable {X:Cx} {CX:CXT} {k:Nat} {f C:Addr} {fd:FuncData} {ps ks:List Str} {sp:Sp} {E:XK} {x m:Str} {p pos apos kpos:Pos} {e o:Expr} {es:List Expr} {kws:List Keyword} {te ta:TE} {t tk:TA} {nm:Option Str}
variable {g:List Value->List Value->List Value} {gV:List V->List V->List V}
end
structure zo (N P:List Str) (sc:Scope):Prop where
 kind:sc.kind=.function
 co:sc.isCoroutine=false
 gen:sc.isGenerator=false
 nd:N.Nodup
 pre:N.take P.length=P
 par:∀ x∈P,sc.names.lookup x=some .local\/sc.names.lookup x=some .cell
 nofree:∀ y∈sc.names,y.2≠.free
theorem zkL {kindOf:Str->Option NameKind} {x:Str}:∀ {binds:List (Str × Value)} {m:Str->Option Value},(∀ v,(x,v) ∉ binds)->bindL kindOf binds m x=m x
 | [],_,_=>rfl
 | (n,v)::r,m,h=>by
  unfold bindL
  rw[zkL fun w hw=>h w (yah _ hw)]
  split
  ·have:x≠n:=by rintro rfl;exact h v yaj
   simp[this]
  ·rfl
theorem zkM {kindOf:Str->Option NameKind} {x:Str}:∀ {binds:List (Str × Value)} {m:Str->Option Value},(∀ v,(x,v) ∉ binds)->bindC kindOf binds m x=m x
 | [],_,_=>rfl
 | (n,v)::r,m,h=>by
  unfold bindC
  rw[zkM fun w hw=>h w (yah _ hw)]
  split
  ·rfl
  ·have:x≠n:=by rintro rfl;exact h v yaj
   simp[this]
theorem zkA {kindOf:Str->Option NameKind} {x:Str} {v:Value}:∀ {P:List Str} {vs:List Value} {i:Nat} {m:Str->Option Value},P.Nodup->P[i]?=some x->vs[i]?=some v->kindOf x=some .local ->
  bindL kindOf (P.zip vs) m x=some v
 | [],_,_,_,_,h,_,_=>by simp at h
 | _::_,[],_,_,_,_,h,_=>by simp at h
 | p::P,w::vs,0,m,nd,h1,h2,hk=>by
  simp at h1 h2;subst h1;subst h2
  show bindL kindOf ((p,w)::P.zip vs) m p=_
  unfold bindL
  rw[zkL fun v hv=>(ybq.mp nd).1 (List.of_mem_zip hv).1,if_pos hk]
  simp
 | p::P,w::vs,i+1,m,nd,h1,h2,hk=>by
  show bindL kindOf ((p,w)::P.zip vs) m x=_
  unfold bindL
  exact zkA (i:=i) (ybq.mp nd).2 (by simpa using h1) (by simpa using h2) hk
theorem zkG {kindOf:Str->Option NameKind} {x:Str} {v:Value}:∀ {P:List Str} {vs:List Value} {i:Nat} {m:Str->Option Value},P.Nodup->P[i]?=some x->vs[i]?=some v->kindOf x≠some .local ->
  bindC kindOf (P.zip vs) m x=some v
 | [],_,_,_,_,h,_,_=>by simp at h
 | _::_,[],_,_,_,_,h,_=>by simp at h
 | p::P,w::vs,0,m,nd,h1,h2,hk=>by
  simp at h1 h2;subst h1;subst h2
  show bindC kindOf ((p,w)::P.zip vs) m p=_
  unfold bindC
  rw[zkM fun v hv=>(ybq.mp nd).1 (List.of_mem_zip hv).1,if_neg hk]
  simp
 | p::P,w::vs,i+1,m,nd,h1,h2,hk=>by
  show bindC kindOf ((p,w)::P.zip vs) m x=_
  unfold bindC
  exact zkG (i:=i) (ybq.mp nd).2 (by simpa using h1) (by simpa using h2) hk
noncomputable def start (N:List Str) (vs:List V):St:=vs.map some++List.replicate (N.length-vs.length) none
noncomputable def zfF (CX:CXT) (P:Program) (w:World) (K:W.Frag) (mg:Str->Option Value) (base:Heap) (N:List Str) (qual:Str) (scope:Scope) (f:Addr) (cd:Value) (A:Around) (outer:List Env) (s:Shared) (H:Hp) (E:XK):Cx where
 prog:=P
 w:=w
 K:=K
 mg:=mg
 base:=base
 A:=A.deeper (envOfC qual scope s.heap.objs.size f cd)
 N:=N
 s₀:=s
 H₀:=H
 env:=envOfC qual scope s.heap.objs.size f cd
 outer:=outer
 stack:=envOfC qual scope s.heap.objs.size f cd::outer
 ex:=[]
 calm:=true
 fn:=fun _=>true
 pn:=[]
 xe:=fun e s'=>wpAny (model P w) (A.deeper (envOfC qual scope s.heap.objs.size f cd)) (leaving (envOfC qual scope s.heap.objs.size f cd) e) (fun _ s''=>CX outer H s E e s'') (fun e' s''=>CX outer H s E e' s'') s'
theorem zlU {sc:Scope} {n:Nat} {x:Str} (h:sc.names.lookup x=some .cell):∃ c,(cellsFrom n sc.names []).lookup x=some c:=by
 have q:=PySem.W.cellsFrom_some sc.names n [] (.inl h)
 exact Option.isSome_iff_exists.mp q
theorem zpB {CX:CXT} {P:Program} {w:World} {K:W.Frag} {mg:Str->Option Value} {base:Heap} {N ps:List Str} {qual:Str} {scope:Scope} {f:Addr} {cd:Value} {A:Around} {outer:List Env} {s s1:Shared} {H:Hp} {E:XK} {us:List Value} {vs:List V}
  (S:zo N ps scope) (hd:A.handled=none) (e0:ziU P w K mg base A outer s H) (hl:vs.length=ps.length) (r:Vals vs us)
  (x:InCallC s s.heap.objs.size (bindL (envOfC qual scope s.heap.objs.size f cd).kindOf (ps.zip us) fun _=>none) (cellsFrom (s.heap.objs.size+1) scope.names []) (bindC (envOfC qual scope s.heap.objs.size f cd).kindOf (ps.zip us) fun _=>none) s1) :
  Inv (zfF CX P w K mg base N qual scope f cd A outer s H E) [] (start N vs) H s1:=by
 have hpl:ps.length<=N.length:=by have:=congrArg List.length S.pre;rw[yau] at this;ac_rfl
 obtain ⟨h1,tk,rfl,hk⟩:=x.done
 have noA:∀ b:Addr,b ∉ (zfF CX P w K mg base N qual scope f cd A outer s H E).ex:=fun b z=>absurd (show b∈([]:List Addr) from z) (by simp)
 refine ⟨⟨e0.mod,S.kind,rfl,rfl,ycz _,fun y z c h1 h2=>?_,fun y hy=>?_,fun y c _ h=>?_,fun _=>hd,Around.frames_deeper e0.frames,.inr ⟨rfl,rfl⟩,fun b z=>absurd z (noA b),e0.bs,e0.bsz,fun b _ _=>noA b,fun b z=>absurd z (noA b),e0.funs,e0.frf⟩,
  rfl,e0.bare,Un.kept hk,⟨_,x.toInCall.ns,fun i y v h1 h2 h3=>?_⟩,fun y c h=>⟨_,x.cell y c h⟩,e0.hok.fresh (ycz _),fun y c h=>?_,fun p hp=>absurd (show p∈([]:List (Addr × Obj)) from hp) (by simp),e0.hok.kept hk,?_⟩
 ·exact name_of_addr x.apart (PySem.mem_of_lookup h1) (PySem.mem_of_lookup h2)
 ·have hy:scope.names.lookup y=some .cell\/scope.names.lookup y=some .free:=hy
  rcases hy with hy | hy
  ·exact zlU hy
  ·exact absurd rfl (S.nofree _ (PySem.mem_of_lookup hy))
 ·exact ydm (x.above y c (PySem.mem_of_lookup h))
 ·have hi:i<vs.length:=by
   unfold start at h2
   by_cases hi:i<vs.length
   ·exact hi
   ·rw[ybk (by simpa using hi)] at h2
    rw[List.getElem?_replicate] at h2
    split at h2 <;> cases h2
  have ha:vs[i]?=some v:=by
   unfold start at h2
   rw[ybl (by simpa using hi),yak] at h2
   cases e:vs[i]? with
   | none=>rw[e] at h2;cases h2
   | some a=>rw[e] at h2;cases h2;rfl
  obtain ⟨u,hu,rv⟩:=r.get ha
  have hp:ps[i]?=some y:=by
   rw[<-S.pre,List.getElem?_take_of_lt (by ac_rfl)];exact h1
  have ndP:ps.Nodup:=by rw[<-S.pre];exact S.nd.sublist (List.take_sublist _ _)
  refine ⟨u,rv,?_⟩
  rcases S.par y (yai hp) with k | k
  ·exact .inl ⟨k,zkA ndP hp hu k⟩
  ·obtain ⟨c,e⟩:=zlU (n:=s.heap.objs.size+1) k
   refine .inr ⟨.inl k,c,e,?_⟩
   have q:=x.cell y c e
   rw[zkG ndP hp hu (by show scope.names.lookup y≠_;rw[k];decide)] at q
   exact q
 ·exact e0.hok.fresh (ydm (x.above y c (PySem.mem_of_lookup h)))
 ·unfold start
  show _=N.length
  rw[yad,yab,List.length_replicate]
  ac_rfl
theorem zs8 {CX:CXT} {P:Program} {w:World} {K:W.Frag} {mg:Str->Option Value} {base:Heap} {k:Nat} {f:Addr} {name qual:Str} {params:Arguments} {body:List Stmt} {scope:Scope} {dV kV doc pm cdv ct oc:Value} {an od:Option Addr}
  {osl:Array (Option Value)} {N ps:List Str} {sp:Sp} (lk:K.lookup f=some ⟨oc,od,.func (PySem.W.fnOf name qual params body scope dV kV doc pm an cdv ct),osl⟩) (hcd:PySem.W.codeIn K cdv qual=true) (S:zo N ps scope)
  (len:∀ vs H Q E,sp vs H Q E->vs.length=ps.length)
  (hbody:∀ (A:Around) (outer:List Env) (s:Shared) (H:Hp) (vs:List V) (Q:VK) (E:XK),Room k (A.deeper (envOfC qual scope s.heap.objs.size f cdv))->sp vs H Q E ->
   ∃ t,PSs (zfF CX P w K mg base N qual scope f cdv A outer s H E) body t/\t { nx:=fun _ H'=>Q .non H',rt:=Q } (start N vs) H) :
  zcc P w K mg base CX (k+1) f (PySem.W.fnOf name qual params body scope dV kV doc pm an cdv ct) ps sp:=by
 refine ⟨len,fun A outer s H args us vs Q E hr e0 hb r hsp=>?_⟩
 have hl:=len _ _ _ _ hsp
 have KX:K.In s.heap:=e0.mod.kin.keeps fun b o e=>(e0.bs b o e).1
 have lim:s.heap.NoLimit:=e0.mod.nolimit.keeps fun b o e=>(e0.bs b o e).1
 have hkind:∀ y∈ps.zip us,scope.names.lookup y.1=some .local\/(scope.names.lookup y.1=some .cell/\((cellsFrom (s.heap.objs.size+1) scope.names []).lookup y.1).isSome=true):=fun ⟨n,v⟩ hy=>by
  rcases S.par n (List.of_mem_zip hy).1 with q | q
  ·exact .inl q
  ·exact .inr ⟨q,PySem.W.cellsFrom_some _ _ _ (.inl q)⟩
 refine codeAny_call_function hr.depth (KX _ _ lk) rfl S.co S.gen rfl (PySem.W.codeRec_of KX hcd) (hb _ _ _ _ ?_)
 refine wpAny_newFunctionEnv_cells S.kind hkind fun env he s1 x=>?_
 subst he
 refine ⟨lim.keeps x.toInCall.keep,codeAny_func ?_⟩
 obtain ⟨t,ht,hq⟩:=hbody A outer s H vs Q E (hr.deeper _) hsp
 have I:Inv (zfF CX P w K mg base N qual scope f cdv A outer s H E) [] (start N vs) H s1:=zpB S hr.hd e0 hl r x
 refine wpAny_mono (ht [] s1 (start N vs) H _ I hq) (fun fl s' hs=>?_) fun e s' hs=>hs
 have fin:∀ {σ':St} {H':Hp} {v:V} {u:Value},Inv (zfF CX P w K mg base N qual scope f cdv A outer s H E) [] σ' H' s'->RelV v u->Q v H'->CE outer P w H s Q u s' :=
  fun {σ' H' v u} J rv q=>⟨v,H',J.os,J.bare,J.base,J.hok,rv,q⟩
 cases fl with
 | ret u =>
  obtain ⟨v,σ',H',J,rv,q⟩:=hs
  exact fin J rv q
 | next =>
  obtain ⟨σ',H',J,q⟩:=hs
  exact fin (v:=V.non) (u:=Value.none) J rfl q
 | brk =>
  obtain ⟨_,_,_,q⟩:=hs
  exact False.elim q
 | cont =>
  obtain ⟨_,_,_,q⟩:=hs
  exact False.elim q
section
variable {X:Cx} {x:Str} {p pos:Pos} {e:Expr} {es:List Expr} {t:TA} {id T:String} {r:List V->Hp->VK->Prop}
def tCB (r:List V->Hp->VK->Prop) (t:TA):TE:=fun σ H Q=>t σ H fun vs H1=>r vs H1 Q
theorem zG (hc:zbc X (.builtin id) r) (hg:Gl X x) (hm:X.mg x=none) (hv:bootBuiltins x=some (.builtin id)) (ha:PA X (e::es) t) (hn:x ≠ "__name__" := by decide) (hdb:(x == ("__debug__" : Str))=false:=by decide)
  (he:starEach (e::es) X.env=(false,eval e X.env)::starEach es X.env:=by rfl) (hpl:(backTo pos (starEach es X.env)).any (·.1)=false:=by rfl):PE X (.Call (.Name x p) (e::es) [] pos) (tCB r t):=by
 intro pins s σ H Q I h
 refine wpAny_Call_Name_kw (zga I hg hm hv ?_ hn hdb)
 exact PyProof.Rows.callWith_builtin1 (thn (ha pos pins s σ H _ I h) fun us s1 ⟨vs,H1,I1,r1,q1⟩=>hc pins s1 σ H1 vs us Q I1 r1 q1) he hpl
theorem zal (hc:zbc X (.type T) r) (hg:Gl X x) (hm:X.mg x=none) (hv:bootBuiltins x=some (.type T)) (ha:PA X (e::es) t) (hn:x ≠ "__name__" := by decide) (hdb:(x == ("__debug__" : Str))=false:=by decide)
  (he:starEach (e::es) X.env=(false,eval e X.env)::starEach es X.env:=by rfl) (hpl:(backTo pos (starEach es X.env)).any (·.1)=false:=by rfl):PE X (.Call (.Name x p) (e::es) [] pos) (tCB r t):=by
 intro pins s σ H Q I h
 refine wpAny_Call_Name_kw (zga I hg hm hv ?_ hn hdb)
 exact PyProof.Rows.callWith_type1 (thn (ha pos pins s σ H _ I h) fun us s1 ⟨vs,H1,I1,r1,q1⟩=>hc pins s1 σ H1 vs us Q I1 r1 q1) he hpl
end
end L2
namespace HT
open PySem PyProof.Rows
section
open PySem.SeqAt
open PySem.AutoSeq1 (wpAny_loadPart')
open PySem.MeetsSeq PySem.MeetsSeq2 PySem.MeetsSeq3
end
section
variable {prog:Program} {w:World} {A:Around} {E:Value->Shared->Prop} {s:Shared}
noncomputable def sIx (n d:Nat):Option Int->Nat
 | none=>d
 | some v=>if v<0 then (v+(n:Int)).toNat else min v.toNat n
end
end HT
namespace L2
open PySem PySem.Spec PyProof.Rows
noncomputable abbrev TO:=St->Hp->(Option Int->Hp->Prop)->Prop
def PO (X:Cx) (e:Option Expr) (t:TO):Prop :=
 ∀ (pins:List (Addr × Obj)) (s:Shared) (σ:St) (H:Hp) (Q:Option Int->Hp->Prop),Inv X pins σ H s->t σ H Q ->
  wpAny (model X.prog X.w) X.A (evalPart e X.env) (fun u s'=>∃ o H',Inv X pins σ H' s'/\IsPart u o/\Q o H') X.xe s
def zrP:TO:=fun _ H Q=>Q none H
def zto (t:TE):TO:=fun σ H Q=>t σ H fun x H1=>∃ i,x=.int i/\Q (some i) H1
section
variable {X:Cx} {e:Expr} {te:TE} {lo hi:Option Expr} {tl th:TO} {pos p2:Pos}
theorem zex:PO X none zrP:=by
 intro pins s σ H Q I h
 rw[evalPart_none]
 exact wpAny_pure ⟨none,H,I,.none,h⟩
theorem zeB (h:PE X e te):PO X (some e) (zto te):=by
 intro pins s σ H Q I hw
 rw[evalPart_some]
 refine thn (h pins s σ H _ I hw) fun u s1 ⟨x,H1,I1,r1,q1⟩=>?_
 obtain ⟨i,rfl,q⟩:=q1
 obtain ⟨t,rfl⟩:=r1
 exact ⟨some i,H1,I1,.int i t,q⟩
def SlR (X:Cx) (r:V->Option Int->Option Int->Hp->VK->Prop):Prop :=
 ∀ (pins:List (Addr × Obj)) (s:Shared) (σ:St) (H:Hp) (x:V) (v vl vu:Value) (lo hi:Option Int) (sl:Addr) (Q:VK),Inv X pins σ H s->RelV x v->s.heap.IsSliceOf sl vl vu .none->IsPart vl lo->IsPart vu hi->r x lo hi H Q ->
  ∃ T id,typeLookup (.type T) "__getitem__" = pure (some (.builtin id))/\s.TypeIs v T/\wpAny (model X.prog X.w) X.A (getItem v (.ref sl)) (EP X pins σ Q) X.xe s
def tSl (r:V->Option Int->Option Int->Hp->VK->Prop) (te:TE) (tl th:TO):TE:=fun σ H Q=>te σ H fun x H1=>tl σ H1 fun l H2=>th σ H2 fun u H3=>r x l u H3 Q
theorem zdp {r:V->Option Int->Option Int->Hp->VK->Prop} (hr:SlR X r) (he:PE X e te) (hl:PO X lo tl) (hu:PO X hi th):PE X (.Subscript e (.Slice lo hi none p2) pos) (tSl r te tl th):=by
 intro pins s σ H Q I h
 refine Subscript_ (thn (he pins s σ H _ I h) fun v s1 ⟨x,H1,I1,r1,q1⟩=>?_)
 refine wpAny_Slice (thn (hl pins s1 σ H1 _ I1 q1) fun vl s2 ⟨l,H2,I2,pl,q2⟩=>thn (hu pins s2 σ H2 _ I2 q2) fun vu s3 ⟨u,H3,I3,pu,q3⟩=>?_)
 rw[evalPart_none]
 refine wpAny_pure ?_
 have I4:Inv X pins σ H3 { s3 with heap:=s3.heap.push { cls:=.type "slice", data:=.fields #[vl,vu,.none] } }:=I3.kept (t':=s3.toks) fun b ob q=>ydp _ q
 obtain ⟨T,id,hT,ht,hg⟩:=hr pins { s3 with heap:=s3.heap.push { cls:=.type "slice", data:=.fields #[vl,vu,.none] } } σ H3 x v vl vu l u s3.heap.objs.size Q I4 r1 (Heap.IsSliceOf.new ..) pl pu q3
 show wpAny (model X.prog X.w) X.A (subscriptTail e (.Slice lo hi none p2) v (.ref s3.heap.objs.size)) (EP X pins σ Q) X.xe { s3 with heap:=s3.heap.push { cls:=.type "slice", data:=.fields #[vl,vu,.none] } }
 exact tail_any (ops:=[.ref s3.heap.objs.size,v]) ht hT hg (by with_unfolding_all rfl)
noncomputable def zg9 (xs:List V) (lo hi:Option Int):List V:=(xs.drop (HT.sIx xs.length 0 lo)).take (HT.sIx xs.length xs.length hi-HT.sIx xs.length 0 lo)
theorem znj (xs:List V) (lo hi:Option Int):(zg9 xs lo hi).length<=xs.length:=by
 unfold zg9
 rw[yau,ybg]
 ac_rfl
end
noncomputable def ixN (n:Nat) (i:Int):Option Nat:=if 0<=i then (if i<n then some i.toNat else none) else if -(n:Int)<=i then some (i+n).toNat else none
noncomputable def atI {α:Type} (xs:List α) (i:Int):Option α:=(ixN xs.length i).bind fun j=>xs[j]?
theorem znI {n:Nat} {i:Int} {j:Nat} (h:ixN n i=some j):seqIndex? i n=some j/\j<n /\ -(n:Int)<=i/\i<n:=by
 unfold ixN at h
 by_cases h0:0<=i
 ·rw[if_pos h0] at h
  by_cases h1:i<n
  ·rw[if_pos h1] at h
   have e:i.toNat=j:=Option.some.inj h
   exact ⟨by rw[seqIndex_of h0 h1,e],by ac_rfl,by ac_rfl,h1⟩
  ·rw[if_neg h1] at h;cases h
 ·rw[if_neg h0] at h
  by_cases h1:-(n:Int)<=i
  ·rw[if_pos h1] at h
   have e:(i+n).toNat=j:=Option.some.inj h
   exact ⟨by rw[seqIndex_neg (by ac_rfl) h1,e],by ac_rfl,h1,by ac_rfl⟩
  ·rw[if_neg h1] at h;cases h
theorem znW {α:Type} {xs:List α} {i:Int} {v:α} (h:atI xs i=some v):∃ j,seqIndex? i xs.length=some j/\xs[j]?=some v/\j<xs.length /\ -(xs.length:Int)<=i/\i<xs.length:=by
 unfold atI at h
 cases e:ixN xs.length i with
 | none=>rw[e] at h;cases h
 | some j =>
  rw[e] at h
  obtain ⟨h1,h2,h3,h4⟩:=znI e
  exact ⟨j,h1,h,h2,h3,h4⟩
theorem zbJ {α:Type} {xs:List α} {j:Nat} {v:α} (h:xs[j]?=some v):atI xs (j:Int)=some v:=by
 have hj:j<xs.length:=(yac.mp h).1
 have e:ixN xs.length (j:Int)=some j:=by
  unfold ixN
  rw[if_pos (by ac_rfl),if_pos (by ac_rfl)];simp
 unfold atI;rw[e];exact h
def zrB (b:Expr):Prop:=∀ o i,subscripted b false o i=operate [o,i] (getItem o i)
def IxR (X:Cx) (r:R2):Prop :=
 ∀ (value slice:Expr) (pins:List (Addr × Obj)) (s:Shared) (σ:St) (H:Hp) (x y:V) (v u:Value) (Q:VK),Inv X pins σ H s->RelV x v->RelV y u->r x y H Q ->
  subscripted slice false v u=operate [v,u] (getItem v u)->wpAny (model X.prog X.w) X.A (subscriptTail value slice v u) (EP X pins σ Q) X.xe s
def MtR (X:Cx) (id:String) (r:V->List V->Hp->VK->Prop):Prop :=
 ∀ (pins:List (Addr × Obj)) (s:Shared) (σ:St) (H:Hp) (x:V) (xs:List V) (v:Value) (us:List Value) (Q:VK),Inv X pins σ H s->RelV x v->Vals xs us->r x xs H Q ->
  wpAny (model X.prog X.w) X.A (call (.builtin id) (v::us)) (EP X pins σ Q) X.xe s
section
variable {X:Cx} {a b:Expr} {ta tb:TE} {pos:Pos}
theorem zD {r:R2} (hr:IxR X r) (ha:PE X a ta) (hb:PE X b tb) (hs:zrB b):PE X (.Subscript a b pos) (tOp r ta tb):=by
 intro pins s σ H Q I h
 exact Subscript_ (zqe ha hb I h fun v u s2 x y H2 I2 rx ry q=>hr a b pins s2 σ H2 x y v u Q I2 rx ry q (hs _ _))
def zsi (K:W.Frag):R2:=fun x y H Q=>∃ p xs i v,x=.ref p/\y=.int i/\SqL K H p xs/\atI xs i=some v/\Q v H
def zse (K:W.Frag):R2:=fun x y H Q=>∃ p xs i v,x=.ref p/\y=.int i/\SqT K H p xs/\atI xs i=some v/\Q v H
theorem zX:IxR X (zsi X.K):=by
 intro value slice pins s σ H x y v u Q I rx ry h hs
 obtain ⟨p,xs,i,z,rfl,rfl,hq,he,q⟩:=h
 cases rx
 obtain ⟨t,rfl⟩:=ry
 obtain ⟨its,r,pl,hz⟩:=I.list hq
 obtain ⟨j,h1,h2,h3,h4,h5⟩:=znW he
 obtain ⟨w,ew,rw'⟩:=r.get h2
 have hl:=r.length
 have hn:=zjd
 have fin:EP X pins σ Q w s:=⟨z,H,I,rw',q⟩
 by_cases h0:0<=i
 ·have hj:i.toNat=j:=by
   rw[seqIndex_of h0 h5] at h1
   exact Option.some.inj h1
  exact item_listR pl.isList h0 (by ac_rfl) (by rw[hj];simpa using ew) fin hs
 ·have hj:(i+(its.toArray.size:Int)).toNat=j:=by
   rw[seqIndex_neg (by ac_rfl) h4] at h1
   rw[yao,<-hl]
   exact Option.some.inj h1
  exact subscriptTail_builtinR (x:=w) pl.isList.typeIs slot_list_getitem.lookup
   (wpAny_getItem_list_neg (Q:=fun r s'=>r=w/\EP X pins σ Q r s') pl.isList (by ac_rfl) (by rw[yao] <;> ac_rfl) (by ac_rfl) (by rw[hj];simpa using ew) ⟨rfl,fin⟩) hs
theorem zaU:IxR X (zse X.K):=by
 intro value slice pins s σ H x y v u Q I rx ry h hs
 obtain ⟨p,xs,i,z,rfl,rfl,hq,he,q⟩:=h
 cases rx
 obtain ⟨t,rfl⟩:=ry
 obtain ⟨its,r,pl,hz⟩:=I.tuple hq
 obtain ⟨j,h1,h2,h3,h4,h5⟩:=znW he
 obtain ⟨w,ew,rw'⟩:=r.get h2
 have hl:=r.length
 have hn:=zjd
 have fin:EP X pins σ Q w s:=⟨z,H,I,rw',q⟩
 exact subscriptTail_builtinR (x:=w) pl.typeIs slot_tuple_getitem.lookup
  (getItem_tuple (j:=j) (Q:=fun r s'=>r=w/\EP X pins σ Q r s') pl (by ac_rfl) (by ac_rfl) (by rw[yao,<-hl];exact h1) (by simpa using ew) ⟨rfl,fin⟩) hs
theorem zoe (its:List Value) (n j:Nat) (u:Value):Obj.mapSeq (·.setIfInBounds j u) { cls:=.type "list", data:=.seq its.toArray n }={ cls:=.type "list", data:=.seq (its.set j u).toArray n }:=by
 simp[Obj.mapSeq]
theorem Inv.lst {pins:List (Addr × Obj)} {σ:St} {H:Hp} {s:Shared} {p:Addr} {xs:List V} (I:Inv X pins σ H s) (h:H p=some (.lst xs)) :
  ∃ (its:List Value) (n:Nat),Vals xs its/\s.heap.get? p=some { cls:=.type "list", data:=.seq its.toArray n }/\xs.length<=sizeLine:=by
 obtain ⟨z,its,n,r,e⟩:=I.hok p _ h
 exact ⟨its,n,r,e,z⟩
theorem Inv.zsT {pins:List (Addr × Obj)} {σ:St} {H:Hp} {s:Shared} {p:Addr} {xs ys:List V} {its its':List Value} {n n':Nat} {f:Obj->Obj} (I:Inv X pins σ H s) (h:H p=some (.lst xs))
  (ho:s.heap.get? p=some { cls:=.type "list", data:=.seq its.toArray n }) (hf:f { cls:=.type "list", data:=.seq its.toArray n }={ cls:=.type "list", data:=.seq its'.toArray n' }) (r:Vals ys its') (hz:ys.length<=sizeLine) (t:Nat) :
  Inv X pins σ (upd H p (.lst ys)) { s with heap:=s.heap.update p f,toks:=t }:=by
 have e:(s.heap.update p f).get? p=some { cls:=.type "list", data:=.seq its'.toArray n' }:=by
  rw[ydt f ho (by rw[hf] <;> rfl),hf]
 refine I.write (x:=p) (e:=p) (by rw[h];trivial) (.inl rfl) (fun b u hb q=>(yds _ _ (Ne.symm hb)).trans q) ⟨_,e⟩ ?_
 exact ⟨hz,its',n',r,e⟩
noncomputable def zti:V->V->V->Hp->(Hp->Prop)->Prop:=fun o i v H Q=>∃ p xs k j,o=.ref p/\i=.int k/\H p=some (.lst xs)/\ixN xs.length k=some j/\Q (upd H p (.lst (xs.set j v)))
theorem set_list:PSet X zti:=by
 intro pins s σ H o i v ov iv u Q I ro ri rv h
 obtain ⟨p,xs,k,j,rfl,rfl,hp,hj,q⟩:=h
 cases ro
 obtain ⟨t,rfl⟩:=ri
 obtain ⟨its,n,r,ho,hz⟩:=I.lst hp
 obtain ⟨h1,h2,h3,h4⟩:=znI hj
 have hl:=r.length
 have hn:=zjd
 have I':Inv X pins σ (upd H p (.lst (xs.set j v))) { s with heap:=s.heap.update p (Obj.mapSeq (·.setIfInBounds j u)) } :=
  I.zsT hp ho (zoe its n j u) (r.set rv j) (by rw[List.length_set];exact hz) s.toks
 by_cases h0:0<=k
 ·have hk:k.toNat=j:=by
   rw[seqIndex_of h0 h4] at h1
   exact Option.some.inj h1
  exact PySem.W.ki_setAt ho h0 (by ac_rfl) (by rw[yao,<-hl];exact h4) (by rw[hk];exact ⟨_,I',q⟩)
 ·have hk:(k+(its.toArray.size:Int)).toNat=j:=by
   rw[seqIndex_neg (by ac_rfl) h3] at h1
   rw[yao,<-hl]
   exact Option.some.inj h1
  exact PySem.W.ki_setBack ho (by ac_rfl) (by rw[yao,<-hl];exact h3) (by ac_rfl) (by rw[hk];exact ⟨_,I',q⟩)
theorem zmj (lo hi:Option Int) (n:Nat):(sliceBounds lo hi none n).1=((HT.sIx n 0 lo:Nat):Int)/\(sliceBounds lo hi none n).2.1=((HT.sIx n n hi:Nat):Int)/\(sliceBounds lo hi none n).2.2=1:=by
 refine ⟨?_,?_,rfl⟩
 ·cases lo with
  | none=>simp[sliceBounds,HT.sIx]
  | some i =>
   simp only[sliceBounds,HT.sIx,Option.getD_none,show (1:Int) > 0 by decide,if_true]
   by_cases h:i<0
   ·simp only[h,if_true] <;> ac_rfl
   ·simp only[h,if_false] <;> ac_rfl
 ·cases hi with
  | none=>simp[sliceBounds,HT.sIx]
  | some i =>
   simp only[sliceBounds,HT.sIx,Option.getD_none,show (1:Int) > 0 by decide,if_true]
   by_cases h:i<0
   ·simp only[h,if_true] <;> ac_rfl
   ·simp only[h,if_false] <;> ac_rfl
theorem zlb (its:List Value) (lo hi:Option Int):slicePick its.toArray lo hi none=((its.drop (HT.sIx its.length 0 lo)).take (HT.sIx its.length its.length hi-HT.sIx its.length 0 lo)).toArray:=by
 obtain ⟨h1,h2,h3⟩:=zmj lo hi its.toArray.size
 unfold slicePick
 rw[h1,h2,h3]
 simp only[sliceRange_one,pick_run,yao] <;> rfl
noncomputable def ztQ (K:W.Frag):V->Option Int->Option Int->Hp->VK->Prop:=fun x lo hi H Q=>∃ a xs,x=.ref a/\SqL K H a xs/\∀ p,H p=none->Q (.ref p) (upd H p (.lst (zg9 xs lo hi)))
theorem zer:SlR X (ztQ X.K):=by
 intro pins s σ H x v vl vu lo hi sl Q I rx hs pl pu h
 obtain ⟨a,xs,rfl,hx,q⟩:=h
 cases rx
 obtain ⟨its,r,ht,hz⟩:=I.list hx
 have hlen:=r.length
 refine ⟨"list", _,slot_list_getitem.lookup,ht.isList.typeIs,?_⟩
 refine wpAny_getItem_list_slice ht.isList hs pl pu .none (by simp) ?_ (by rw[yao] <;> ac_rfl)
 rw[zlb,<-hlen]
 refine ⟨.ref s.heap.objs.size,_,I.laid (t':=s.toks) (o:=.lst (zg9 xs lo hi)) (fun b ob q=>ydp _ q) (ycz _) ?_,rfl,q _ (I.hok.fresh (ycz _))⟩
 exact ⟨yde (znj xs lo hi) hz,_,0,(r.drop (HT.sIx xs.length 0 lo)).take (HT.sIx xs.length xs.length hi-HT.sIx xs.length 0 lo),ydr _ rfl⟩
noncomputable def zfg:V->Bool
 | .non=>true
 | .bl _=>true
 | .int _=>true
 | .str _=>true
 | _=>false
noncomputable def eqV:V->V->Bool
 | .non,.non=>true
 | .bl a,.bl b=>a == b
 | .bl a,.int b=>(if a then 1 else 0) == b
 | .int a,.bl b=>a == (if b then 1 else 0)
 | .int a,.int b=>a == b
 | .str a,.str b=>a == b
 | _,_=>false
theorem zsQ {A:Around} {s:Shared} {y x:V} {u v:Value} (ry:RelV y u) (rx:RelV x v) (fy:zfg y=true) (fx:zfg x=true):SeqAt.EqAt A s u v (eqV y x):=by
 cases y with
 | non =>
  cases ry
  cases x with
  | non=>cases rx;exact SeqAt.EqAt.same _
  | bl b=>cases rx;exact SeqAt.EqAt.none_bool b
  | int b=>obtain ⟨t,rfl⟩:=rx;exact SeqAt.EqAt.none_int b t
  | str b=>obtain ⟨t,rfl⟩:=rx;exact SeqAt.EqAt.none_str b t
  | _=>exact absurd (show false=true from fx) Bool.false_ne_true
 | bl a =>
  cases ry
  cases x with
  | non=>cases rx;exact SeqAt.EqAt.bool_none a
  | bl b=>cases rx;exact SeqAt.EqAt.bool_bool a b
  | int b=>obtain ⟨t,rfl⟩:=rx;exact SeqAt.EqAt.bool_int a b t
  | str b=>obtain ⟨t,rfl⟩:=rx;exact SeqAt.EqAt.bool_str a b t
  | _=>exact absurd (show false=true from fx) Bool.false_ne_true
 | int a =>
  obtain ⟨t',rfl⟩:=ry
  cases x with
  | non=>cases rx;exact SeqAt.EqAt.int_none a t'
  | bl b=>cases rx;exact SeqAt.EqAt.int_bool a t' b
  | int b=>obtain ⟨t,rfl⟩:=rx;exact SeqAt.EqAt.int_int a t' b t
  | str b=>obtain ⟨t,rfl⟩:=rx;exact SeqAt.EqAt.int_str a t' b t
  | _=>exact absurd (show false=true from fx) Bool.false_ne_true
 | str a =>
  obtain ⟨t',rfl⟩:=ry
  cases x with
  | non=>cases rx;exact SeqAt.EqAt.str_none a t'
  | bl b=>cases rx;exact SeqAt.EqAt.str_bool a t' b
  | int b=>obtain ⟨t,rfl⟩:=rx;exact SeqAt.EqAt.str_int a t' b t
  | str b=>obtain ⟨t,rfl⟩:=rx;exact SeqAt.EqAt.str_str a t' b t
  | _=>exact absurd (show false=true from fx) Bool.false_ne_true
 | _=>exact absurd (show false=true from fy) Bool.false_ne_true
def eqU (x:V) (u:Value):Bool:=match u with
 | .none=>eqV .non x
 | .bool b=>eqV (.bl b) x
 | .int i _=>eqV (.int i) x
 | .str z _=>eqV (.str z) x
 | _=>false
theorem zpA {x y:V} {u:Value} (r:RelV y u) (f:zfg y=true):eqU x u=eqV y x:=by
 cases y with
 | non=>cases r;rfl
 | bl b=>cases r;rfl
 | int i=>obtain ⟨t,rfl⟩:=r;rfl
 | str z=>obtain ⟨t,rfl⟩:=r;rfl
 | _=>exact absurd (show false=true from f) Bool.false_ne_true
theorem zgd {x:V}:∀ {xs:List V} {us:List Value},Vals xs us->xs.all zfg=true->us.any (eqU x)=xs.any fun y=>eqV y x
 | _,_,.nil,_=>rfl
 | y::xs,u::us,.cons r t,f=>by
  rw[List.all_cons,Bool.and_eq_true] at f
  rw[ycy,ycy,zpA r f.1,zgd t f.2]
theorem zeQ {A:Around} {s:Shared} {x:V} {v:Value} (rx:RelV x v) (fx:zfg x=true):∀ {xs:List V} {us:List Value},Vals xs us->xs.all zfg=true->∀ u∈us,SeqAt.EqAt A s u v (eqU x u)
 | _,_,.nil,_=>fun u hu=>by cases hu
 | y::xs,u::us,.cons r t,f=>fun u' hu=>by
  rw[List.all_cons,Bool.and_eq_true] at f
  rcases yal.mp hu with rfl | hu
  ·rw[zpA r f.1];exact zsQ r rx f.1 fx
  ·exact zeQ rx fx t f.2 u' hu
def inV (x:V) (xs:List V):Bool:=xs.any fun y=>eqV y x
def rIn (K:W.Frag) (neg:Bool):R2:=fun x y H Q=>∃ p xs,y=.ref p/\(SqL K H p xs\/SqT K H p xs)/\zfg x=true/\xs.all zfg=true/\Q (.bl (if neg then !inV x xs else inV x xs)) H
theorem zhq:OpR X (compareOp .In) (rIn X.K false):=by
 intro pins s σ H x y v u Q I rx ry h
 obtain ⟨p,xs,rfl,hq,fx,fs,q⟩:=h
 cases ry
 rcases hq with hq | hq
 ·obtain ⟨its,r,pl,hz⟩:=I.list hq
  refine SeqAt.in_listAt (eqU x) pl.isList (fun w hw=>zeQ rx fx r fs w (by simpa using hw)) ⟨.bl _,H,I,rfl,?_⟩
  rw[show its.toArray.any (eqU x)=its.any (eqU x) by simp,zgd r fs]
  exact q
 ·obtain ⟨its,r,pl,hz⟩:=I.tuple hq
  refine SeqAt.in_tupleAt (eqU x) pl (fun w hw=>zeQ rx fx r fs w (by simpa using hw)) ⟨.bl _,H,I,rfl,?_⟩
  rw[show its.toArray.any (eqU x)=its.any (eqU x) by simp,zgd r fs]
  exact q
theorem zml:OpR X (compareOp .NotIn) (rIn X.K true):=by
 intro pins s σ H x y v u Q I rx ry h
 obtain ⟨p,xs,rfl,hq,fx,fs,q⟩:=h
 cases ry
 rcases hq with hq | hq
 ·obtain ⟨its,r,pl,hz⟩:=I.list hq
  refine SeqAt.notIn_listAt (eqU x) pl.isList (fun w hw=>zeQ rx fx r fs w (by simpa using hw)) ⟨.bl _,H,I,rfl,?_⟩
  rw[show its.toArray.any (eqU x)=its.any (eqU x) by simp,zgd r fs]
  exact q
 ·obtain ⟨its,r,pl,hz⟩:=I.tuple hq
  refine SeqAt.notIn_tupleAt (eqU x) pl (fun w hw=>zeQ rx fx r fs w (by simpa using hw)) ⟨.bl _,H,I,rfl,?_⟩
  rw[show its.toArray.any (eqU x)=its.any (eqU x) by simp,zgd r fs]
  exact q
theorem zag:zbc X (.builtin "len") (fun xs H Q=>∃ p ys,xs=[.ref p]/\(SqL X.K H p ys\/SqT X.K H p ys)/\Q (.int ys.length) H):=by
 intro pins s σ H xs us Q I r h
 obtain ⟨p,ys,rfl,hq,q⟩:=h
 obtain ⟨u,rfl,rx⟩:=vals1 r
 cases rx
 have hn:=zjd
 rcases hq with hq | hq
 ·obtain ⟨its,r',pl,hz⟩:=I.list hq
  have hlen:=r'.length
  exact Calls.call_len_list pl.isList (by simp only[yao] <;> ac_rfl) ⟨.int ys.length,H,I.tok _,⟨s.toks+1,by rw[yao,hlen]⟩,q⟩
 ·obtain ⟨its,r',pl,hz⟩:=I.tuple hq
  have hlen:=r'.length
  exact len_tuple pl (by simp only[yao] <;> ac_rfl) ⟨.int ys.length,H,I.tok _,⟨s.toks+1,by rw[yao,hlen]⟩,q⟩
theorem zas:zbc X (.type "list") (fun xs H Q=>∃ p ys,xs=[.ref p]/\(SqL X.K H p ys\/SqT X.K H p ys)/\∀ l,H l=none->Q (.ref l) (upd H l (.lst ys))):=by
 intro pins s σ H xs us Q I r h
 obtain ⟨p,ys,rfl,hq,q⟩:=h
 obtain ⟨u,rfl,rx⟩:=vals1 r
 cases rx
 have fin:∀ (its:List Value),Vals ys its->ys.length<=sizeLine->∀ (h':Heap) (c':Nat),(∀ b o',s.heap.get? b=some o'->h'.get? b=some o') ->
   h'.get? s.heap.objs.size=some { cls:=.type "list", dict:=none,data:=.seq its.toArray c',slots:=#[] }->EP X pins σ Q (.ref s.heap.objs.size) { s with heap:=h' }:=fun its r' hz h' c' kp e =>
  ⟨.ref s.heap.objs.size,_,I.laid (t':=s.toks) kp (ycz _) (show zai X.prog X.w _ h' _ (.lst ys) from ⟨hz,its,c',r',e⟩),rfl,q _ (I.hok.fresh (ycz _))⟩
 rcases hq with hq | hq
 ·obtain ⟨its,r',pl,hz⟩:=I.list hq
  have hlen:=r'.length
  obtain ⟨o,ho,hc,n,hd⟩:=pl.isList
  exact call_list_seq p (.inl rfl) ho hc hd (fun h' c' kp e=>fin its r' hz h' c' kp e) (by simp only[yao] <;> ac_rfl)
 ·obtain ⟨its,r',pl,hz⟩:=I.tuple hq
  have hlen:=r'.length
  obtain ⟨o,ho,hc,n,hd⟩:=pl
  exact call_list_seq p (.inr rfl) ho hc hd (fun h' c' kp e=>fin its r' hz h' c' kp e) (by simp only[yao] <;> ac_rfl)
def tyV (K:W.Frag) (T:String) (x:V) (H:Hp):Prop:=match x with
 | .str _=>T = "str"
 | .int _=>T = "int"
 | .ref p=>(T = "list" /\ ∃ xs,SqL K H p xs)\/(T = "tuple" /\ ∃ o,K.lookup p=some o/\o.cls=.type "tuple" /\ o.dict=none) \/
   (T = "dict" /\ ∃ kvs,H p=some (.dK kvs))\/(T = "set" /\ ∃ S n,H p=some (.set S n))
 | _=>False
theorem zsK {pins:List (Addr × Obj)} {σ:St} {H:Hp} {s:Shared} {T:String} {x:V} {v:Value} (I:Inv X pins σ H s) (r:RelV x v) (ty:tyV X.K T x H) :
  s.TypeIs v T/\∀ a,v=.ref a->∃ ob,s.heap.get? a=some ob/\ob.dict=none:=by
 cases x with
 | str z =>
  obtain ⟨t,rfl⟩:=r
  cases (show T = "str" from ty)
  exact ⟨typeIs_str s z t,fun _ e=>nomatch e⟩
 | int i =>
  obtain ⟨t,rfl⟩:=r
  cases (show T = "int" from ty)
  exact ⟨typeIs_int s i t,fun _ e=>nomatch e⟩
 | ref p =>
  cases r
  rcases ty with ⟨rfl,xs,hq⟩ | ⟨rfl,o,hk,hc,hd⟩ | ⟨rfl,hk⟩ | ⟨rfl,S,n,hk⟩
  ·obtain ⟨its,_,pl,_⟩:=I.list hq
   refine ⟨pl.isList.typeIs,fun a e=>?_⟩
   cases e
   obtain ⟨o,n,e,c,hd,_⟩:=pl
   exact ⟨o,e,hd⟩
  ·refine ⟨⟨o,I.kIn p o hk,hc⟩,fun a e=>?_⟩
   cases e
   exact ⟨o,I.kIn _ o hk,hd⟩
  ·have z:∃ o,s.heap.get? p=some o/\o.ExactDict:=by
    obtain ⟨kvs,hk⟩:=hk
    obtain ⟨_,_,_,_,o,_,_,e,ex,_⟩:=I.hok p _ hk
    exact ⟨o,e,ex⟩
   obtain ⟨o,e,ex⟩:=z
   refine ⟨⟨o,e,ex.1⟩,fun a e2=>?_⟩
   cases e2
   exact ⟨o,e,ex.2.1⟩
  ·obtain ⟨o,_,_,_,e,ex,_⟩:=I.hok p _ hk
   refine ⟨⟨o,e,ex.1⟩,fun a e2=>?_⟩
   cases e2
   exact ⟨o,e,ex.2.1⟩
 | _=>exact False.elim ty
def tBM (K:W.Frag) (T:String) (r:V->List V->Hp->VK->Prop) (to:TE) (t:TA):TE:=fun σ H Q=>to σ H fun x H1=>tyV K T x H1/\t σ H1 fun xs H2=>r x xs H2 Q
variable {o e:Expr} {es:List Expr} {to:TE} {t:TA} {name:Str} {apos cpos:Pos} {T id:String} {r:V->List V->Hp->VK->Prop}
theorem zjj (pa:PlainAttrs T) (slot:Slot T name id) (hty:typeOf (.builtin id)=pure (.type "method_descriptor")) (hm:MtR X id r) (ho:PE X o to) (ha:PA X (e::es) t)
  (hbase:attributeBase o name X.env (eval o X.env)=eval o X.env:=by rfl)
  (hfew:((backTo cpos (starEach (e::es) X.env)).all (fun x=>!x.1) && (backToKw cpos (keywordEach [] X.env)).all (fun x=>x.1.isSome)
   && decide ((e::es).length+([]:List Keyword).length+(if ([]:List Keyword).isEmpty then 0 else 1)<30))=true:=by rfl)
  (hline:(apos.endLine == cpos.line)=true:=by rfl) (hs:starEach (e::es) X.env=(false,eval e X.env)::starEach es X.env:=by rfl) (hplain:(backTo cpos (starEach es X.env)).any (·.1)=false:=by rfl) :
  PE X (.Call (.Attribute o name apos) (e::es) [] cpos) (tBM X.K T r to t):=by
 intro pins s σ H Q I h
 refine wpAny_Call_method_late hbase hfew hline rfl (thn (ho pins s σ H _ I h) fun v s1 ⟨x,H1,I1,r1,ty,q1⟩=>?_)
 obtain ⟨h1,h2⟩:=zsK I1 r1 ty
 refine ⟨T,id,pa,slot,hty,h1,h2,?_⟩
 have hA:=ha cpos pins s1 σ H1 _ I1 q1
 rw[hs] at hA ⊢
 refine Calls.callWith_builtin (by show (false || (backTo cpos (starEach es X.env)).any (·.1))=false;rw[hplain] <;> rfl) (Calls.evalArgs_plain ?_)
 exact thn hA fun us s2 ⟨vs,H2,I2,r2,q2⟩=>hm pins s2 σ H2 x vs v us Q I2 r1 r2 q2
/- xs.append(e),list.index on a module's tuple .. are MtR facts of 06m -/
end
def MtM (X:Cx) (id:String) (r:V->List V->Hp->VK->Prop):Prop :=
 ∀ (pins:List (Addr × Obj)) (s:Shared) (σ:St) (H:Hp) (x:V) (xs:List V) (v:Value) (us:List Value) (Q:VK),Inv X pins σ H s->RelV x v->Vals xs us->r x xs H Q ->
  wpAny (model X.prog X.w) X.A (call (.builtin id) (v::us)) (EP X pins σ Q) X.xe s
theorem Vals.one:∀ {x:V} {us:List Value},Vals [x] us->∃ u,us=[u]/\RelV x u
 | _,_,.cons r .nil=>⟨_,rfl,r⟩
section
variable {X:Cx} {pins:List (Addr × Obj)} {σ:St} {H:Hp} {s:Shared} {l b:Addr} {xs ys zs:List V}
theorem Inv.lset {its its':List Value} {n:Nat} {f:Array Value->Array Value} {t':Nat} (I:Inv X pins σ H s) (hH:H l=some (.lst xs))
  (e:s.heap.get? l=some { cls:=.type "list", data:=.seq its.toArray n }) (hf:f its.toArray=its'.toArray) (hv:Vals ys its') (hz:ys.length<=sizeLine) :
  Inv X pins σ (upd H l (.lst ys)) { s with heap:=s.heap.update l (Obj.mapSeq f),toks:=t' }:=by
 have q:=PySem.IsL.update e f
 rw[hf] at q
 refine I.write (x:=l) (e:=l) (by rw[hH];exact trivial) (.inl rfl) (fun b' u hb hu=>(yds s.heap (Obj.mapSeq f) (Ne.symm hb)).trans hu) ⟨_,q⟩ ?_
 exact ⟨hz,its',_,hv,q⟩
theorem Inv.lnew {its:List Value} {t':Nat} (I:Inv X pins σ H s) (hv:Vals ys its) (hz:ys.length<=sizeLine) :
  Inv X pins σ (upd H s.heap.objs.size (.lst ys)) { s with heap:=s.heap.push { cls:=.type "list", data:=.seq its.toArray },toks:=t' } :=
 I.laid (fun _ _ q=>ydp _ q) (ycz _) ⟨hz,its,0,hv,ydr _ rfl⟩
theorem Inv.fresh (I:Inv X pins σ H s):H s.heap.objs.size=none:=I.hok.fresh (ycz _)
theorem Inv.zmJ (I:Inv X pins σ H s) (hH:H l=some (.lst xs)):xs.length<=sizeLine/\∃ (its:List Value) (n:Nat),Vals xs its/\xs.length=its.length/\s.heap.get? l=some { cls:=.type "list", data:=.seq its.toArray n }:=by
 obtain ⟨z,its,n,r,e⟩:=I.hok l _ hH
 exact ⟨z,its,n,r,r.length,e⟩
theorem zqx {n:Nat} (h:n<=sizeLine):Builtin.List.listTooLong n=false:=by
 unfold Builtin.List.listTooLong
 exact decide_eq_false (by ac_rfl)
end
section
variable {X:Cx}
noncomputable def zr0:V->List V->Hp->VK->Prop:=fun x vs H Q=>∃ l xs y,x=.ref l/\vs=[y]/\H l=some (.lst xs)/\xs.length<sizeLine/\Q .non (upd H l (.lst (xs++[y])))
theorem zdR:MtM X "list.append" zr0:=by
 intro pins s σ H x vs v us Q I rx rv h
 obtain ⟨l,xs,y,rfl,rfl,hH,hz,q⟩:=h
 cases rx
 obtain ⟨u,rfl,ru⟩:=rv.one
 obtain ⟨z,its,n,r,hl,e⟩:=I.zmJ hH
 refine call_meets F.slot_list_append ⟨_,e,rfl⟩ F.entry_list_append (F.args_list_append_2 _ _) (PySem.list_append l its.toArray n u (by rw[yao];ac_rfl)) ⟨e,?_⟩
 refine ⟨.non,_,I.lset (its':=its++[u]) hH e (by simp) (r.append (.cons ru .nil)) ?_,rfl,q⟩
 rw[yad,ybo]
 ac_rfl
noncomputable def zro:V->List V->Hp->VK->Prop:=fun x vs H Q=>∃ l b xs zs,x=.ref l/\vs=[.ref b]/\H l=some (.lst xs)/\H b=some (.lst zs)/\xs.length+zs.length<=sizeLine/\Q .non (upd H l (.lst (xs++zs)))
theorem zkx:MtM X "list.extend" zro:=by
 intro pins s σ H x vs v us Q I rx rv h
 obtain ⟨l,b,xs,zs,rfl,rfl,hH,hB,hz,q⟩:=h
 cases rx
 obtain ⟨u,rfl,ru⟩:=rv.one
 cases ru
 obtain ⟨z,its,n,r,hl,e⟩:=I.zmJ hH
 obtain ⟨z2,its2,n2,r2,hl2,e2⟩:=I.zmJ hB
 have hsz:its.toArray.size+its2.toArray.size<=sizeLine:=by rw[yao,yao];ac_rfl
 have hlong:¬ (!its.toArray.isEmpty && Builtin.List.listTooLong (its.toArray.size+its2.toArray.size))=true:=by
  rw[zqx hsz,Bool.and_false]
  exact Bool.false_ne_true
 refine call_meets F.slot_list_extend ⟨_,e,rfl⟩ F.entry_list_extend (F.args_list_extend_2 _ _)
  (AutoSeq1.list_extend_list_list_0 l its.toArray n b its2.toArray n2 hlong (by rw[yao];ac_rfl) (by ac_rfl)) ⟨e,e2,?_⟩
 refine ⟨.non,_,I.lset (its':=its++its2) hH e (by simp) (r.append r2) ?_,rfl,q⟩
 rw[yad]
 ac_rfl
def ztM:R2:=fun x y H Q=>∃ l b xs zs,x=.ref l/\y=.ref b/\H l=some (.lst xs)/\H b=some (.lst zs)/\xs.length+zs.length<=sizeLine/\∀ p,H p=none->Q (.ref p) (upd H p (.lst (xs++zs)))
theorem zaw:OpR X (binaryOp .Add) ztM:=by
 intro pins s σ H x y v u Q I rx ry h
 obtain ⟨l,b,xs,zs,rfl,rfl,hH,hB,hz,q⟩:=h
 cases rx
 cases ry
 obtain ⟨z,its,n,r,hl,e⟩:=I.zmJ hH
 obtain ⟨z2,its2,n2,r2,hl2,e2⟩:=I.zmJ hB
 refine PySem.P.add_list e e2 ?_ (by rw[yao,yao];ac_rfl)
 have ea:its.toArray++its2.toArray=(its++its2).toArray:=by simp
 rw[ea]
 exact ⟨.ref _,_,I.lnew (t':=s.toks) (r.append r2) (by rw[yad];ac_rfl),rfl,q _ I.fresh⟩
end
section
variable {prog:Program} {w:World} {A:Around} {E:Value->Shared->Prop} {s:Shared}
set_option maxRecDepth 100000 in
end
section
variable {X:Cx}
end
end L2
namespace Att
open PySem PySem.W PySem.Calls PyProof.Rows
theorem zjC {P:Params} {h:Heap}:∀ (ns:List Int) (vs:List Value),WellAll P h vs (ns.map WData.int)->IntsAre vs ns:=by
 intro ns
 induction ns with
 | nil =>
  intro vs w
  rw[List.map_nil] at w
  cases w
  exact .nil
 | cons n ns ih =>
  intro vs w
  rw[yay] at w
  cases w with
  | cons a b =>
   cases a
   exact .cons _ _ (ih _ b)
theorem zpI {l:OpenLaw} {n:Nat} (hn:l.most=some n) {P:Params} {h:Heap} {args:List WData} {vals:List Value}
  (hpre:l.row.toRowW.claim.pre args=true) (hwl:WellAll P h vals args) :
  ∃ a vs ns,vals=[Value.ref a]/\args=[WData.list (ns.map WData.int)]/\h.get? a=some { cls:=.type "list", data:=.seq vs.toArray }/\IntsAre vs ns/\ns.length<=n:=by
 have hsh:WShape.hasAll [] args [.list .int]=true:=(pre_splitW hpre).1
 have hc:l.pre.holds [] { args:=args }=true:=(pre_splitW hpre).2
 obtain ⟨d,r,rfl,h1,h2⟩:=hasAllW_cons hsh
 obtain rfl:=hasAllW_nil h2
 obtain ⟨xs,rfl,h3⟩:=hasW_list h1
 obtain ⟨ns,rfl⟩:=items_int h3
 have hlen:ns.length<=n:=by
  unfold OpenLaw.pre at hc
  have h4:(WTm.not (.lt (.lit (.int (n:Int))) (.len (.arg 0)))).holds [] { args:=[.list (ns.map .int)] }=true:=by
   have h4:=(holds_andW hc).1
   rw[hn] at h4
   exact h4
  have h5:=condW_of h4 (w_not (w_lt w_lit (w_len_list (w_arg rfl))))
  rw[yab] at h5
  refine Nat.le_of_not_lt fun q=>?_
  have q':(n:Int)<((ns.length:Nat):Int):=by ac_rfl
  first
   | (rw[decide_eq_true q'] at h5;exact absurd h5 (by decide))
   | (simp at h5;ac_rfl)
 cases hwl with
 | cons w1 w2 =>
  cases w2
  cases w1 with
  | list ho hall=>exact ⟨_,_,ns,rfl,rfl,ho,zjC ns _ hall,hlen⟩
theorem zpd (l:OpenLaw) (args:List WData):l.row.toRowW.claim.post args (.bool true) args=true :=
 postW_of (r:=l.row.toRowW) (X:=(true == true))
  (show WShape.has [] (.bool true) .bool=true by first | rfl | decide | simp[WShape.has,WShape.arms,WShape.armsAll])
  (show (WTm.eq .res (.lit (.bool true))).value [] { args:=args,res:=some (.bool true),after:=args }=some (.bool (true == true)) from w_eq_bool (w_res rfl) w_lit) rfl
theorem zny {l:OpenLaw} {n:Nat} {q:Program} {loose:List Str} {XP:(Str->Option Value)->Heap->Prop} {YP:World->Heap->Prop} {d:DefRec}
  (hn:l.most=some n) (hdf:d.params.defaults=[])
  (call:∀ (w:World) (s₀ s₁:Shared) (mg mb:Str->Option Value) (fa:Addr) (o:Obj) (pm cd doc:Value) (a:Addr) (vs:List Value) (ns:List Int),
   Ground q loose [] XP w s₀ mg mb s₁.heap->YP w s₁.heap ->
   s₁.heap.get? fa=some o->o.data=.func (docDef d.name d.params d.body d.scope pm cd doc)->s₁.heap.CodeRec cd d.name->mg d.name=some (.ref fa) ->
   s₁.heap.get? a=some { cls:=.type "list", data:=.seq vs.toArray }->IntsAre vs ns->ns.length<=n->s₁.gens=#[] ->
   codeAny (model l.prog w) callerA (.call (.ref fa) ⟨[.ref a],[]⟩) (fun r s'=>r=.ok (.ret (.bool true))/\OldK s₁.heap s'.heap/\s'.os=s₁.os/\AllBare s'.gens) s₁) :
  WalkO q loose XP YP l.row.toRowW d [] (fun f vs=>PySem.call f vs):=by
 intro w s₀ s₁ mg mb G Y fa o pm cd doc dV kV ho hd hcd hD hmg hg args vals as hpre hlay hrd hwl hlo
 obtain rfl:dV=.none:=Dflts.none hD hdf
 obtain rfl:kV=.none:=Dflts.noKw hD
 obtain ⟨a,vs,ns,rfl,rfl,hobj,hints,hlen⟩:=zpI hn hpre hwl
 refine enter_call (codeAny_mono (call w s₀ s₁ mg mb fa o pm cd doc a vs ns G Y ho (fd_plain hd) hcd hmg hobj hints hlen hg) fun r s' hq=>?_)
 obtain ⟨rfl,h2,h3,h4⟩:=hq
 exact ⟨.inl ⟨.bool true,.bool true,[],rfl,fun _=>rfl,.bool true,zpd l _,fun _=>⟨List.Pairwise.nil,fun _ hm=>(nomatch hm)⟩⟩,h2,h3,h4⟩
section
variable {prog:Program} {w:World} {A:Around} {E:Value->Shared->Prop} {s:Shared} {K:Frag}
noncomputable def ledger (h:Heap) (L d:Addr):List (Addr × Obj):=(yas h.objs.size).filterMap fun a=>if a=L\/a=d then none else (h.get? a).map fun o=>(a,o)
end
end Att
namespace L2
open PySem PySem.Spec PyProof.Rows
theorem zg8:∀ {vs:List Value} {ns:List Int},IntsAre vs ns->Vals (ns.map V.int) vs
 | _,_,.nil=>.nil
 | _,_,.cons n t h=>.cons ⟨t,rfl⟩ (zg8 h)
def Only (H:Hp):Prop:=∀ b,H b=none\/∃ o xs,H b=some (.frz o (.lst xs))
theorem zqa {P:Program} {w:World} {K:W.Frag} {mg mb:Str->Option Value} {CX:CXT} {k:Nat} {fa a:Addr} {fd:FuncData} {x:Str} {sp:Sp} {s₁:Shared} {vs:List Value} {ns:List Int}
  (KX:K.In s₁.heap) (hns:s₁.heap.Ns mainGlobals mg) (hb:s₁.heap.Ns builtinsNs mb) (hbb:∀ x:Str,x ≠ "__name__" -> mb x=bootBuiltins x) (hlim:s₁.heap.NoLimit) (hg:s₁.gens=#[])
  (ha:s₁.heap.get? a=some { cls:=.type "list", data:=.seq vs.toArray }) (hi:IntsAre vs ns) (hl:ns.length<=sizeLine) (hr:Room k callerA)
  (F:∀ base:Heap,K.In base->base.Ns mainGlobals mg->zcc P w K mg base CX k fa fd [x] sp) (hbind:∀ (s:Shared) (u:Value),BindsTo s fd ⟨[u],[]⟩ [(x,u)])
  (hsp:∀ H:Hp,Only H->SqL K H a (ns.map V.int)->sp [.ref a] H (fun v _=>v=.bl true) fun _ _ _=>False)
  (hCX:∀ H e s',CX [] H s₁ (fun _ _ _=>False) e s'->False) :
  codeAny (model P w) callerA (.call (.ref fa) ⟨[.ref a],[]⟩) (fun r s'=>r=.ok (.ret (.bool true))/\OldK s₁.heap s'.heap/\s'.os=s₁.os/\AllBare s'.gens) s₁:=by
 have rv:=zg8 hi
 have lenV:=hi.length
 have core:∀ H:Hp,Only H->SqL K H a (ns.map V.int)->HOk P w H s₁.heap->(∀ b,H b≠none->b=a)->(H a≠none->K.lookup a=none) ->
   codeAny (model P w) callerA (.call (.ref fa) ⟨[.ref a],[]⟩) (fun r s'=>r=.ok (.ret (.bool true))/\OldK s₁.heap s'.heap/\s'.os=s₁.os/\AllBare s'.gens) s₁:=by
  intro H hO hS hok hA hK
  have base_of:∀ {b:Addr} {o:Obj},s₁.heap.get? b=some o->H b=none->(zgA s₁.heap H).get? b=some o:=fun e n=>zqb e n
  have noA:∀ {b:Addr} {o:Obj} {es:Array DictEntry} {ep:Nat},s₁.heap.get? b=some o->o.data=.dict es ep->H b=none:=fun {b o es ep} e d=>by
   cases q:H b with
   | none=>rfl
   | some u =>
    have e':b=a:=hA b (by rw[q];simp)
    subst e'
    rw[ha] at e;cases e
    have d':Data.seq vs.toArray _=Data.dict es ep:=d
    cases d'
  have nsK:∀ {b:Addr} {m:Str->Option Value},s₁.heap.Ns b m->(zgA s₁.heap H).Ns b m:=fun {b m} ⟨o,es,ep,e,d,r⟩=>⟨o,es,ep,base_of e (noA e d),d,r⟩
  have hKb:K.In (zgA s₁.heap H):=fun b o e=>base_of (KX b o e) (by
   cases q:H b with
   | none=>rfl
   | some u =>
    have e':b=a:=hA b (by rw[q];simp)
    subst e'
    rw[hK (by rw[q];simp)] at e;cases e)
  have hM:Mod K mg (zgA s₁.heap H):=⟨hKb,nsK hns,⟨mb,nsK hb,hbb⟩,let ⟨mc,h1,h2⟩:=hlim;⟨mc,nsK h1,h2⟩⟩
  have e0:ziU P w K mg (zgA s₁.heap H) callerA [] s₁ H:=⟨rfl,hM,fun b o e=>zrq e,Nat.le_of_eq (zpi _ _),trivial,fun b hb=>absurd (show b∈([]:List Addr) from hb) (by simp),hok,.of_eq hg⟩
  refine codeAny_mono ((F _ hKb (nsK hns)).run callerA [] s₁ H ⟨[.ref a],[]⟩ [.ref a] [.ref a] _ _ hr e0 (hbind s₁ (.ref a)) (.cons rfl .nil) (hsp H hO hS)) fun r s' h=>?_
  cases r with
  | error e=>exact (hCX H e s' h).elim
  | ok fl =>
   cases fl with
   | next=>exact False.elim h
   | brk=>exact False.elim h
   | cont=>exact False.elim h
   | ret u =>
    obtain ⟨v,H',os,bare,un,hok',r',q⟩:=h
    have q':v=.bl true:=q
    subst q'
    obtain rfl:u=Value.bool true:=r'
    refine ⟨rfl,OldK.of_keep fun b o e=>?_,os,bare⟩
    cases q:H b with
    | none=>exact un.keep b o e q (by intro z;exact absurd (show b∈([]:List Addr) from z) (by simp)) (by simp)
    | some u =>
     rcases hO b with z | ⟨ob,xs,z⟩
     ·rw[q] at z;cases z
     ·have z2:=un.frzs b ob _ z
      obtain ⟨e1,_⟩:=hok b _ z
      obtain ⟨e2,_⟩:=hok' b _ z2
      rw[e] at e1;cases e1
      exact e2
 cases hk:K.lookup a with
 | some o =>
  have e:=KX a o hk
  rw[ha] at e
  cases e
  refine core (fun _=>none) (fun _=>.inl rfl) (.inr ⟨_,vs.toArray,_,hk,rfl,rfl,rfl,by rw[yao,lenV];exact hl,by simpa using rv⟩) (fun b u z=>by have z':(none:Option HO)=some u:=z;cases z') (fun b z=>absurd rfl z) fun z=>absurd rfl z
 | none =>
  refine core (fun b=>if b=a then some (.frz { cls:=.type "list", data:=.seq vs.toArray } (.lst (ns.map V.int))) else none) (fun b=>?_) (.inl (.inr ⟨{ cls:=.type "list", data:=.seq vs.toArray },if_pos rfl⟩)) (fun b u z=>?_) (fun b z=>?_) fun _=>hk
  ·by_cases hb:b=a
   ·exact .inr ⟨_,_,if_pos hb⟩
   ·exact .inl (if_neg hb)
  ·by_cases hb:b=a
   ·have z':=(if_pos hb).symm.trans z
    cases z'
    subst hb
    exact ⟨ha,by rw[yab];exact hl,vs,_,rv,ha⟩
   ·have z':=(if_neg hb).symm.trans z
    cases z'
  ·by_cases hb:b=a
   ·exact hb
   ·exact absurd (if_neg hb) z
theorem zr5 {l:PySem.W.OpenLaw} {n k:Nat} {q:Program} {loose:List Str} {XP:(Str->Option Value)->Heap->Prop} {YP:World->Heap->Prop} {d:DefRec} {K:Params->W.Frag} {CX:World->CXT} {sp:World->Sp} {x:Str}
  (hn:l.most=some n) (hn2:n<=sizeLine) (hdf:d.params.defaults=[]) (hr:Room k callerA)
  (hY:∀ (w:World) (h:Heap),YP w h->(K w.params).In h)
  (F:∀ (w:World) (mg:Str->Option Value) (fa:Addr) (h:Heap),(K w.params).In h->h.Ns mainGlobals mg->mg d.name=some (.ref fa) ->
   ∃ fd:FuncData,(∀ (s:Shared) (u:Value),BindsTo s fd ⟨[u],[]⟩ [(x,u)]) /\
    ∀ base:Heap,(K w.params).In base->base.Ns mainGlobals mg->zcc l.prog w (K w.params) mg base (CX w) k fa fd [x] (sp w))
  (hsp:∀ (w:World) (H:Hp) (a:Addr) (ns:List Int),ns.length<=n->Only H->SqL (K w.params) H a (ns.map V.int)->sp w [.ref a] H (fun v _=>v=.bl true) fun _ _ _=>False)
  (hCX:∀ (w:World) (H:Hp) (s:Shared) (e:Value) (s':Shared),CX w [] H s (fun _ _ _=>False) e s'->False) :
  PySem.W.WalkO q loose XP YP l.row.toRowW d [] (fun f vs=>PySem.call f vs):=by
 refine Att.zny hn hdf fun w s₀ s₁ mg mb fa o pm cd doc a vs ns G Y ho hd hcd hmg hobj hints hlen hg=>?_
 have KX:=hY w _ Y
 obtain ⟨fd,hb,hF⟩:=F w mg fa _ KX G.T.g hmg
 exact zqa KX G.T.g G.T.b G.T.builtins G.T.nolimit hg hobj hints (yde hlen hn2) hr hF hb (fun H hO hS=>hsp w H a ns hlen hO hS) fun H e s'=>hCX w H s₁ e s'
noncomputable def inClass (s:Stmt) (j:Nat):Stmt:=match s with
 | .ClassDef _ _ _ body _ _ _ _ _ _ _=>body.getD j (.Pass ⟨0,0,0,0⟩)
 | _=>.Pass ⟨0,0,0,0⟩
noncomputable def zb6 (s:Stmt):Arguments:=match s with
 | .FunctionDef _ a _ _ _ _ _ _ _ _=>a
 | _=>{ posonlyargs:=[],args:=[],vararg:=none,kwonlyargs:=[],kw_defaults:=[],kwarg:=none,defaults:=[] }
noncomputable def zaF (s:Stmt):List Stmt:=match s with
 | .FunctionDef _ _ b _ _ _ _ _ _ _=>b
 | _=>[]
noncomputable def zj (s:Stmt):Scope:=match s with
 | .FunctionDef _ _ _ _ _ _ sc _ _ _=>sc
 | _=>{ kind:=.function,names:=[],isGenerator:=false,isCoroutine:=false }
noncomputable abbrev CX0:CXT:=fun _ _ _ _ _ _=>False
noncomputable abbrev E0:XK:=fun _ _ _=>False
theorem zhW {X:Cx}:Passes CX0 X E0:=fun _ _ _ _ _ _ _ h=>h.elim
structure Fun (K:W.Frag) (x qual:Str) (st:Stmt) (f:Addr) (fd:FuncData):Prop where
 ex:∃ (oc:Value) (od:Option Addr) (kV doc pm:Value) (an:Option Addr) (cdv ct:Value) (osl:Array (Option Value)),
  fd=PySem.W.fnOf x qual (zb6 st) (zaF st) (zj st) .none kV doc pm an cdv ct/\K.lookup f=some ⟨oc,od,.func fd,osl⟩/\PySem.W.codeIn K cdv qual=true
 kp:PySem.W.keepIn K (.ref f)=true
section
variable {P:Program} {w:World} {K:W.Frag} {mg:Str->Option Value} {base:Heap}
theorem Fun.ok {x qual:Str} {st:Stmt} {f:Addr} {fd:FuncData} {N ps:List Str} {k:Nat} {sp:Sp} (F:Fun K x qual st f fd) (S:zo N ps (zj st)) (len:∀ vs H Q E,sp vs H Q E->vs.length=ps.length)
  (hbody:∀ (cdv:Value) (A:Around) (outer:List Env) (s:Shared) (H:Hp) (vs:List V) (Q:VK) (E:XK),Room k (A.deeper (envOfC qual (zj st) s.heap.objs.size f cdv))->sp vs H Q E ->
   ∃ t,PSs (zfF CX0 P w K mg base N qual (zj st) f cdv A outer s H E).nox (zaF st) t/\t { nx:=fun _ H'=>Q .non H',rt:=Q } (start N vs) H):zcc P w K mg base CX0 (k+1) f fd ps sp:=by
 obtain ⟨oc,od,kV,doc,pm,an,cdv,ct,osl,rfl,lk,hcd⟩:=F.ex
 refine zs8 lk hcd S len fun A outer s H vs Q E hr hsp=>?_
 obtain ⟨t,h,q⟩:=hbody cdv A outer s H vs Q E hr hsp
 exact ⟨t,h.nox,q⟩
theorem zlS {x qual:Str} {st:Stmt} {f:Addr} {oc:Value} {od an:Option Addr} {osl:Array (Option Value)} {kV doc pm cdv ct:Value} (l:K.lookup f=some ⟨oc,od,.func (PySem.W.fnOf x qual (zb6 st) (zaF st) (zj st) .none kV doc pm an cdv ct),osl⟩)
  (c:PySem.W.codeIn K cdv qual=true) (k:PySem.W.keepIn K (.ref f)=true):Fun K x qual st f (PySem.W.fnOf x qual (zb6 st) (zaF st) (zj st) .none kV doc pm an cdv ct):=⟨⟨oc,od,kV,doc,pm,an,cdv,ct,osl,rfl,l,c⟩,k⟩
end
section
variable {X:Cx}
theorem pv (i:Nat) {x:Str} {pos:Pos} (hN:X.N[i]?=some x:=by rfl) (hv:Vis X.env.scope x:=by first | exact Or.inl rfl | exact Or.inr (Or.inl rfl) | exact Or.inr (Or.inr rfl)) (hd:(x == ("__debug__" : Str))=false:=by decide)
  (hcd:(x == ("__classdict__" : Str))=false:=by decide):PE X (.Name x pos) (zst i):=zsh hN hv hd hcd
end
theorem zsS {A B:Prop} (h:B):if false=true then A else B:=by
 rw[if_neg Bool.false_ne_true]
 exact h
theorem zsA {A B:Prop} (h:A):if true=true then A else B:=by
 rw[if_pos rfl]
 exact h
def Same (H H':Hp):Prop:=∀ b o,H b=some o->H' b=some o
theorem Same.refl (H:Hp):Same H H:=fun _ _ h=>h
theorem Same.trans {H H1 H2:Hp} (a:Same H H1) (b:Same H1 H2):Same H H2:=fun c o h=>b c o (a c o h)
theorem Same.seq {K:W.Frag} {H H':Hp} {a:Addr} {xs:List V} (e:Same H H') (h:SqL K H a xs):SqL K H' a xs:=by
 rcases h with (h | ⟨o,h⟩) | h
 ·exact .inl (.inl (e _ _ h))
 ·exact .inl (.inr ⟨o,e _ _ h⟩)
 ·exact .inr h
theorem zai.swap {P:Program} {w:World} {H H':Hp} {h h':Heap} {a:Addr} {o:HO} (x:zai P w H h a o) (y:zai P w H' h' a o):zai P w H h' a o:=by
 induction o with
 | ins C dx fs=>exact ⟨x.1,y.2⟩
 | frz ob u ih=>exact ⟨y.1,ih x.2 y.2⟩
 | _=>exact y
theorem HOk.forget {P:Program} {w:World} {H H':Hp} {h h':Heap} (a:HOk P w H h) (b:HOk P w H' h') (s:Same H H'):HOk P w H h':=fun x o e=>(a x o e).swap (b x o (s x o e))
theorem Un.forget {fs ex:List Addr} {H H':Hp} {h h':Heap} (u:Un fs ex H H' h h'):Un fs ex H H h h' :=
 ⟨u.keep,u.slot,fun _ _ _ n _=>n,u.there,fun _ _ q=>q,fun _ _ _ q=>q,fun b ps q=>⟨#[],by rw[q];simp⟩⟩
theorem zcc.forget {P:Program} {w:World} {K:W.Frag} {mg:Str->Option Value} {base:Heap} {CX:CXT} {k:Nat} {f:Addr} {fd:FuncData} {ps:List Str} {sp sp':Sp} (F:zcc P w K mg base CX k f fd ps sp)
  (h:∀ vs H Q E,sp' vs H Q E->sp vs H (fun v H'=>Same H H'/\Q v H) E):zcc P w K mg base CX k f fd ps sp' where
 len:=fun vs H Q E q=>F.len _ _ _ _ (h _ _ _ _ q)
 run:=fun A outer s H args us vs Q E hr e0 hb hv hs=>by
  refine codeAny_mono (F.run A outer s H args us vs _ E hr e0 hb hv (h _ _ _ _ hs)) fun r s' q=>?_
  cases r with
  | error e=>exact q
  | ok fl =>
   cases fl with
   | ret u =>
    obtain ⟨v,H',os,bare,un,hok,rv,sm,qv⟩:=q
    exact ⟨v,H,os,bare,un.forget,e0.hok.forget hok sm,rv,qv⟩
   | next=>exact q
   | brk=>exact q
   | cont=>exact q
structure Src (K:W.Frag) (mg:Str->Option Value) (x:Str) (st:Stmt) (ps:List Str):Prop where
 ex:∃ (f:Addr) (fd:FuncData),Fun K x x st f fd/\mg x=some (.ref f)/\∀ us:List Value,us.length=ps.length->bindArgs fd ⟨us,[]⟩=pure (ps.zip us)
structure Def (P:Program) (w:World) (K:W.Frag) (mg:Str->Option Value) (base:Heap) (k:Nat) (x:Str) (ps:List Str) (sp:Sp):Prop where
 ex:∃ (f:Addr) (fd:FuncData),zcc P w K mg base CX0 k f fd ps sp/\mg x=some (.ref f)/\PySem.W.keepIn K (.ref f)=true/\(∀ us:List Value,us.length=ps.length->bindArgs fd ⟨us,[]⟩=pure (ps.zip us)) /\
  ∃ o,K.lookup f=some o/\o.data=.func fd
section
variable {P:Program} {w:World} {K:W.Frag} {mg:Str->Option Value} {base:Heap} {x:Str} {st:Stmt} {N ps:List Str} {k:Nat} {sp:Sp}
theorem Src.ok (S:Src K mg x st ps) (sc:zo N ps (zj st)) (len:∀ vs H Q E,sp vs H Q E->vs.length=ps.length)
  (hbody:∀ (f:Addr) (cdv:Value) (A:Around) (outer:List Env) (s:Shared) (H:Hp) (vs:List V) (Q:VK) (E:XK),Room k (A.deeper (envOfC x (zj st) s.heap.objs.size f cdv))->sp vs H Q E ->
   ∃ t,PSs (zfF CX0 P w K mg base N x (zj st) f cdv A outer s H E).nox (zaF st) t/\t { nx:=fun _ H'=>Q .non H',rt:=Q } (start N vs) H):Def P w K mg base (k+1) x ps sp:=by
 obtain ⟨f,fd,F,hm,hb⟩:=S.ex
 refine ⟨f,fd,F.ok sc len (fun cdv=>hbody f cdv),hm,F.kp,hb,?_⟩
 obtain ⟨oc,od,kV,doc,pm,an,cdv,ct,osl,e,lk,hcd⟩:=F.ex
 exact ⟨_,lk,rfl⟩
theorem Src.okF (S:Src K mg x st ps) (sc:zo N ps (zj st)) (len:∀ vs H Q E,sp vs H Q E->vs.length=ps.length)
  (hbody:∀ (f:Addr) (cdv:Value) (A:Around) (outer:List Env) (s:Shared) (H:Hp) (vs:List V) (Q:VK) (E:XK),Room k (A.deeper (envOfC x (zj st) s.heap.objs.size f cdv))->sp vs H Q E ->
   ∃ t,PSs (zfF CX0 P w K mg base N x (zj st) f cdv A outer s H E).nox (zaF st) t/\t { nx:=fun _ H'=>Same H H'/\Q .non H,rt:=fun v H'=>Same H H'/\Q v H } (start N vs) H):Def P w K mg base (k+1) x ps sp:=by
 obtain ⟨f,fd,F,hm,hb⟩:=S.ex
 have G:zcc P w K mg base CX0 (k+1) f fd ps (fun vs H R E=>∃ Q,sp vs H Q E/\R=fun v H'=>Same H H'/\Q v H) :=
  F.ok sc (fun vs H R E ⟨Q,h,_⟩=>len vs H Q E h) fun cdv A outer s H vs R E hr ⟨Q,h,e⟩=>by
   subst e
   exact hbody f cdv A outer s H vs Q E hr h
 refine ⟨f,fd,G.forget fun vs H Q E h=>⟨Q,h,rfl⟩,hm,F.kp,hb,?_⟩
 obtain ⟨oc,od,kV,doc,pm,an,cdv,ct,osl,e,lk,hcd⟩:=F.ex
 exact ⟨_,lk,rfl⟩
theorem zF {h:Heap} {f:Addr} {oc:Value} {od an:Option Addr} {osl:Array (Option Value)} {kV doc pm cdv ct:Value} (X:K.In h) (G:h.Ns mainGlobals mg) (a:PySem.W.nsIn K mainGlobals x=some (some (.ref f)))
  (l:K.lookup f=some ⟨oc,od,.func (PySem.W.fnOf x x (zb6 st) (zaF st) (zj st) .none kV doc pm an cdv ct),osl⟩) (c:PySem.W.codeIn K cdv x=true) (k:PySem.W.keepIn K (.ref f)=true)
  (hb:∀ us:List Value,us.length=ps.length->bindArgs (PySem.W.fnOf x x (zb6 st) (zaF st) (zj st) .none kV doc pm an cdv ct) ⟨us,[]⟩=pure (ps.zip us)):Src K mg x st ps :=
 ⟨f,_,zlS l c k,PySem.W.mg_of X G a,hb⟩
theorem zh1 {h:Heap} {i:Int} {t:Tok} (X:K.In h) (G:h.Ns mainGlobals mg) (a:PySem.W.nsIn K mainGlobals x=some (some (.int i t))):∃ t,mg x=some (.int i t):=⟨t,PySem.W.mg_of X G a⟩
theorem zr6 {h:Heap} {p:Addr} {od:Option Addr} {its:Array Value} {n:Nat} {sl:Array (Option Value)} {xs:List V} (X:K.In h) (G:h.Ns mainGlobals mg) (a:PySem.W.nsIn K mainGlobals x=some (some (.ref p)))
  (l:K.lookup p=some ⟨.type "tuple", od,.seq its n,sl⟩) (r:Vals xs its.toList) (z:its.size<=sizeLine):∃ a,mg x=some (.ref a)/\∀ H,SqT K H a xs :=
 ⟨p,PySem.W.mg_of X G a,fun H=>.inr ⟨_,its,n,l,rfl,rfl,z,r⟩⟩
end
theorem zqF {l:PySem.W.OpenLaw} {lv:Nat} {q:Program} {loose:List Str} {XP:(Str->Option Value)->Heap->Prop} {YP:World->Heap->Prop} {d:DefRec} {K:Params->W.Frag} {sp:W.Frag->Sp} {x:Str} {st:Stmt}
  (hn:l.most=some 63) (hdf:d.params.defaults=[]) (hnm:d.name = "law") (hr:Room lv callerA)
  (hY:∀ (w:World) (h:Heap),YP w h->(K w.params).In h)
  (F:∀ (w:World) (mg:Str->Option Value) (h:Heap),(K w.params).In h->h.Ns mainGlobals mg ->
   Src (K w.params) mg "law" st [x]/\∀ base:Heap,Def l.prog w (K w.params) mg base lv "law" [x] (sp (K w.params)))
  (hsp:∀ (K:W.Frag) (H:Hp) (a:Addr) (ns:List Int),ns.length<=63->SqL K H a (ns.map V.int)->sp K [.ref a] H (fun v _=>v=.bl true) fun _ _ _=>False) :
  PySem.W.WalkO q loose XP YP l.row.toRowW d [] (fun f vs=>PySem.call f vs):=by
 refine L2.zr5 (n:=63) (k:=lv) (x:=x) (CX:=fun _=>CX0) (sp:=fun w=>sp (K w.params)) hn (by decide) hdf hr hY ?_ (fun w H a ns h1 h2 h3=>hsp (K w.params) H a ns h1 h3) fun _ _ _ _ _ z=>z
 intro w mg fa h KX G hmg
 obtain ⟨S,D⟩:=F w mg h KX G
 obtain ⟨f,fd,Fn,hm,hb⟩:=S.ex
 obtain ⟨oc,od,kV,doc,pm,an,cdv,ct,osl,e,lk,hcd⟩:=Fn.ex
 refine ⟨fd,fun s u=>.of_eq (hb [u] rfl),fun base _ _=>?_⟩
 obtain ⟨f',fd',ok,hm',_,_,o,lk',ho⟩:=(D base).ex
 rw[hnm,hm] at hmg
 rw[hm] at hm'
 cases hmg
 cases hm'
 rw[lk] at lk'
 cases lk'
 cases ho
 exact ok
section
variable {X:Cx} {x:Str} {p pos:Pos} {e:Expr} {es:List Expr} {t:TA} {j k:Nat} {ps:List Str} {sp:Sp}
theorem zp (D:Def X.prog X.w X.K X.mg X.base j x ps sp) (hr:Room k X.A) (ha:PA X (e::es) t) (hg:Gl X x:=by rfl) (hj:j<=k:=by decide) (hdb:(x == ("__debug__" : Str))=false:=by decide)
  (he:starEach (e::es) X.env=(false,eval e X.env)::starEach es X.env:=by rfl) (hpl:(backTo pos (starEach es X.env)).any (·.1)=false:=by rfl) :
  PE X (.Call (.Name x p) (e::es) [] pos) (zow sp [] E0 t):=by
 obtain ⟨f,fd,F,hm,hk,hb,_⟩:=D.ex
 exact zrK F (hr.mono hj) hg hm hk (.all hb) .nil zhW ha hdb he hpl
theorem zeA {i:Int} (h:∃ t,X.mg x=some (.int i t)) (hg:Gl X x:=by rfl) (hd:(x == ("__debug__" : Str))=false:=by decide):PE X (.Name x pos) (tC (.int i)):=by
 obtain ⟨t,h⟩:=h
 exact zez hg h ⟨t,rfl⟩ hd
def tGT (K:W.Frag) (xs:List V):TE:=fun _ H Q=>∀ a,(∀ H,SqT K H a xs)->Q (.ref a) H
theorem zrz {xs:List V} (h:∃ a,X.mg x=some (.ref a)/\∀ H,SqT X.K H a xs) (hg:Gl X x:=by rfl) (hd:(x == ("__debug__" : Str))=false:=by decide):PE X (.Name x pos) (tGT X.K xs):=by
 obtain ⟨a,h,hs⟩:=h
 intro pins s σ H Q I hq
 exact zez (v:=.ref a) hg h rfl hd pins s σ H Q I (hq a hs)
theorem zfT:zbc X (.builtin "isinstance") (fun xs H Q=>∃ x t n b,xs=[x,.ty n]/\zbU X.K H x t/\PySem.W.kitOne X.K t (.type n)=some b/\Q (.bl b) H):=by
 intro pins s σ H xs us Q I r h
 obtain ⟨x,t,n,b,rfl,ty,e,q⟩:=h
 obtain ⟨u,w',rfl,rx,rn⟩:=vals2 r
 cases rn
 exact zkw I rx ty e fun tk=>⟨.bl b,H,I.tok tk,rfl,q⟩
end
theorem ifI {a b:Int} {A B:Prop} (h1:a=b->A) (h2:¬ a=b->B):if decide (V.int a=V.int b)=true then A else B:=by
 by_cases h:a=b
 ·rw[if_pos (by rw[h];simp)];exact h1 h
 ·rw[if_neg (by simpa using h)];exact h2 h
theorem ztV {a b:Int} {A B:Prop} (h1:¬ a=b->A) (h2:a=b->B):if (!decide (V.int a=V.int b))=true then A else B:=by
 by_cases h:a=b
 ·rw[if_neg (by rw[h];simp)];exact h2 h
 ·rw[if_pos (by simpa using h)];exact h1 h
theorem ifD {p A B:Prop} [Decidable p] (h1:p->A) (h2:¬ p->B):if decide p=true then A else B:=by
 by_cases h:p
 ·rw[if_pos (by simpa using h)];exact h1 h
 ·rw[if_neg (by simpa using h)];exact h2 h
theorem ifB {c:Bool} {A B:Prop} (h1:c=true->A) (h2:c=false->B):if c=true then A else B:=by
 cases c with
 | true=>rw[if_pos rfl];exact h1 rfl
 | false=>rw[if_neg Bool.false_ne_true];exact h2 rfl
theorem dI {a b:Int}:decide (V.int a=V.int b)=decide (a=b):=by
 by_cases h:a=b <;> simp[h]
theorem znU {ns:List Int} {k:Int} (h0:0<=k) (h:k<(ns.length:Int)):atI (ns.map V.int) k=some (.int (ns.getD k.toNat 0)):=by
 have hk:k.toNat<ns.length:=by ac_rfl
 have q:atI (ns.map V.int) ((k.toNat:Nat):Int)=some (.int (ns.getD k.toNat 0)):=zbJ (by rw[yak,yaa hk,yae,yaa hk] <;> rfl)
 rw[show ((k.toNat:Nat):Int)=k by ac_rfl] at q
 exact q
def ztJ (t:TS):TS:=fun D σ H=>∃ Mid:St->Hp->Prop,t { D with nx:=Mid } σ H/\∀ σ' H',Mid σ' H'->D.nx σ' H'
theorem zcl {X:Cx} {st:Stmt} {t:TS} (h:PS X st t):PS X st (ztJ t):=by
 intro pins s σ H D I ⟨Mid,hq,hm⟩
 refine thn (h pins s σ H _ I hq) fun f s' q=>?_
 cases f with
 | next =>
  obtain ⟨σ',H',I',q⟩:=q
  exact ⟨σ',H',I',hm σ' H' q⟩
 | ret v=>exact q
 | brk=>exact q
 | cont=>exact q
theorem ty_int {K:W.Frag} {H:Hp} {x:V} (h:zbU K H x (.type "int")):∃ i,x=.int i:=by
 generalize e:Value.type "int" = t at h
 cases h with
 | int i=>exact ⟨i,rfl⟩
 | ins=>cases e
 | _=>injection e with e;exact absurd e (by decide)
theorem zjh {K:W.Frag} {H:Hp} {i:Int} {T:String} (h:zbU K H (.int i) (.type T)):T = "int" := by
 cases h
 rfl
theorem noE {α:Type} {M:Model} {A:Around} {s:Shared} {t:Sem α} {Q:α->Shared->Prop} {E:Value->Shared->Prop} (h:wpAny M A t Q (fun _ _=>False) s):wpAny M A t Q E s:=wpAny_mono h (fun _ _ q=>q) fun _ _ z=>z.elim
section
variable {prog:Program} {w:World} {A:Around} {R:Result->Shared->Prop} {s:Shared}
theorem zpv {elt target iter:Expr} {scope:Scope} {pos:Pos} {it acc:Value} {env:Env} (I:Nat->Shared->Prop)
  (turn:∀ n s,I n s->wpAny (model prog w) A (pyNext it) (fun r s₁=>match r with
   | none=>R (.ok .next) s₁
   | some v=>wpAny (model prog w) A (letOwnedTupleGo target it v) (fun _ s₂=>wpAny (model prog w) A (assign target env v) (fun _ s₃=>wpAny (model prog w) A (eval elt env) (fun y s₄ =>
     wpAny (model prog w) A (call (.builtin "list.append") [acc,y]) (fun _ s₅=>∃ m,m<n/\I m s₅) (fun _ _=>False) s₄) (fun _ _=>False) s₃) (fun _ _=>False) s₂) (fun _ _=>False) s₁) (fun _ _=>False) s)
  (n:Nat) (h:I n s):codeAny (model prog w) A (.compLoop (.ListComp elt [⟨target,iter,[],0⟩] scope pos) 0 it acc env) R s:=by
 refine codeAny_loop rfl I (fun n s hI=>?_) n h
 show wpAny _ _ (Sem.onRaise (compTurn (.ListComp elt [⟨target,iter,[],0⟩] scope pos) 0 it acc env) _) _ _ s
 refine wpAny_noted (noE ?_)
 rw[compTurn_list1]
 refine wpAny_bind (wpAny_standAt (wpAny_bind (wpAny_mono (turn n s hI) (fun r s₁ h₁=>?_) fun _ _ z=>z)))
 cases r with
 | none=>exact wpAny_pure h₁
 | some v =>
  refine wpAny_bind (wpAny_mono h₁ (fun _ s₂ h₂=>?_) fun _ _ z=>z)
  refine wpAny_bind (wpAny_mono h₂ (fun _ s₃ h₃=>?_) fun _ _ z=>z)
  refine wpAny_bind (wpAny_bind (wpAny_mono h₃ (fun y s₄ h₄=>?_) fun _ _ z=>z))
  refine wpAny_bind (wpAny_mono h₄ (fun _ s₅ h₅=>?_) fun _ _ z=>z)
  exact wpAny_pure (wpAny_pure ⟨rfl,h₅⟩)
theorem zmQ {elt target iter c:Expr} {scope:Scope} {pos:Pos} {it acc:Value} {env:Env} (I:Nat->Shared->Prop)
  (turn:∀ n s,I n s->wpAny (model prog w) A (pyNext it) (fun r s₁=>match r with
   | none=>R (.ok .next) s₁
   | some v=>wpAny (model prog w) A (letOwnedTupleGo target it v) (fun _ s₂=>wpAny (model prog w) A (assign target env v) (fun _ s₃=>wpAny (model prog w) A (isTrue c env (eval c env)) (fun b s₄ =>
     if b=true then wpAny (model prog w) A (eval elt env) (fun y s₅ =>
      wpAny (model prog w) A (call (.builtin "list.append") [acc,y]) (fun _ s₆=>∃ m,m<n/\I m s₆) (fun _ _=>False) s₅) (fun _ _=>False) s₄
     else ∃ m,m<n/\I m s₄) (fun _ _=>False) s₃) (fun _ _=>False) s₂) (fun _ _=>False) s₁) (fun _ _=>False) s)
  (n:Nat) (h:I n s):codeAny (model prog w) A (.compLoop (.ListComp elt [⟨target,iter,[c],0⟩] scope pos) 0 it acc env) R s:=by
 refine codeAny_loop rfl I (fun n s hI=>?_) n h
 show wpAny _ _ (Sem.onRaise (compTurn (.ListComp elt [⟨target,iter,[c],0⟩] scope pos) 0 it acc env) _) _ _ s
 refine wpAny_noted (noE ?_)
 rw[compTurn_list]
 refine wpAny_bind (wpAny_standAt (wpAny_bind (wpAny_mono (turn n s hI) (fun r s₁ h₁=>?_) fun _ _ z=>z)))
 cases r with
 | none=>exact wpAny_pure h₁
 | some v =>
  refine wpAny_bind (wpAny_mono h₁ (fun _ s₂ h₂=>?_) fun _ _ z=>z)
  refine wpAny_bind (wpAny_mono h₂ (fun _ s₃ h₃=>?_) fun _ _ z=>z)
  simp only[yca,List.forIn_nil,if_true,bind_assoc,pure_bind]
  refine wpAny_bind (wpAny_mono h₃ (fun b s₄ h₄=>?_) fun _ _ z=>z)
  cases b with
  | true =>
   simp only[if_true] at h₄ ⊢
   refine wpAny_bind (wpAny_mono h₄ (fun y s₅ h₅=>?_) fun _ _ z=>z)
   refine wpAny_bind (wpAny_mono h₅ (fun _ s₆ h₆=>?_) fun _ _ z=>z)
   exact wpAny_pure ⟨rfl,h₆⟩
  | false =>
   simp only[Bool.false_eq_true,if_false] at h₄ ⊢
   exact wpAny_pure ⟨rfl,h₄⟩
end
noncomputable def zcV (sc:Scope) (env:Env):List (Str × Addr):=(sc.names.filterMap fun p=>if p.2 == .free then (env.cells.lookup p.1).map fun c=>(p.1,c) else none).reverse
structure Blk where
 C:Addr
 s:Shared
 H:Hp
 pn:List (Addr × Obj)
 ex:List Addr
noncomputable def Cx.block (X:Cx) (sc:Scope) (x:Str) (ix:List Nat) (b:Blk):Cx where
 prog:=X.prog
 w:=X.w
 K:=X.K
 mg:=X.mg
 base:=X.base
 A:=X.A
 N:=x::ix.map fun i=>X.N.getD i x
 s₀:=b.s
 H₀:=b.H
 env:=compEnvC sc (zcV sc X.env) b.C X.env
 outer:=X.stack
 stack:=X.stack
 ex:=b.ex
 fn:=fun _=>false
 calm:=X.calm
 pn:=b.pn
 xe:=fun _ _=>False
noncomputable def capts (σ:St) (ix:List Nat):St:=ix.map fun i=>σ.getD i none
def zrh (X:Cx) (sc:Scope) (x:Str) (i:Nat):Prop :=
 (X.env.kindOf (X.N.getD i x)=some .cell\/X.env.kindOf (X.N.getD i x)=some .free)/\((relabel sc X.env).names.lookup (X.N.getD i x)=some .cell\/(relabel sc X.env).names.lookup (X.N.getD i x)=some .free) /\
  (zcV sc X.env).lookup (X.N.getD i x)=X.env.cells.lookup (X.N.getD i x)
noncomputable def zhg (X:Cx) (sc:Scope) (x:Str):List Nat->Prop
 | []=>True
 | i::r=>zrh X sc x i/\zhg X sc x r
theorem zhg.get {X:Cx} {sc:Scope} {x:Str}:∀ {ix:List Nat},zhg X sc x ix->∀ i∈ix,zrh X sc x i
 | [],_,_,h=>nomatch h
 | _::_,h,_,hi=>(yal.mp hi).elim (fun e=>e ▸ h.1) fun z=>zhg.get h.2 _ z
noncomputable def zjw (cells:List (Str × Addr)):List (Str × Addr)->Prop
 | []=>True
 | p::r=>cells.lookup p.1=some p.2/\zjw cells r
theorem zjw.get {cells:List (Str × Addr)}:∀ {cl:List (Str × Addr)},zjw cells cl->∀ y c,cl.lookup y=some c->cells.lookup y=some c
 | [],_,_,_,h=>by simp at h
 | p::r,h,y,c,e=>by
  rw[List.lookup_cons] at e
  cases q:y == p.1 with
  | true =>
   rw[q] at e
   have e1:p.2=c:=Option.some.inj e
   rw[eq_of_beq q,<-e1]
   exact h.1
  | false =>
   rw[q] at e
   exact zjw.get h.2 y c e
noncomputable def zjq (cl:List (Str × Addr)):List (Str × NameKind)->Prop
 | []=>True
 | p::r=>(p.2=.cell\/p.2=.free->∃ c,cl.lookup p.1=some c)/\zjq cl r
theorem zjq.get {cl:List (Str × Addr)}:∀ {ns:List (Str × NameKind)},zjq cl ns->∀ p∈ns,p.2=.cell\/p.2=.free->∃ c,cl.lookup p.1=some c
 | [],_,_,h=>nomatch h
 | _::_,h,_,hp=>(yal.mp hp).elim (fun e=>e ▸ h.1) fun z=>zjq.get h.2 _ z
structure zdT (X:Cx) (sc:Scope) (x:Str) (ix:List Nat):Prop where
 clos:closureFor sc X.env=pure (zcV sc X.env)
 cell:∀ y∈sc.names,y.2≠.cell
 kind:sc.kind=.function
 names:∀ y∈sc.names,y.2=.local->sc.names.lookup y.1=some .local
 var:sc.names.lookup x=some .local
 nd:(x::ix.map fun i=>X.N.getD i x).Nodup
 cap:zhg X sc x ix
 sub:zjw X.env.cells (zcV sc X.env)
 has:zjq (zcV sc X.env) (relabel sc X.env).names
section
variable {X:Cx} {pins:List (Addr × Obj)} {σ:St} {H:Hp} {s:Shared} {sc:Scope} {x:Str} {ix:List Nat} {fp:List Addr}
theorem zqw (I:Inv X pins σ H s) (O:zdT X sc x ix) (hf:∀ b∈fp,zbZ X pins H b) (hx:∀ b∈fp,∃ o,s.heap.get? b=some o):(X.block sc x ix ⟨s.heap.objs.size,s,H,X.pn++pins,fp⟩).Ok where
 mod:=I.ok.mod
 kind:=O.kind
 glob:=I.ok.glob
 blt:=I.ok.blt
 above:=ycz _
 inj:=fun y z c h1 h2=>I.ok.inj y z c (O.sub.get y c h1) (O.sub.get z c h2)
 has:=fun y h=>by
  have h':(relabel sc X.env).names.lookup y=some .cell\/(relabel sc X.env).names.lookup y=some .free:=h
  rcases h' with h' | h'
  ·exact O.has.get _ (PySem.mem_of_lookup h') (.inl rfl)
  ·exact O.has.get _ (PySem.mem_of_lookup h') (.inr rfl)
 cab:=fun _ _ h=>absurd (show false=true from h) Bool.false_ne_true
 hd:=I.ok.hd
 frames:=I.ok.frames
 stk:=.inl rfl
 exf:=fun b hb=>by
  obtain ⟨o,e⟩:=hx b hb
  exact ⟨yda (ydq e),fun y c h=>(hf b hb).2.2.2.2.1 y c (O.sub.get y c h)⟩
 bs:=I.bs
 bsz:=yde I.ok.bsz I.sz
 noex:=fun b o e hb=>by
  rcases (hf b hb).2.2.2.1 with z | z
  ·exact I.ok.noex b o e z
  ·exact absurd (ydb (ydq e) (yde I.ok.bsz z)) (ydg _)
 exfs:=fun b hb z=>(yal.mp (I.zgc b z)).elim (hf b hb).2.1 (hf b hb).2.2.1
 funs:=I.stack
 frf:=I.znR
theorem zkz {h₁:Heap} {m:Str->Option Value} {tk:Nat} (I:Inv X pins σ H s) (O:zdT X sc x ix) (hf:∀ b∈fp,zbZ X pins H b) (hx:∀ b∈fp,∃ o,s.heap.get? b=some o)
  (hn:h₁.Ns s.heap.objs.size m) (keep:∀ b o,s.heap.get? b=some o->h₁.get? b=some o) :
  Inv (X.block sc x ix ⟨s.heap.objs.size,s,H,X.pn++pins,fp⟩) [] (none::capts σ ix) H { s with heap:=h₁,toks:=tk }:=by
 refine ⟨zqw I O hf hx,rfl,I.bare,Un.kept keep,⟨m,hn,fun i y v e1 e2 _=>?_⟩,fun y c h=>?_,I.hok.fresh (ycz _),fun y c h=>I.freeC y c (O.sub.get y c h),fun p hp=>?_,I.hok.kept keep,?_⟩
 ·cases i with
  | zero=>cases e2
  | succ j =>
   have e1':(ix.map fun i=>X.N.getD i x)[j]?=some y:=e1
   have e2':(capts σ ix)[j]?=some (some v):=e2
   unfold capts at e2'
   rw[yak] at e1' e2'
   cases q:ix[j]? with
   | none=>rw[q] at e1';cases e1'
   | some i =>
    rw[q] at e1' e2'
    have e3:X.N.getD i x=y:=Option.some.inj e1'
    have e4:σ.getD i none=some v:=Option.some.inj e2'
    obtain ⟨c1,c2,c3⟩:=O.cap.get i (yai q)
    rw[e3] at c1 c2 c3
    have e5:σ[i]?=some (some v):=by
     rw[yae] at e4
     cases z:σ[i]? with
     | none=>rw[z] at e4;cases e4
     | some a=>rw[z] at e4;exact congrArg some e4
    have hl:i<X.N.length:=by
     rw[<-I.len]
     exact (yac.mp e5).1
    have e6:X.N[i]?=some y:=by
     rw[yae,yaa hl] at e3
     rw[yaa hl]
     exact congrArg some e3
    obtain ⟨m0,_,l0⟩:=I.loc
    have vis:Vis X.env.scope y:=by
     rcases c1 with z | z
     ·exact .inr (.inl z)
     ·exact .inr (.inr z)
    obtain ⟨u,ru,lu⟩:=l0 i y v e6 e5 vis
    refine ⟨u,ru,?_⟩
    rcases lu with ⟨k,_⟩ | ⟨_,c,hc,o,ho,hd⟩
    ·rcases c1 with z | z
     ·rw[z] at k;cases k
     ·rw[z] at k;cases k
    ·exact .inr ⟨c2,c,c3.trans hc,o,keep c o ho,hd⟩
 ·obtain ⟨v,o,ho,hd⟩:=I.cell y c (O.sub.get y c h)
  exact ⟨v,o,keep c o ho,hd⟩
 ·have hp':p∈X.pn++pins:=by
   rcases yam.mp hp with z | z
   ·exact z
   ·cases z
  obtain ⟨e,n,ne,nf,d⟩:=I.pin p hp'
  exact ⟨keep _ _ e,n,yda (ydq e),fun z=>(yal.mp (I.zgc _ z)).elim ne nf,d⟩
 ·show (none::capts σ ix).length=(x::ix.map fun i=>X.N.getD i x).length
  simp[capts]
theorem zja {pins':List (Addr × Obj)} {σ':St} {H':Hp} {s':Shared} (I:Inv X pins σ H s) (hf:∀ b∈fp,zbZ X pins H b) (J:Inv (X.block sc x ix ⟨s.heap.objs.size,s,H,X.pn++pins,fp⟩) pins' σ' H' s'):Inv X pins σ H' s' :=
 I.call' J.os J.base J.hok J.bare fun b hb=>⟨(hf b hb).2.2.2.1,(hf b hb).2.1,(hf b hb).2.2.2.2.1,(hf b hb).2.2.2.2.2⟩
theorem Inv.addpin {b:Addr} {o:Obj} (I:Inv X pins σ H s) (e:s.heap.get? b=some o) (hn:H b=none) (hL:b≠X.env.locals) (hf:b ∉ X.fs) (hd:∀ v,o.data≠.cell v):Inv X (pins++[(b,o)]) σ H s :=
 I.zjZ fun p hp=>(yam.mp hp).elim (fun z=>I.pin p (yaf _ z)) fun z=>by
  have e':p=(b,o):=by simpa using z
  subst e'
  exact ⟨e,hn,hL,hf,hd⟩
end
def Turns (ix:List Nat) (te:TE) (σ:St) (J:It) (l:Addr) (R:Hp->Prop) (W:Nat->Nat->List V->Hp->Prop):Prop :=
 ∀ i m xs H',W i m xs H'->H' l=some (.lst xs)/\((J.stop i H'/\R H')\/(J.go i H'/\xs.length<sizeLine/\∀ x H2,J.yld i H' x H2 ->
  te (some x::capts σ ix) H2 fun v H3=>H3 l=some (.lst xs)/\∃ m',m'<m/\W (i+1) m' (xs++[v]) (upd H3 l (.lst (xs++[v])))))
def zrj (ix:List Nat) (wi:TI) (te:TE):TE:=fun σ H Q=>wi σ H fun J H1=>∀ l,H1 l=none->∃ W:Nat->Nat->List V->Hp->Prop,(∃ m,W 0 m [] (upd H1 l (.lst [])))/\Turns ix te σ J l (Q (.ref l)) W
section
variable {X:Cx} {pins:List (Addr × Obj)} {σ:St} {H:Hp} {s:Shared} {sc:Scope} {x:Str} {ix:List Nat} {fp:List Addr} {elt iter:Expr} {te:TE} {wi:TI} {px pos:Pos}
theorem zkv {it:Addr} {tn:Nat->Heap->Prop} {J:It} {use:Option (Value->Sem Unit)} {Q:Value->Shared->Prop} {E:Value->Shared->Prop} (O:zdT X sc x ix) (hel:∀ b,PE (X.block sc x ix b) elt te) (hc:X.calm=true)
  (I:Inv X pins σ H s) (T:Turn X.prog X.w X.K (.Name x px) J fp it tn) (st:tn 0 s.heap) (hf:∀ b∈fp,zbZ X pins H b) (R:Addr->Hp->Prop)
  (h:∀ l,H l=none->∃ W:Nat->Nat->List V->Hp->Prop,(∃ m,W 0 m [] (upd H l (.lst [])))/\Turns ix te σ J l (R l) W)
  (fin:∀ l C m s' H',Inv X pins σ H' s'->s'.heap.Ns C m->zbZ X pins H' C->R l H'->compPost (model X.prog X.w) X.A E use Q (.ref l) C (.ok .next) s') :
  wpAny (model X.prog X.w) X.A (newList []) (fun acc s₃=>wpAny (model X.prog X.w) X.A (newFunctionEnv sc X.env.globals (zcV sc X.env) [] X.env.qual none .none (some X.env)) (fun cenv s₄ =>
   codeAny (model X.prog X.w) X.A (.compStart (.ListComp elt [⟨.Name x px,iter,[],0⟩] sc pos) 0 (.ref it) acc { cenv with scope:=relabel sc X.env }) (compPost (model X.prog X.w) X.A E use Q acc cenv.locals) s₄) E s₃) E s:=by
 refine wpAny_newObj_type (wpAny_newFunctionEnv O.cell (by intro y hy;simp at hy) (fun h₁ hns hsb=>?_) O.kind)
 dsimp only at hns hsb ⊢
 have hl0:H s.heap.objs.size=none:=I.hok.fresh (ycz _)
 obtain ⟨W,⟨m0,w0⟩,tr⟩:=h s.heap.objs.size hl0
 have I3:Inv X pins σ (upd H s.heap.objs.size (.lst [])) { s with heap:=s.heap.push { cls:=.type "list", dict:=none,data:=.seq ([]:List Value).toArray } } :=
  I.laid (t':=s.toks) (fun b o e=>ydp _ e) (ycz _) ⟨ydc _,[],0,.nil,ydr _ rfl⟩
 have ofp:∀ b∈fp,∃ o,s.heap.get? b=some o:=fun b hb=>by
  obtain ⟨o,e,_⟩:=T.obj 0 _ st b hb
  exact ⟨o,e⟩
 generalize e3:s.heap.push { cls:=.type "list", dict:=none,data:=.seq ([]:List Value).toArray }=G at I3 hns hsb ⊢
 have ofp3:∀ b∈fp,∃ o,G.get? b=some o:=fun b hb=>by
  obtain ⟨o,e⟩:=ofp b hb
  exact ⟨o,by rw[<-e3];exact ydp _ e⟩
 have nl:∀ b∈fp,b≠s.heap.objs.size:=fun b hb=>by
  obtain ⟨o,e⟩:=ofp b hb
  exact yda (ydq e)
 have hf3:∀ b∈fp,zbZ X pins (upd H s.heap.objs.size (.lst [])) b:=fun b hb=>⟨by rw[zv (nl b hb)];exact (hf b hb).1,(hf b hb).2⟩
 have keep3:∀ b o,G.get? b=some o->h₁.get? b=some o:=fun b o e=>hsb.extBut b o (yda (ydq e)) (ydp _ e)
 have stk:tn 0 h₁:=T.keep _ _ _ st fun b hb o e=>keep3 b o (by rw[<-e3];exact ydp _ e)
 have J0:=zkz (tk:=s.toks+([]:List (Str × Value)).length) I3 O hf3 ofp3 hns keep3
 have stat:∀ {H':Hp},(∀ b∈fp,H' b=none)->∀ b∈fp,zbZ (X.block sc x ix ⟨G.objs.size,{ s with heap:=G },upd H s.heap.objs.size (.lst []),X.pn++pins,fp⟩) [] H' b:=fun hn b hb=>by
  obtain ⟨o,e⟩:=ofp3 b hb
  refine ⟨hn b hb,yda (ydq e),fun z=>(yal.mp (I3.zgc _ z)).elim (hf b hb).2.1 (hf b hb).2.2.1,.inl hb,fun y c q=>(hf b hb).2.2.2.2.1 y c (O.sub.get y c q),fun p hp=>?_⟩
  have hp':p∈X.pn++pins:=by
   rcases yam.mp hp with z | z
   ·exact z
   ·cases z
  exact (hf b hb).2.2.2.2.2 p hp'
 have loop:∀ s4:Shared,s4={ s with heap:=h₁,toks:=s.toks+([]:List (Str × Value)).length } ->
   codeAny (model X.prog X.w) X.A (.compLoop (.ListComp elt [⟨.Name x px,iter,[],0⟩] sc pos) 0 (.ref it) (.ref s.heap.objs.size) (compEnvC sc (zcV sc X.env) G.objs.size X.env))
    (compPost (model X.prog X.w) X.A E use Q (.ref s.heap.objs.size) G.objs.size) s4:=by
  rintro s4 rfl
  refine zpv (fun n s'=>∃ i xs H' z,Inv (X.block sc x ix ⟨G.objs.size,{ s with heap:=G },upd H s.heap.objs.size (.lst []),X.pn++pins,fp⟩) [] (z::capts σ ix) H' s'/\tn i s'.heap/\(∀ b∈fp,H' b=none)/\W i n xs H') ?_ m0
   ⟨0,[],_,none,J0,stk,fun b hb=>(hf3 b hb).1,w0⟩
  rintro n s5 ⟨i,xs,H5,z,I5,st5,fr5,w5⟩
  obtain ⟨hl5,h5⟩:=tr i n xs H5 w5
  rcases h5 with ⟨stop,r5⟩ | ⟨go,hz,step⟩
  ·refine thn (T.done (X.block sc x ix ⟨G.objs.size,{ s with heap:=G },upd H s.heap.objs.size (.lst []),X.pn++pins,fp⟩) rfl rfl rfl hc i [] s5 _ H5 _ I5 (stat fr5) st5 stop) fun r s6 ⟨hr,I6⟩=>?_
   subst hr
   obtain ⟨m6,hn6,_⟩:=I6.loc
   refine fin _ _ m6 s6 H5 (zja I3 hf3 I6) hn6 ?_ r5
   exact I3.zon (ycz _) I6.free
  ·refine thn (T.item (X.block sc x ix ⟨G.objs.size,{ s with heap:=G },upd H s.heap.objs.size (.lst []),X.pn++pins,fp⟩) rfl rfl rfl hc i [] s5 _ H5 _ I5 (stat fr5) st5 go) fun r s6 ⟨u,hr,h6⟩=>?_
   subst hr
   refine thn h6 fun _ s7 ⟨y,H7,I7,r7,y7,st7,fr7⟩=>?_
   have I7':=I7.pinned (stat fr7) (T.obj _ _ st7)
   have lx:(relabel sc X.env).names.lookup x=some .local:=lookup_relabel_local O.var
   refine thn ((zar (i:=0) O.nd rfl (Or.inl lx) (Or.inr lx):PG (X.block sc x ix ⟨G.objs.size,{ s with heap:=G },upd H s.heap.objs.size (.lst []),X.pn++pins,fp⟩) (.Name x px) (zfn 0)) _ s7 _ H7 y u (fun σ' H'=>σ'=some y::capts σ ix/\H'=H7) I7' r7 ⟨rfl,rfl⟩) fun _ s8 ⟨σ8,H8,I8,e8,e8'⟩=>?_
   subst e8 e8'
   refine thn (hel _ _ s8 _ H8 _ I8 (step y H8 y7)) fun v9 s9 ⟨v,H9,I9,r9,hl9,m',hm,w9⟩=>?_
   refine thn (zdR _ s9 _ H9 (.ref s.heap.objs.size) [v] (.ref s.heap.objs.size) [v9] (fun _ H'=>H'=upd H9 s.heap.objs.size (.lst (xs++[v]))) I9 rfl (.cons r9 .nil) ⟨_,xs,v,rfl,rfl,hl9,hz,rfl⟩) fun _ s10 ⟨_,H10,I10,_,e10⟩=>?_
   subst e10
   refine ⟨m',hm,i+1,xs++[v],_,some y,I10.unpinned,T.keep _ _ _ st7 fun b hb o e=>(I10.pin (b,o) (yaf _ (yaf _ (zb7 hb e)))).1,fun b hb=>?_,w9⟩
   obtain ⟨o,e,d⟩:=T.obj _ _ st7 b hb
   exact (I10.pin (b,o) (yaf _ (yaf _ (zb7 hb e)))).2.1
 exact codeAny_compStart_list (loop _ rfl) (T.self _ 0 _ _ _ stk (loop _ rfl))
theorem zdf (O:zdT X sc x ix) (hi:PI X (.Name x px) iter wi) (hel:∀ b,PE (X.block sc x ix b) elt te) (hc:X.calm=true:=by rfl) (hs:∀ v,foldedSetIterable iter X.env v=pure v:=by intro _;rfl) :
  PE X (.ListComp elt [⟨.Name x px,iter,[],0⟩] sc pos) (zrj ix wi te):=by
 intro pins s σ H Q I h
 rw[eval_ListComp]
 refine wpAny_comprehension_free (use:=none) rfl hs O.clos O.kind O.names (thn (hi pins s σ H _ I h) fun xv s1 h1=>thn h1 fun itv s2 h2=>?_)
 obtain ⟨it,fp,tn,J,H2,e,I2,T,st2,f2,hq⟩:=h2
 subst e
 refine zkv O hel hc I2 T st2 f2 (fun l H'=>Q (.ref l) H') hq ?_
 intro l C m s' H' I' hn hf r
 refine ⟨m,hn,fun h' hb=>⟨.ref l,H',?_,rfl,r⟩⟩
 exact I'.turned (t':=s'.toks) (fun b o hne e=>hb.extBut b o hne e) hf.1 hf.2.1 hf.2.2.2.1 hf.2.2.2.2.1 hf.2.2.2.2.2
theorem znY {y:Str} {i:Nat} {py spos:Pos} (hN:X.N.Nodup) (hiy:X.N[i]?=some y) (hy:X.env.scope.names.lookup y=some .local) (O:zdT X sc x ix) (hi:PI X (.Name x px) iter wi) (hel:∀ b,PE (X.block sc x ix b) elt te)
  (hc:X.calm=true:=by rfl) (hs:∀ v,foldedSetIterable iter X.env v=pure v:=by intro _;rfl) (hsw:swapsWith (.ListComp elt [⟨.Name x px,iter,[],0⟩] sc pos) (some (.Name y py)) spos.line X.env=pure true:=by rfl) :
  PS X (.Assign [.Name y py] (.ListComp elt [⟨.Name x px,iter,[],0⟩] sc pos) spos) (zoy (zrj ix wi te) (zfn i)):=by
 intro pins s σ H D I h
 rw[exec_Assign_Name_used _ _ _ _ hsw]
 refine wpAny_bind (wpAny_standAt (wpAny_bind ?_))
 show wpAny _ X.A (do let _ <-comprehension (.ListComp elt [⟨.Name x px,iter,[],0⟩] sc pos) sc X.env _ (newList []) false (eval iter X.env) (some (assign (.Name y py) X.env))) _ _ s
 refine wpAny_bind (wpAny_mono (wpAny_comprehension_free (use:=some (assign (.Name y py) X.env)) (Q:=fun _ s'=>SP X pins D .next s') rfl hs O.clos O.kind O.names
  (thn (hi pins s σ H _ I h) fun xv s1 h1=>thn h1 fun itv s2 h2=>?_)) (fun _ s' hq=>wpAny_pure (wpAny_pure hq)) fun _ _ e=>e)
 obtain ⟨it,fp,tn,J,H2,e,I2,T,st2,f2,hq⟩:=h2
 subst e
 refine zkv O hel hc I2 T st2 f2 (fun l H'=>D.nx (σ.set i (some (.ref l))) H') hq ?_
 intro l C m s' H' I' hn hf r
 obtain ⟨o,es,ep,ho,hd,hr⟩:=id hn
 have Ip:=I'.addpin ho hf.1 hf.2.1 hf.2.2.1 (by intro v z;rw[hd] at z;cases z)
 refine thn ((zar (i:=i) hN hiy (Or.inl hy) (Or.inr hy):PG X (.Name y py) (zfn i)) _ s' σ H' (.ref l) (.ref l) (fun σ' H''=>σ'=σ.set i (some (.ref l))/\H''=H') Ip rfl ⟨rfl,rfl⟩) fun _ s'' ⟨σ'',H'',I'',e1,e2⟩=>?_
 subst e1 e2
 have pc:=(I''.pin (C,o) (yaf _ (yaf _ yaj))).1
 refine ⟨m,⟨o,es,ep,pc,hd,hr⟩,fun h' hb=>⟨_,_,?_,r⟩⟩
 exact I''.unpinned.turned (t':=s''.toks) (fun b o hne e=>hb.extBut b o hne e) hf.1 hf.2.1 hf.2.2.2.1 hf.2.2.2.2.1 hf.2.2.2.2.2
end
def zf5 (ix:List Nat) (tt:TT) (te:TE) (σ:St) (J:It) (l:Addr) (R:Hp->Prop) (W:Nat->Nat->List V->Hp->Prop):Prop :=
 ∀ i m xs H',W i m xs H'->H' l=some (.lst xs)/\((J.stop i H'/\R H')\/(J.go i H'/\xs.length<sizeLine/\∀ x H2,J.yld i H' x H2 ->
  tt (some x::capts σ ix) H2 fun b H3=>if b=true then te (some x::capts σ ix) H3 fun v H4=>H4 l=some (.lst xs)/\∃ m',m'<m/\W (i+1) m' (xs++[v]) (upd H4 l (.lst (xs++[v]))) else ∃ m',m'<m/\W (i+1) m' xs H3))
def znK (ix:List Nat) (wi:TI) (tt:TT) (te:TE):TE:=fun σ H Q=>wi σ H fun J H1=>∀ l,H1 l=none->∃ W:Nat->Nat->List V->Hp->Prop,(∃ m,W 0 m [] (upd H1 l (.lst [])))/\zf5 ix tt te σ J l (Q (.ref l)) W
section
variable {X:Cx} {pins:List (Addr × Obj)} {σ:St} {H:Hp} {s:Shared} {sc:Scope} {x:Str} {ix:List Nat} {fp:List Addr} {elt iter c:Expr} {te:TE} {tt:TT} {wi:TI} {px pos:Pos}
theorem zio {it:Addr} {tn:Nat->Heap->Prop} {J:It} {use:Option (Value->Sem Unit)} {Q:Value->Shared->Prop} {E:Value->Shared->Prop} (O:zdT X sc x ix) (htt:∀ b,PT (X.block sc x ix b) c tt) (hel:∀ b,PE (X.block sc x ix b) elt te) (hc:X.calm=true)
  (I:Inv X pins σ H s) (T:Turn X.prog X.w X.K (.Name x px) J fp it tn) (st:tn 0 s.heap) (hf:∀ b∈fp,zbZ X pins H b) (R:Addr->Hp->Prop)
  (h:∀ l,H l=none->∃ W:Nat->Nat->List V->Hp->Prop,(∃ m,W 0 m [] (upd H l (.lst [])))/\zf5 ix tt te σ J l (R l) W)
  (fin:∀ l C m s' H',Inv X pins σ H' s'->s'.heap.Ns C m->zbZ X pins H' C->R l H'->compPost (model X.prog X.w) X.A E use Q (.ref l) C (.ok .next) s') :
  wpAny (model X.prog X.w) X.A (newList []) (fun acc s₃=>wpAny (model X.prog X.w) X.A (newFunctionEnv sc X.env.globals (zcV sc X.env) [] X.env.qual none .none (some X.env)) (fun cenv s₄ =>
   codeAny (model X.prog X.w) X.A (.compStart (.ListComp elt [⟨.Name x px,iter,[c],0⟩] sc pos) 0 (.ref it) acc { cenv with scope:=relabel sc X.env }) (compPost (model X.prog X.w) X.A E use Q acc cenv.locals) s₄) E s₃) E s:=by
 refine wpAny_newObj_type (wpAny_newFunctionEnv O.cell (by intro y hy;simp at hy) (fun h₁ hns hsb=>?_) O.kind)
 dsimp only at hns hsb ⊢
 have hl0:H s.heap.objs.size=none:=I.hok.fresh (ycz _)
 obtain ⟨W,⟨m0,w0⟩,tr⟩:=h s.heap.objs.size hl0
 have I3:Inv X pins σ (upd H s.heap.objs.size (.lst [])) { s with heap:=s.heap.push { cls:=.type "list", dict:=none,data:=.seq ([]:List Value).toArray } } :=
  I.laid (t':=s.toks) (fun b o e=>ydp _ e) (ycz _) ⟨ydc _,[],0,.nil,ydr _ rfl⟩
 have ofp:∀ b∈fp,∃ o,s.heap.get? b=some o:=fun b hb=>by
  obtain ⟨o,e,_⟩:=T.obj 0 _ st b hb
  exact ⟨o,e⟩
 generalize e3:s.heap.push { cls:=.type "list", dict:=none,data:=.seq ([]:List Value).toArray }=G at I3 hns hsb ⊢
 have ofp3:∀ b∈fp,∃ o,G.get? b=some o:=fun b hb=>by
  obtain ⟨o,e⟩:=ofp b hb
  exact ⟨o,by rw[<-e3];exact ydp _ e⟩
 have nl:∀ b∈fp,b≠s.heap.objs.size:=fun b hb=>by
  obtain ⟨o,e⟩:=ofp b hb
  exact yda (ydq e)
 have hf3:∀ b∈fp,zbZ X pins (upd H s.heap.objs.size (.lst [])) b:=fun b hb=>⟨by rw[zv (nl b hb)];exact (hf b hb).1,(hf b hb).2⟩
 have keep3:∀ b o,G.get? b=some o->h₁.get? b=some o:=fun b o e=>hsb.extBut b o (yda (ydq e)) (ydp _ e)
 have stk:tn 0 h₁:=T.keep _ _ _ st fun b hb o e=>keep3 b o (by rw[<-e3];exact ydp _ e)
 have J0:=zkz (tk:=s.toks+([]:List (Str × Value)).length) I3 O hf3 ofp3 hns keep3
 have stat:∀ {H':Hp},(∀ b∈fp,H' b=none)->∀ b∈fp,zbZ (X.block sc x ix ⟨G.objs.size,{ s with heap:=G },upd H s.heap.objs.size (.lst []),X.pn++pins,fp⟩) [] H' b:=fun hn b hb=>by
  obtain ⟨o,e⟩:=ofp3 b hb
  refine ⟨hn b hb,yda (ydq e),fun z=>(yal.mp (I3.zgc _ z)).elim (hf b hb).2.1 (hf b hb).2.2.1,.inl hb,fun y c q=>(hf b hb).2.2.2.2.1 y c (O.sub.get y c q),fun p hp=>?_⟩
  have hp':p∈X.pn++pins:=by
   rcases yam.mp hp with z | z
   ·exact z
   ·cases z
  exact (hf b hb).2.2.2.2.2 p hp'
 have loop:∀ s4:Shared,s4={ s with heap:=h₁,toks:=s.toks+([]:List (Str × Value)).length } ->
   codeAny (model X.prog X.w) X.A (.compLoop (.ListComp elt [⟨.Name x px,iter,[c],0⟩] sc pos) 0 (.ref it) (.ref s.heap.objs.size) (compEnvC sc (zcV sc X.env) G.objs.size X.env))
    (compPost (model X.prog X.w) X.A E use Q (.ref s.heap.objs.size) G.objs.size) s4:=by
  rintro s4 rfl
  refine zmQ (fun n s'=>∃ i xs H' z,Inv (X.block sc x ix ⟨G.objs.size,{ s with heap:=G },upd H s.heap.objs.size (.lst []),X.pn++pins,fp⟩) [] (z::capts σ ix) H' s'/\tn i s'.heap/\(∀ b∈fp,H' b=none)/\W i n xs H') ?_ m0
   ⟨0,[],_,none,J0,stk,fun b hb=>(hf3 b hb).1,w0⟩
  rintro n s5 ⟨i,xs,H5,z,I5,st5,fr5,w5⟩
  obtain ⟨hl5,h5⟩:=tr i n xs H5 w5
  rcases h5 with ⟨stop,r5⟩ | ⟨go,hz,step⟩
  ·refine thn (T.done (X.block sc x ix ⟨G.objs.size,{ s with heap:=G },upd H s.heap.objs.size (.lst []),X.pn++pins,fp⟩) rfl rfl rfl hc i [] s5 _ H5 _ I5 (stat fr5) st5 stop) fun r s6 ⟨hr,I6⟩=>?_
   subst hr
   obtain ⟨m6,hn6,_⟩:=I6.loc
   refine fin _ _ m6 s6 H5 (zja I3 hf3 I6) hn6 ?_ r5
   exact I3.zon (ycz _) I6.free
  ·refine thn (T.item (X.block sc x ix ⟨G.objs.size,{ s with heap:=G },upd H s.heap.objs.size (.lst []),X.pn++pins,fp⟩) rfl rfl rfl hc i [] s5 _ H5 _ I5 (stat fr5) st5 go) fun r s6 ⟨u,hr,h6⟩=>?_
   subst hr
   refine thn h6 fun _ s7 ⟨y,H7,I7,r7,y7,st7,fr7⟩=>?_
   have I7':=I7.pinned (stat fr7) (T.obj _ _ st7)
   have lx:(relabel sc X.env).names.lookup x=some .local:=lookup_relabel_local O.var
   refine thn ((zar (i:=0) O.nd rfl (Or.inl lx) (Or.inr lx):PG (X.block sc x ix ⟨G.objs.size,{ s with heap:=G },upd H s.heap.objs.size (.lst []),X.pn++pins,fp⟩) (.Name x px) (zfn 0)) _ s7 _ H7 y u (fun σ' H'=>σ'=some y::capts σ ix/\H'=H7) I7' r7 ⟨rfl,rfl⟩) fun _ s8 ⟨σ8,H8,I8,e8,e8'⟩=>?_
   subst e8 e8'
   refine thn (htt _ _ s8 _ H8 _ I8 (step y H8 y7)) fun b s9 ⟨H9,I9,q9⟩=>?_
   have kp:∀ {σ0:St} {H0:Hp} {s0:Shared},Inv (X.block sc x ix ⟨G.objs.size,{ s with heap:=G },upd H s.heap.objs.size (.lst []),X.pn++pins,fp⟩) ([]++zhy fp s7.heap) σ0 H0 s0->tn (i+1) s0.heap/\∀ b∈fp,H0 b=none:=fun {σ0 H0 s0} I0=>by
    refine ⟨T.keep _ _ _ st7 fun b hb o e=>(I0.pin (b,o) (yaf _ (yaf _ (zb7 hb e)))).1,fun b hb=>?_⟩
    obtain ⟨o,e,d⟩:=T.obj _ _ st7 b hb
    exact (I0.pin (b,o) (yaf _ (yaf _ (zb7 hb e)))).2.1
   cases b with
   | false =>
    rw[if_neg Bool.false_ne_true] at q9 ⊢
    obtain ⟨m',hm,w9⟩:=q9
    exact ⟨m',hm,i+1,xs,_,some y,I9.unpinned,(kp I9).1,(kp I9).2,w9⟩
   | true =>
    rw[if_pos rfl] at q9 ⊢
    refine thn (hel _ _ s9 _ H9 _ I9 q9) fun v9 s10 ⟨v,H10,I10,r10,hl10,m',hm,w10⟩=>?_
    refine thn (zdR _ s10 _ H10 (.ref s.heap.objs.size) [v] (.ref s.heap.objs.size) [v9] (fun _ H'=>H'=upd H10 s.heap.objs.size (.lst (xs++[v]))) I10 rfl (.cons r10 .nil) ⟨_,xs,v,rfl,rfl,hl10,hz,rfl⟩) fun _ s11 ⟨_,H11,I11,_,e11⟩=>?_
    subst e11
    exact ⟨m',hm,i+1,xs++[v],_,some y,I11.unpinned,(kp I11).1,(kp I11).2,w10⟩
 exact codeAny_compStart_list (loop _ rfl) (T.self _ 0 _ _ _ stk (loop _ rfl))
theorem zbq (O:zdT X sc x ix) (hi:PI X (.Name x px) iter wi) (htt:∀ b,PT (X.block sc x ix b) c tt) (hel:∀ b,PE (X.block sc x ix b) elt te) (hc:X.calm=true:=by rfl) (hs:∀ v,foldedSetIterable iter X.env v=pure v:=by intro _;rfl) :
  PE X (.ListComp elt [⟨.Name x px,iter,[c],0⟩] sc pos) (znK ix wi tt te):=by
 intro pins s σ H Q I h
 rw[eval_ListComp]
 refine wpAny_comprehension_free (use:=none) rfl hs O.clos O.kind O.names (thn (hi pins s σ H _ I h) fun xv s1 h1=>thn h1 fun itv s2 h2=>?_)
 obtain ⟨it,fp,tn,J,H2,e,I2,T,st2,f2,hq⟩:=h2
 subst e
 refine zio O htt hel hc I2 T st2 f2 (fun l H'=>Q (.ref l) H') hq ?_
 intro l C m s' H' I' hn hf r
 refine ⟨m,hn,fun h' hb=>⟨.ref l,H',?_,rfl,r⟩⟩
 exact I'.turned (t':=s'.toks) (fun b o hne e=>hb.extBut b o hne e) hf.1 hf.2.1 hf.2.2.2.1 hf.2.2.2.2.1 hf.2.2.2.2.2
end
theorem zc {H:Hp} {p:Addr} (h:H p=none) (o:HO):Same H (upd H p o):=fun b u q=>by rw[zv (zah q h)];exact q
theorem zoG {ix:List Nat} {te:TE} {σ:St} {lo:Int} {n:Nat} {l:Addr} {H:Hp} {R:Hp->Prop} (P:Nat->V->Prop) (hl:H l=none) (hn:n<=sizeLine)
  (hel:∀ i H' Q',i<n->Same H H'->(∀ v,P i v->Q' v H')->te (some (.int (lo+i))::capts σ ix) H' Q') (fin:∀ xs:List V,xs.length=n->(∀ j v,xs[j]?=some v->P j v)->R (upd H l (.lst xs))) :
  ∃ W:Nat->Nat->List V->Hp->Prop,(∃ m,W 0 m [] (upd H l (.lst [])))/\Turns ix te σ (Itr lo n) l R W:=by
 refine ⟨fun i m xs H'=>m=n-i/\i<=n/\xs.length=i/\(∀ j v,xs[j]?=some v->P j v)/\H'=upd H l (.lst xs),⟨n,by simp,ydc _,rfl,(fun j v e=>by simp at e),rfl⟩,?_⟩
 rintro i m xs H' ⟨rfl,hi,hx,hp,rfl⟩
 refine ⟨zg,?_⟩
 by_cases hlt:i<n
 ·refine .inr ⟨hlt,by ac_rfl,fun x H2 y=>?_⟩
  obtain ⟨e,y⟩:=y
  subst e y
  refine hel i _ _ hlt (zc hl _) fun v hv=>⟨zg,n-(i+1),by ac_rfl,rfl,hlt,by rw[yad,hx] <;> rfl,fun j w e=>?_,by rw[zay]⟩
  by_cases hj:j<xs.length
  ·rw[ybl hj] at e
   exact hp j w e
  ·by_cases hj2:j=xs.length
   ·subst hj2
    rw[ybk (ycz _),ydn] at e
    have e':v=w:=Option.some.inj e
    subst e'
    rw[hx];exact hv
   ·rw[yap (by rw[yad,ybo];ac_rfl)] at e
    cases e
 ·have e:i=n:=by ac_rfl
  subst e
  exact .inl ⟨ycz _,fin xs hx hp⟩
section
variable {X:Cx}
theorem zbX:∀ {ns:List Int} {us:List Value},Vals (ns.map V.int) us->IntsAre us ns
 | [],_,.nil=>.nil
 | n::ns,_,.cons ⟨t,e⟩ r=>by
  subst e
  exact .cons n t (zbX r)
theorem zpp (hc:X.calm=true):zbc X (.builtin "sum") (fun xs H Q=>∃ (p:Addr) (ns:List Int),xs=[.ref p]/\SqL X.K H p (ns.map V.int)/\Q (.int ns.sum) H):=by
 intro pins s σ H xs us Q I r h
 obtain ⟨p,ns,rfl,hq,q⟩:=h
 obtain ⟨u,rfl,rx⟩:=vals1 r
 cases rx
 obtain ⟨its,rv,pl,hz⟩:=I.list hq
 obtain ⟨xs,e⟩:=(zbX rv).allInts.items
 rw[e] at pl
 refine sum_intListG (I.ok.hd hc) pl.isList fun h' tk t' k=>⟨.int ns.sum,H,I.kept k,⟨t',?_⟩,q⟩
 have e1:=(zbX rv).numsOf
 rw[preSum_eq,ybf (by simp),<-e1]
 congr 1
 rw[<-nums_intItems,<-e]
end
mutual
inductive RdV (K:W.Frag) (H:Hp):V->PyData->Prop
 | non:RdV K H .non .none
 | bl (b:Bool):RdV K H (.bl b) (.bool b)
 | int (i:Int):RdV K H (.int i) (.int i)
 | str (x:Str):RdV K H (.str x) (.str x)
 | lst {a:Addr} {xs:List V} {ds:List PyData}:SqL K H a xs->zbM K H xs ds->RdV K H (.ref a) (.list ds)
 | tup {a:Addr} {xs:List V} {ds:List PyData}:SqT K H a xs->zbM K H xs ds->RdV K H (.ref a) (.tuple ds)
inductive zbM (K:W.Frag) (H:Hp):List V->List PyData->Prop
 | nil:zbM K H [] []
 | cons {x:V} {d:PyData} {xs:List V} {ds:List PyData}:RdV K H x d->zbM K H xs ds->zbM K H (x::xs) (d::ds)
end
theorem zbM.ints {K:W.Frag} {H:Hp}:∀ ns:List Int,zbM K H (ns.map V.int) (ns.map PyData.int)
 | []=>.nil
 | n::r=>.cons (.int n) (zbM.ints r)
section
variable {X:Cx} {pins:List (Addr × Obj)} {σ:St} {H:Hp} {s:Shared} {pos:Pos}
mutual
theorem RdV.reads (I:Inv X pins σ H s):∀ {x:V} {d:PyData} {u:Value},RdV X.K H x d->RelV x u->∃ as,Reads s.heap u d as
 | _,_,_,.non,r=>by cases r;exact ⟨_,.none⟩
 | _,_,_,.bl b,r=>by cases r;exact ⟨_,.bool b⟩
 | _,_,_,.int i,r=>by obtain ⟨t,rfl⟩:=r;exact ⟨_,.int i t⟩
 | _,_,_,.str x,r=>by obtain ⟨t,rfl⟩:=r;exact ⟨_,.str x t⟩
 | _,_,_,.lst h hs,r=>by
  cases r
  obtain ⟨its,rv,pl,hz⟩:=I.list h
  obtain ⟨as,q⟩:=zbM.reads I hs rv
  obtain ⟨o,n,e,c,hd,dt⟩:=pl
  exact ⟨_,reads_list_at e c dt (by simpa using q)⟩
 | _,_,_,.tup h hs,r=>by
  cases r
  obtain ⟨its,rv,pl,hz⟩:=I.tuple h
  obtain ⟨as,q⟩:=zbM.reads I hs rv
  obtain ⟨o,e,c,n,dt⟩:=pl
  exact ⟨_,reads_tuple_at e c dt (by simpa using q)⟩
theorem zbM.reads (I:Inv X pins σ H s):∀ {xs:List V} {ds:List PyData} {us:List Value},zbM X.K H xs ds->Vals xs us->∃ as,ReadsAll s.heap us ds as
 | _,_,_,.nil,.nil=>⟨_,.nil⟩
 | _,_,_,.cons h hs,.cons r rs=>by
  obtain ⟨as,q⟩:=RdV.reads I h r
  obtain ⟨bs,q'⟩:=zbM.reads I hs rs
  exact ⟨_,.cons q q'⟩
end
def ztN (K:W.Frag):R2:=fun x y H Q=>∃ d e,RdV K H x d/\RdV K H y e/\SeqAt.shaped d=true/\SeqAt.shaped e=true/\Q (.bl (PyData.eqv d e)) H
def ztT (K:W.Frag):R2:=fun x y H Q=>∃ d e,RdV K H x d/\RdV K H y e/\SeqAt.shaped d=true/\SeqAt.shaped e=true/\Q (.bl (!PyData.eqv d e)) H
theorem zpL (hu:X.A.units+64<cLine):OpR X (compareOp .Eq) (ztN X.K):=by
 intro pins s σ H x y v u Q I rx ry h
 obtain ⟨d,e,hd,he,sd,se,q⟩:=h
 obtain ⟨as,ra⟩:=hd.reads I rx
 obtain ⟨bs,rb⟩:=he.reads I ry
 exact eq_dataH ra rb sd se hu ⟨.bl _,H,I,rfl,q⟩
theorem zsE (hu:X.A.units+64<cLine):OpR X (compareOp .NotEq) (ztT X.K):=by
 intro pins s σ H x y v u Q I rx ry h
 obtain ⟨d,e,hd,he,sd,se,q⟩:=h
 obtain ⟨as,ra⟩:=hd.reads I rx
 obtain ⟨bs,rb⟩:=he.reads I ry
 exact ne_dataH ra rb sd se hu ⟨.bl _,H,I,rfl,q⟩
end
noncomputable def kinds:List String:=["NoneType", "bool", "int", "str", "list", "tuple", "dict"]
theorem zrH {K:W.Frag} {T:String} (h:T∈kinds):PySem.W.kitOne K (.type T) (.type "int")=some (decide (T = "int" \/ T = "bool")):=by
 simp only[kinds,yal,ycc,or_false] at h
 rcases h with rfl | rfl | rfl | rfl | rfl | rfl | rfl <;> rfl
theorem zqt {K:W.Frag} {T:String} (h:T∈kinds):PySem.W.kitOne K (.type T) (.type "bool")=some (decide (T = "bool")):=by
 simp only[kinds,yal,ycc,or_false] at h
 rcases h with rfl | rfl | rfl | rfl | rfl | rfl | rfl <;> rfl
def zhb (K:W.Frag) (H:Hp) (x:V) (T:String):Prop:=zbU K H x (.type T)/\T∈kinds
theorem zsV {A B:Prop} (h:A):if (!false)=true then A else B:=zsA (B:=B) h
theorem ztq {A B:Prop} (h:B):if (!true)=true then A else B:=zsS (A:=A) h
theorem ztw {p A B:Prop} [Decidable p] (h1:¬ p->A) (h2:p->B):if (!decide p)=true then A else B:=by
 by_cases h:p
 ·rw[if_neg (by simpa using h)];exact h2 h
 ·rw[if_pos (by simpa using h)];exact h1 h
theorem zaQ {X:Cx} {a b v:Int} {j j':Nat} {p p' pos:Pos} (h:a ^ b.toNat=v) (hb:CPow a b):PE X (.BinOp (.Constant (.int a) j p) .Pow (.Constant (.int b) j' p') pos) (tC (.int v)):=by
 intro pins s σ H Q I hq
 exact zh zsD zd zd pins s σ H Q I ⟨_,_,rfl,rfl,hb,by show Q (V.int (a ^ b.toNat)) H;rw[h];exact hq⟩
theorem zai.get {P:Program} {w:World} {H:Hp} {h:Heap} {a:Addr} {o:HO} (x:zai P w H h a o):∃ u,h.get? a=some u:=by
 cases o with
 | lst xs=>obtain ⟨_,_,_,_,e⟩:=x;exact ⟨_,e⟩
 | tup xs=>obtain ⟨_,_,_,_,e,_⟩:=x;exact ⟨_,e⟩
 | dK kvs=>obtain ⟨_,_,_,_,_,_,_,e,_⟩:=x;exact ⟨_,e⟩
 | set S n=>obtain ⟨_,_,_,_,e,_⟩:=x;exact ⟨_,e⟩
 | ins C dx fs=>obtain ⟨_,_,_,e,_⟩:=x;exact ⟨_,e⟩
 | own y=>exact x
 | xd fs=>obtain ⟨_,⟨_,_,_,e,_⟩,_⟩:=x;exact ⟨_,e⟩
 | rng lo hi=>obtain ⟨_,_,_,e⟩:=x;exact ⟨_,e⟩
 | frz ob u=>obtain ⟨e,_⟩:=x;exact ⟨_,e⟩
 | tbl ps=>exact ⟨_,(show h.get? a=some _ from x)⟩
 | met f y=>exact ⟨_,(show h.get? a=some _ from x)⟩
 | ext φ=>obtain ⟨_,e,_⟩:=x;exact e
theorem HOk.gone {P:Program} {w:World} {H:Hp} {h:Heap} {a:Addr} (x:HOk P w H h) (e:h.get? a=none):H a=none:=by
 cases q:H a with
 | none=>rfl
 | some o =>
  obtain ⟨u,z⟩:=(x a o q).get
  rw[e] at z;cases z
section
variable {X:Cx} {pins:List (Addr × Obj)} {σ:St} {H:Hp} {s:Shared} {h':Heap} {hid:List Addr}
end
section
variable {P:Program} {w:World} {K:W.Frag} {mg:Str->Option Value} {base:Heap} {N:List Str} {qual:Str} {scope:Scope} {f:Addr} {cd:Value} {A:Around} {outer:List Env} {s₀:Shared} {H₀:Hp} {E:XK}
end
section
variable {P:Program} {w:World} {K:W.Frag} {mg:Str->Option Value} {base:Heap} {x:Str} {st:Stmt} {N ps:List Str} {k:Nat} {sp:Sp}
end
section
variable {X:Cx} {x:Str} {p pos:Pos} {e:Expr} {es:List Expr} {t:TA} {j k:Nat} {ps:List Str} {sp:Sp}
end
noncomputable def cA (K:W.Frag) (x:Str):Addr:=match PySem.W.nsIn K mainGlobals x with
 | some (some (.ref C))=>C
 | _=>0
theorem zcL {K:W.Frag} {x:Str} {C:Addr} (e:PySem.W.nsIn K mainGlobals x=some (some (.ref C))):cA K x=C:=by unfold cA;rw[e]
section
variable {X:Cx} {x:Str} {np cpos pos:Pos} {e0:Expr} {rest:List Expr} {t:TA} {E:XK}
end
section
open PySem.Builtin PySem.Builtin.ObjectAttr PySem.Builtin.Getset_descriptor
variable {prog:Program} {w:World} {A:Around} {E:Value->Shared->Prop} {s:Shared} {K:W.Frag} {e C:Addr} {oe:Obj}
end
section
variable {K:W.Frag} {e C:Addr}
end
section
variable {X:Cx}
end
section
variable {X:Cx} {pins:List (Addr × Obj)} {σ:St} {H:Hp} {s:Shared} {e:Addr}
theorem Inv.track {o:HO} (I:Inv X pins σ H s) (hn:H e=none) (h0:X.s₀.heap.get? e=none) (hL:e≠X.env.locals) (hC:∀ x c,X.env.cells.lookup x=some c->c≠e) (hp:∀ p∈X.pn++pins,p.1≠e)
  (new:zai X.prog X.w (upd H e o) s.heap e o):Inv X pins σ (upd H e o) s:=by
 refine ⟨I.ok,I.os,I.bare,⟨I.base.keep,I.base.slot,fun b u q n hx=>?_,I.base.there,fun b xs q=>?_,fun b u v q=>?_,fun b ps q=>?_⟩,I.loc,I.cell,?_,fun x c q=>?_,fun p q=>?_,fun b u q=>?_,I.len⟩
 ·rw[zv (fun z=>by rw[z,h0] at q;cases q)]
  exact I.base.free b u q n hx
 ·have z:=I.base.tups b xs q
  rw[zv (zah z hn)];exact z
 ·have z:=I.base.frzs b u v q
  rw[zv (zah z hn)];exact z
 ·obtain ⟨more,z⟩:=I.base.tbls b ps q
  exact ⟨more,by rw[zv (zah z hn)];exact z⟩
 ·rw[zv (Ne.symm hL)];exact I.free
 ·rw[zv (hC x c q)];exact I.freeC x c q
 ·obtain ⟨a,b,c,d,f⟩:=I.pin p q
  exact ⟨a,by rw[zv (hp p q)];exact b,c,d,f⟩
 ·by_cases hb:b=e
  ·subst hb
   rw[zg] at q;cases q
   exact new
  ·rw[zv hb] at q
   exact (I.hok b u q).stay (fun _ _ _ z=>z) (fun c z=>by rw[zv (zah z hn)];exact z) fun c xs z=>by rw[zv (zah z hn)];exact z
end
section
variable {K:W.Frag} {h:Heap} {mg:Str->Option Value} {x y:Str} {C D:Addr} {v:Bool} {n:String}
theorem za1 (X:K.In h) (a:PySem.W.nsIn K mainGlobals x=some (some (.ref C))):PySem.W.nsIn K mainGlobals x=some (some (.ref C)):=a
theorem zc4 (X:K.In h) (G:h.Ns mainGlobals mg) (a:PySem.W.nsIn K mainGlobals x=some (some (.ref C))):mg x=some (.ref (cA K x)):=by
 rw[zcL a];exact PySem.W.mg_of X G a
theorem zjc (a:PySem.W.nsIn K mainGlobals x=some (some (.ref C))) (b:PySem.W.nsIn K mainGlobals y=some (some (.ref D))) (q:PySem.W.kitOne K (.ref C) (.ref D)=some v):PySem.W.kitOne K (.ref (cA K x)) (.ref (cA K y))=some v:=by
 rw[zcL a,zcL b];exact q
theorem zic (a:PySem.W.nsIn K mainGlobals x=some (some (.ref C))) (q:PySem.W.kitOne K (.ref C) (.type n)=some v):PySem.W.kitOne K (.ref (cA K x)) (.type n)=some v:=by
 rw[zcL a];exact q
end
section
variable {P:Program} {w:World} {K:W.Frag} {mg:Str->Option Value} {base:Heap} {x:Str} {st:Stmt} {N ps:List Str} {k:Nat} {sp:Sp}
end
section
variable {X:Cx} {x:Str} {p pos:Pos} {e:Expr} {es:List Expr} {t:TA} {j k:Nat} {ps:List Str} {sp:Sp}
end
theorem zaR {xs:List V} {k:Int} (h0:0<=k) (h:k<(xs.length:Int)):∃ v,atI xs k=some v/\v∈xs:=by
 have hk:k.toNat<xs.length:=by ac_rfl
 have q:atI xs ((k.toNat:Nat):Int)=some xs[k.toNat]:=zbJ (yaa hk)
 rw[show ((k.toNat:Nat):Int)=k by ac_rfl] at q
 exact ⟨_,q,yci hk⟩
theorem zU {v:V} {xs:List V} {p:V->Prop} (h:p v) (t:∀ x∈xs,p x):∀ x∈v::xs,p x:=fun x hx=>by
 rcases yal.mp hx with rfl | hx
 ·exact h
 ·exact t x hx
theorem zeN {p:V->Prop}:∀ x∈([]:List V),p x:=fun x hx=>by cases hx
theorem zw {H H':Hp} {a:Addr} (s:Same H H') (h:H' a=none):H a=none:=by
 cases q:H a with
 | none=>rfl
 | some o=>rw[s a o q] at h;cases h
theorem zab {H H':Hp} {l:Addr} {o:HO} (s:Same H H') (h:H l=none):Same H (upd H' l o):=fun b u q=>by
 rw[zv (zah q h)];exact s b u q
theorem zix:∀ ns:List Int,PyData.canLayAll0 (ns.map PyData.int)=true
 | []=>by simp[PyData.canLayAll0]
 | n::ns=>by simp[PyData.canLayAll0,PyData.canLay0,zix ns]
theorem zji:∀ ns:List Int,PyData.depthAll (ns.map PyData.int)=0
 | []=>by simp[PyData.depthAll]
 | n::ns=>by simp[PyData.depthAll,PyData.depth,zji ns]
theorem shaped_ints (ns:List Int):SeqAt.shaped (.list (ns.map PyData.int))=true:=by
 simp[SeqAt.shaped,PyData.canLay0,PyData.depth,zix,zji]
end L2
namespace L2
open PySem PySem.W PyProof.Rows
def zI (t u:TS):TS:=zV t u
theorem zf {X:Cx} {st:Stmt} {rest:List Stmt} {t u:TS} (h1:PS X st t) (h2:PSs X rest u):PSs X (st::rest) (zI t u):=zqO h1 h2
def Mkd (p:Prop):Prop:=p
variable {t1 t2 t3 t4 t5 t6 t7 t8 t9 t10:TS} {D:Ends} {σ:St} {H:Hp}
theorem sqG (h:Mkd (zI t1 t2 D σ H)):zI t1 t2 D σ H:=h
theorem ztP (h:let v1:=t2;zV t1 v1 D σ H):Mkd ((zI t1 t2) D σ H):=h
theorem ztS (h:let v2:=t3;let v1:=zV t2 v2;zV t1 v1 D σ H):Mkd ((zI t1 (zI t2 t3)) D σ H):=h
theorem zts (h:let v3:=t4;let v2:=zV t3 v3;let v1:=zV t2 v2;zV t1 v1 D σ H):Mkd ((zI t1 (zI t2 (zI t3 t4))) D σ H):=h
theorem ztL (h:let v4:=t5;let v3:=zV t4 v4;let v2:=zV t3 v3;let v1:=zV t2 v2;zV t1 v1 D σ H):Mkd ((zI t1 (zI t2 (zI t3 (zI t4 t5)))) D σ H):=h
theorem zty (h:let v5:=t6;let v4:=zV t5 v5;let v3:=zV t4 v4;let v2:=zV t3 v3;let v1:=zV t2 v2;zV t1 v1 D σ H):Mkd ((zI t1 (zI t2 (zI t3 (zI t4 (zI t5 t6))))) D σ H):=h
theorem ztH (h:let v6:=t7;let v5:=zV t6 v6;let v4:=zV t5 v5;let v3:=zV t4 v4;let v2:=zV t3 v3;let v1:=zV t2 v2;zV t1 v1 D σ H):Mkd ((zI t1 (zI t2 (zI t3 (zI t4 (zI t5 (zI t6 t7)))))) D σ H):=h
theorem ztv (h:let v7:=t8;let v6:=zV t7 v7;let v5:=zV t6 v6;let v4:=zV t5 v5;let v3:=zV t4 v4;let v2:=zV t3 v3;let v1:=zV t2 v2;zV t1 v1 D σ H):Mkd ((zI t1 (zI t2 (zI t3 (zI t4 (zI t5 (zI t6 (zI t7 t8))))))) D σ H):=h
theorem ztG (h:let v8:=t9;let v7:=zV t8 v8;let v6:=zV t7 v7;let v5:=zV t6 v6;let v4:=zV t5 v5;let v3:=zV t4 v4;let v2:=zV t3 v3;let v1:=zV t2 v2;zV t1 v1 D σ H):Mkd ((zI t1 (zI t2 (zI t3 (zI t4 (zI t5 (zI t6 (zI t7 (zI t8 t9)))))))) D σ H):=h
theorem ztj (h:let v9:=t10;let v8:=zV t9 v9;let v7:=zV t8 v8;let v6:=zV t7 v7;let v5:=zV t6 v6;let v4:=zV t5 v5;let v3:=zV t4 v4;let v2:=zV t3 v3;let v1:=zV t2 v2;zV t1 v1 D σ H):Mkd ((zI t1 (zI t2 (zI t3 (zI t4 (zI t5 (zI t6 (zI t7 (zI t8 (zI t9 t10))))))))) D σ H):=h
inductive Ee4 {α0 α1 α2 α3:Type} (p:α0->α1->α2->α3->Prop):Prop | mk (x0:α0) (x1:α1) (x2:α2) (x3:α3) (h:p x0 x1 x2 x3):Ee4 p
inductive Ee5 {α0 α1 α2 α3 α4:Type} (p:α0->α1->α2->α3->α4->Prop):Prop | mk (x0:α0) (x1:α1) (x2:α2) (x3:α3) (x4:α4) (h:p x0 x1 x2 x3 x4):Ee5 p
inductive Ee6 {α0 α1 α2 α3 α4 α5:Type} (p:α0->α1->α2->α3->α4->α5->Prop):Prop | mk (x0:α0) (x1:α1) (x2:α2) (x3:α3) (x4:α4) (x5:α5) (h:p x0 x1 x2 x3 x4 x5):Ee6 p
inductive Ee7 {α0 α1 α2 α3 α4 α5 α6:Type} (p:α0->α1->α2->α3->α4->α5->α6->Prop):Prop | mk (x0:α0) (x1:α1) (x2:α2) (x3:α3) (x4:α4) (x5:α5) (x6:α6) (h:p x0 x1 x2 x3 x4 x5 x6):Ee7 p
inductive Ee8 {α0 α1 α2 α3 α4 α5 α6 α7:Type} (p:α0->α1->α2->α3->α4->α5->α6->α7->Prop):Prop | mk (x0:α0) (x1:α1) (x2:α2) (x3:α3) (x4:α4) (x5:α5) (x6:α6) (x7:α7) (h:p x0 x1 x2 x3 x4 x5 x6 x7):Ee8 p
inductive Ee9 {α0 α1 α2 α3 α4 α5 α6 α7 α8:Type} (p:α0->α1->α2->α3->α4->α5->α6->α7->α8->Prop):Prop | mk (x0:α0) (x1:α1) (x2:α2) (x3:α3) (x4:α4) (x5:α5) (x6:α6) (x7:α7) (x8:α8) (h:p x0 x1 x2 x3 x4 x5 x6 x7 x8):Ee9 p
inductive Aa3 (a0 a1 a2:Prop):Prop | mk (h0:a0) (h1:a1) (h2:a2):Aa3 a0 a1 a2
inductive Aa4 (a0 a1 a2 a3:Prop):Prop | mk (h0:a0) (h1:a1) (h2:a2) (h3:a3):Aa4 a0 a1 a2 a3
inductive Aa5 (a0 a1 a2 a3 a4:Prop):Prop | mk (h0:a0) (h1:a1) (h2:a2) (h3:a3) (h4:a4):Aa5 a0 a1 a2 a3 a4
inductive Aa6 (a0 a1 a2 a3 a4 a5:Prop):Prop | mk (h0:a0) (h1:a1) (h2:a2) (h3:a3) (h4:a4) (h5:a5):Aa6 a0 a1 a2 a3 a4 a5
inductive Aa7 (a0 a1 a2 a3 a4 a5 a6:Prop):Prop | mk (h0:a0) (h1:a1) (h2:a2) (h3:a3) (h4:a4) (h5:a5) (h6:a6):Aa7 a0 a1 a2 a3 a4 a5 a6
inductive Aa8 (a0 a1 a2 a3 a4 a5 a6 a7:Prop):Prop | mk (h0:a0) (h1:a1) (h2:a2) (h3:a3) (h4:a4) (h5:a5) (h6:a6) (h7:a7):Aa8 a0 a1 a2 a3 a4 a5 a6 a7
inductive zsG (a0 a1 a2 a3 a4 a5 a6 a7 a8 a9:Prop):Prop | mk (h0:a0) (h1:a1) (h2:a2) (h3:a3) (h4:a4) (h5:a5) (h6:a6) (h7:a7) (h8:a8) (h9:a9):zsG a0 a1 a2 a3 a4 a5 a6 a7 a8 a9
end L2
namespace L2
open PySem PySem.Spec PyProof.Rows
section
variable {X:Cx}
end
section
variable {X:Cx}
end
section
variable {prog:Program} {w:World} {A:Around} {R:Result->Shared->Prop}
noncomputable def zsU (prog:Program) (w:World) (A:Around) (Q:Value->Shared->Prop) (E:Value->Shared->Prop):PySem.Fin->Shared->Prop:=fun fin s'=>match fin with
 | .done f=>(match (Except.ok f:Result) with | .ok (.ret v)=>Q v s' | .ok _=>False | .error e=>E e s') | .again c'=>c'.quiet=true/\codeAny (model prog w) A c' (fun r s'=>match r with | .ok (.ret v)=>Q v s' | .ok _=>False | .error e=>E e s') s'
end
theorem zqo {us:List Value} {ns:List Int} (h:IntsAre us ns):us.length=ns.length/\∀ (i:Nat) n,ns[i]?=some n->∃ t,us[i]?=some (.int n t):=by
 induction h with
 | nil=>exact ⟨rfl,fun i n e=>by simp at e⟩
 | cons _ _ _ ih =>
  refine ⟨by simp[ih.1],fun i n e=>?_⟩
  cases i with
  | zero=>cases e;exact ⟨_,rfl⟩
  | succ i=>exact ih.2 i n e
section
variable {X:Cx}
end
theorem zpP (a d:Value):argsOk "max" ⟨[a],[("default", d)]⟩:=by unfold argsOk;kernel_rfl
section
variable {prog:Program} {w:World} {A:Around} {R:Result->Shared->Prop}
theorem zr9 {it p S:Addr} {kw:List (Str × Value)} {its:List Value} {ns:List Int} (hh:A.handled=none) (n1:S≠it) (n2:it≠p) (n3:S≠p) (len:its.length=ns.length) (val:∀ (i:Nat) n,ns[i]?=some n->∃ t,its[i]?=some (.int n t)) :
  ∀ (k i:Nat) (s:Shared) (m:Int) (tk:Tok) (c:Nat),its.length-i=k->i<=its.length->s.heap.IsListIter it p i->s.heap.IsList p its.toArray ->
   s.heap.get? S=some { cls:=.type "list", dict:=none,data:=.seq #[.int m tk,.int m tk] c,slots:=#[] }->m∈ns->(∀ (j:Nat) n,j<i->ns[j]?=some n->n<=m) ->
   (∀ M t h' tk',M∈ns->(∀ a∈ns,a<=M)->(∀ b o,b≠it->b≠S->s.heap.get? b=some o->h'.get? b=some o)->R (.ok (.ret (.int M t))) { s with heap:=h',toks:=tk' }) ->
   codeAny (model prog w) A (.builtin "max.loop" ⟨[.ref it,.none,.ref S],kw⟩) R s:=by
 intro k
 induction k with
 | zero =>
  intro i s m tk c hk hi hit hl hS hm hle hR
  refine codeAny_builtin F.entry_max_loop ?_
  rw[Around.under_plainId F.plain_max_loop _]
  refine wpAny_bind (m:=seqItems? (.ref S)) (wpAny_seqItems hS rfl ?_)
  refine wpAny_bind (m:=tryCatch (pyNext (.ref it)) _) (wpAny_tryCatch ?_)
  refine wpAny_pyNext_list_end (A:=A.in1) hh hit hl (by simp;ac_rfl) fun h' he=>?_
  have hS':=he S _ n1 hS
  refine wpAny_bind (m:=updateSeq S fun _=>#[]) (wpAny_updateSeq hS' rfl (wpAny_bind (wpAny_letGo (wpAny_pure ?_))))
  refine hR m tk _ _ hm (fun a ha=>?_) fun b o b1 b2 e=>(yds _ _ (Ne.symm b2)).trans (he b o b1 e)
  obtain ⟨j,hj⟩:=ycj.mp ha
  exact hle j a (by have:=(yac.mp hj).1;ac_rfl) hj
 | succ k ih =>
  intro i s m tk c hk hi hit hl hS hm hle hR
  have hlt:i<its.length:=by ac_rfl
  obtain ⟨n,hn⟩:∃ n,ns[i]?=some n:=⟨_,yaa (by ac_rfl)⟩
  obtain ⟨t,ht⟩:=val i n hn
  refine codeAny_builtin F.entry_max_loop ?_
  rw[Around.under_plainId F.plain_max_loop _]
  refine wpAny_bind (m:=seqItems? (.ref S)) (wpAny_seqItems hS rfl ?_)
  refine wpAny_bind (m:=tryCatch (pyNext (.ref it)) _) (wpAny_tryCatch ?_)
  refine wpAny_pyNext_list_item (A:=A.in1) hit hl (x:=.int n t) (by simpa using ht) fun h' hit' sb=>?_
  have hS':=(sb.2 S n1).trans hS
  have hl':h'.IsList p its.toArray:=by
   obtain ⟨o,e,r⟩:=hl
   exact ⟨o,(sb.2 p (Ne.symm n2)).trans e,r⟩
  have nm:(toString "max" ++ toString ".loop" : String) = "max.loop" := by decide
  refine wpAny_bind (m:=tryCatch (holding [.int n t,.int n t] _) _) (wpAny_tryCatch (wpAny_holding (wpAny_bind (m:=compareOp .Gt (.int n t) (.int m tk)) (gt_int ?_))))
  refine wpAny_bind (wpAny_holding (wpAny_truthy_bool (wpAny_bind (wpAny_letGo (wpAny_pure ?_)))))
  by_cases hb:n > m
  ·rw[decide_eq_true hb]
   simp only[if_true]
   refine wpAny_bind (wpAny_updateSeq hS' rfl (wpAny_bind (wpAny_letGo ?_)))
   rw[nm]
   refine wpAny_pure ⟨plainId_quiet F.plain_max_loop _,ih (i+1) _ n t _ (by ac_rfl) hlt ?_ ?_ (ydt _ hS' rfl) (yai hn) (fun j a hj ha=>?_) fun M t' h'' tk'' hM hl2 kp=>?_⟩
   ·obtain ⟨o,e,r⟩:=hit'
    exact ⟨o,(yds _ _ n1).trans e,r⟩
   ·obtain ⟨o,e,r⟩:=hl'
    exact ⟨o,(yds _ _ n3).trans e,r⟩
   ·rcases Nat.lt_succ_iff_lt_or_eq.mp hj with hj | rfl
    ·have:=hle j a hj ha
     ac_rfl
    ·rw[hn] at ha
     cases ha
     exact ydx _
   ·exact hR M t' h'' tk'' hM hl2 fun b o b1 b2 e=>kp b o b1 b2 ((yds _ _ (Ne.symm b2)).trans ((sb.2 b b1).trans e))
  ·rw[decide_eq_false hb]
   simp only[Bool.false_eq_true,if_false]
   refine wpAny_bind (wpAny_letGo ?_)
   rw[nm]
   refine wpAny_pure ⟨plainId_quiet F.plain_max_loop _,ih (i+1) _ m tk c (by ac_rfl) hlt hit' hl' hS' hm (fun j a hj ha=>?_) fun M t' h'' tk'' hM hl2 kp=>?_⟩
   ·rcases Nat.lt_succ_iff_lt_or_eq.mp hj with hj | rfl
    ·exact hle j a hj ha
    ·rw[hn] at ha
     cases ha
     ac_rfl
   ·exact hR M t' h'' tk'' hM hl2 fun b o b1 b2 e=>kp b o b1 b2 ((sb.2 b b1).trans e)
theorem znA {E:Value->Shared->Prop} {s:Shared} {args:List Value} {kw:List (Str × Value)} {Q:Value->Shared->Prop} (ha:argsOk "max" ⟨args,kw⟩) (hc:wpAny (model prog w) A.in1 (Builtin.«max» ⟨args,kw⟩) (zsU prog w A Q E) E s):wpAny (model prog w) A (call (.builtin "max") args kw) Q E s:=by
 refine wpAny_call (codeAny_call_builtin F.plain_max F.entry_max ?_)
 simp only[checkBuiltinCall,F.kind_max]
 cases hs:Manifest.signature? "max" with
 | none=>exact wpAny_pure hc
 | some sg =>
  rw[argsOk,hs] at ha
  exact wpAny_of_eq (t:=Bind.checkArgs "max" sg ⟨args,kw⟩) ha hc
theorem zoR {E:Value->Shared->Prop} {s:Shared} {p:Addr} {d:Value} {its:List Value} {ns:List Int} {Q:Value->Shared->Prop} (hh:A.handled=none) (hl:s.heap.IsList p its.toArray) (len:its.length=ns.length) (val:∀ (i:Nat) n,ns[i]?=some n->∃ t,its[i]?=some (.int n t))
  (h0:ns=[]->∀ h' tk,(∀ b o,s.heap.get? b=some o->h'.get? b=some o)->Q d { s with heap:=h',toks:=tk })
  (h1:∀ M t h' tk,M∈ns->(∀ a∈ns,a<=M)->(∀ b o,s.heap.get? b=some o->h'.get? b=some o)->Q (.int M t) { s with heap:=h',toks:=tk }) :
  wpAny (model prog w) A (call (.builtin "max") [.ref p] [("default", d)]) Q E s:=by
 have nm:(toString "max" ++ toString ".loop" : String) = "max.loop" := by decide
 refine znA (zpP _ _) ?_
 refine wpAny_bind (m:=Builtin.Builtins.bindParams "max" ["key", "default"] 0 ⟨[],[("default", d)]⟩) (wpAny_of_eq (a:=[none,some d]) rfl ?_)
 refine wpAny_bind (wpAny_pure (wpAny_bind (wpAny_pyIter_list hl (wpAny_bind (wpAny_newObj_type ?_)))))
 rw[nm]
 have pl:p<s.heap.objs.size:=by
  obtain ⟨o,e,_⟩:=hl
  exact ydq e
 have k1:∀ b o,s.heap.get? b=some o->((s.heap.push { cls:=.type "list_iterator", data:=.fields #[.ref p,.int 0 0] }).push { cls:=.type "list", data:=.seq #[] }).get? b=some o:=fun b o e=>ydp _ (ydp _ e)
 have hit:((s.heap.push { cls:=.type "list_iterator", data:=.fields #[.ref p,.int 0 0] }).push { cls:=.type "list", data:=.seq #[] }).IsListIter s.heap.objs.size p 0:=⟨_,ydp _ (ydr _ rfl),rfl,rfl⟩
 have hS:((s.heap.push { cls:=.type "list_iterator", data:=.fields #[.ref p,.int 0 0] }).push { cls:=.type "list", data:=.seq #[] }).get? (s.heap.push { cls:=.type "list_iterator", data:=.fields #[.ref p,.int 0 0] }).objs.size=some { cls:=.type "list", data:=.seq #[] }:=ydr _ rfl
 have hlt:s.heap.objs.size<(s.heap.push { cls:=.type "list_iterator", data:=.fields #[.ref p,.int 0 0] }).objs.size:=ydq (ydr _ rfl)
 have hl2:=(hl.push { cls:=.type "list_iterator", data:=.fields #[.ref p,.int 0 0] }).push { cls:=.type "list", data:=.seq #[] }
 generalize (s.heap.push { cls:=.type "list_iterator", data:=.fields #[.ref p,.int 0 0] }).objs.size=S at hS hlt ⊢
 generalize (s.heap.push { cls:=.type "list_iterator", data:=.fields #[.ref p,.int 0 0] }).push { cls:=.type "list", data:=.seq #[] }=g at hit hS hl2 k1 ⊢
 have old:∀ b o,s.heap.get? b=some o->b≠s.heap.objs.size/\b≠S:=fun b o e=>by
  have:=ydq e
  exact ⟨yda this,yda (ydl this hlt)⟩
 generalize s.heap.objs.size=it at hit pl hlt old ⊢
 have d1:S≠it:=ydh hlt
 have d2:it≠p:=ydh pl
 have d3:S≠p:=ydh (ydl pl hlt)
 refine wpAny_pure ⟨plainId_quiet F.plain_max_loop _,codeAny_builtin F.entry_max_loop ?_⟩
 rw[Around.under_plainId F.plain_max_loop _]
 refine wpAny_bind (m:=seqItems? (.ref S)) (wpAny_seqItems hS rfl ?_)
 refine wpAny_bind (m:=tryCatch (pyNext (.ref it)) _) (wpAny_tryCatch ?_)
 cases ns with
 | nil =>
  obtain rfl:its=[]:=yce.mp len
  refine wpAny_pyNext_list_end (A:=A.in1) hh hit hl2 (by simp) fun h' he=>?_
  refine wpAny_bind (m:=rule _) (wpAny_rule (wpAny_pure ?_))
  exact h0 rfl _ _ fun b o e=>he b o (old b o e).1 (k1 b o e)
 | cons n ns =>
  obtain ⟨t,ht⟩:=val 0 n rfl
  refine wpAny_pyNext_list_item (A:=A.in1) hit hl2 (x:=.int n t) (by simpa using ht) fun h' hit' sb=>?_
  have hS':=(sb.2 S d1).trans hS
  refine wpAny_bind (wpAny_pure (wpAny_bind (wpAny_updateSeq hS' rfl ?_)))
  rw[nm]
  refine wpAny_pure ⟨plainId_quiet F.plain_max_loop _,zr9 (ns:=n::ns) (its:=its) hh d1 d2 d3 len val (its.length-1) 1 _ n t _ rfl (by have:=(yac.mp ht).1;ac_rfl) ?_ ?_ (ydt _ hS' rfl) (by simp) (fun j a hj ha=>?_) fun M t' h'' tk'' hM hle kp=>?_⟩
  ·obtain ⟨o,e,r⟩:=hit'
   exact ⟨o,(yds _ _ d1).trans e,r⟩
  ·obtain ⟨o,e,r⟩:=hl2
   exact ⟨o,(yds _ _ d3).trans ((sb.2 p (Ne.symm d2)).trans e),r⟩
  ·obtain rfl:j=0:=by ac_rfl
   cases ha
   exact ydx _
  ·exact h1 M t' h'' tk'' hM hle fun b o e=>kp b o (old b o e).1 (old b o e).2 ((yds _ _ (Ne.symm (old b o e).2)).trans ((sb.2 b (old b o e).1).trans (k1 b o e)))
end
def ztk (K:W.Frag) (t:TA) (d:Int):TE:=fun σ H Q=>t σ H fun xs H1=>∃ (p:Addr) (ns:List Int),xs=[.ref p]/\SqL K H1 p (ns.map V.int)/\∀ M,((ns=[]/\M=d)\/(M∈ns/\∀ a∈ns,a<=M))->Q (.int M) H1
section
variable {X:Cx}
theorem zr8 {e ed:Expr} {t:TA} {d:Int} {p kp pos:Pos} (hc:X.calm=true) (hg:Gl X "max") (hm:X.mg "max" = none) (ha:PA X [e] t) (hd:PE X ed (tC (.int d)))
  (he:backTo pos (starEach [e] X.env)=(false,eval e X.env)::backTo pos (starEach [] X.env):=by rfl):PE X (.Call (.Name "max" p) [e] [⟨some "default", ed,kp⟩] pos) (ztk X.K t d):=by
 intro pins s σ H Q I h
 refine wpAny_Call_Name_kw (zga I hg hm PyProof.Rows.boot_max ?_ (by decide) (by decide))
 refine PyProof.Rows.callWith_kw (thn (ha pos pins s σ H _ I h) fun us s1 ⟨vs,H1,I1,r1,q1⟩=>?_) he (by rw[he];rfl)
 refine kws_cons (thn (hd pins s1 σ H1 (fun y H2=>y=.int d/\H2=H1) I1 ⟨rfl,rfl⟩) fun dv s2 ⟨y,H2,I2,r2,e1,e2⟩=>kws_nil ?_)
 subst e1 e2
 obtain ⟨td,rfl⟩:=r2
 obtain ⟨p,ns,rfl,hq,qM⟩:=q1
 obtain ⟨u,rfl,rx⟩:=vals1 r1
 cases rx
 obtain ⟨its,rv,pl,hz⟩:=I2.list hq
 obtain ⟨len,val⟩:=zqo (zbX rv)
 refine zoR (d:=.int d td) (I2.ok.hd hc) pl.isList len val (fun e h' tk kp=>?_) fun M t h' tk hM hle kp=>?_
 ·exact ⟨.int d,_,I2.kept kp,⟨td,rfl⟩,qM d (.inl ⟨e,rfl⟩)⟩
 ·exact ⟨.int M,_,I2.kept kp,⟨t,rfl⟩,qM M (.inr ⟨hM,hle⟩)⟩
end
section
variable {prog:Program} {w:World} {A:Around} {E:Value->Shared->Prop} {s:Shared} {K:W.Frag} {e C f:Addr} {oe:Obj}
end
section
open PySem.Builtin PySem.Builtin.ObjectAttr
variable {prog:Program} {w:World} {A:Around} {E:Value->Shared->Prop} {s:Shared} {K:W.Frag} {e C f dx:Addr} {oe:Obj} {vs:Array Value} {mA:Str->Option Value} {name:Str} {v:Value}
end
section
open PySem.Builtin PySem.Builtin.ObjectAttr
variable {prog:Program} {w:World} {A:Around} {E:Value->Shared->Prop} {s:Shared} {K:W.Frag} {x C f dx:Addr} {o:Obj} {vs:Array Value} {mA:Str->Option Value} {name:Str} {v:Value}
set_option maxHeartbeats 2000000 in
end
section
variable {X:Cx} {pins:List (Addr × Obj)} {σ:St} {H:Hp} {s:Shared} {e:Addr}
theorem Inv.zmb (I:Inv X pins σ H s) (hn:s.heap.get? e=none) (hex:X.ex=[]):X.s₀.heap.get? e=none/\e≠X.env.locals/\(∀ x c,X.env.cells.lookup x=some c->c≠e)/\∀ p∈X.pn++pins,p.1≠e:=by
 refine ⟨?_,fun z=>?_,fun x c q z=>?_,fun p hp z=>?_⟩
 ·cases q:X.s₀.heap.get? e with
  | none=>rfl
  | some o =>
   obtain ⟨o',e1⟩:=I.base.there e o q (by rw[hex];simp)
   rw[hn] at e1;cases e1
 ·obtain ⟨m,⟨o,es,ep,ho,_⟩,_⟩:=I.loc
  rw[<-z,hn] at ho;cases ho
 ·obtain ⟨v,o,ho,hd⟩:=I.cell x c q
  rw[z,hn] at ho;cases ho
 ·have:=(I.pin p hp).1
  rw[z,hn] at this;cases this
theorem Inv.zlW {o:HO} {h':Heap} {t':Nat} (I:Inv X pins σ H s) (k:∀ b u,s.heap.get? b=some u->h'.get? b=some u) (hn:s.heap.get? e=none) (hex:X.ex=[]) (new:zai X.prog X.w (upd H e o) h' e o) :
  Inv X pins σ (upd H e o) { s with heap:=h',toks:=t' } :=
 let ⟨a,b,c,d⟩:=I.zmb hn hex
 (I.kept (t':=t') k).track (I.hok.gone hn) a b c d new
end
section
variable {X:Cx} {x:Str} {np pos:Pos} {e0:Expr} {rest:List Expr} {t:TA}
end
section
variable {X:Cx} {o value:Expr} {name:Str} {pos pos':Pos} {ta tv:TE} {C f:Addr}
end
section
variable {X:Cx} {x:Str} {np pos:Pos} {e0:Expr} {t:TA} {C f:Addr} {fd:FuncData} {ps:List Str} {name:Str} {j k:Nat}
end
section
variable {X:Cx} {o:Expr} {name:Str} {pos:Pos} {ta:TE} {C:Addr}
end
section
variable {K:W.Frag} {h:Heap} {mg:Str->Option Value} {x:Str} {C f D:Addr}
theorem zK {name:Str} (a:PySem.W.nsIn K mainGlobals x=some (some (.ref C))) (q:PySem.W.findIn K (.ref C) name=some none):PySem.W.findIn K (.ref (cA K x)) name=some none:=by rw[zcL a];exact q
end
namespace zad
def Up (xs:Array Nat):Prop:=xs.toList.Pairwise (·<·)
theorem zlm {xs:Array Nat} (h:Up xs) {i j:Nat} (hi:i<j) (hj:j<xs.size) (d e:Nat):xs.getD i d<xs.getD j e:=by
 have hi':i<xs.size:=by ac_rfl
 have q:=yaz.mp h i j (by simpa using hi') (by simpa using hj) hi
 simpa [yeg,hi',hj] using q
theorem zjS {xs:Array Nat} {j:Nat} (h:Up xs):∀ (fuel lo hi:Nat),lo<=hi->hi<=xs.size->hi-lo<=fuel->(∀ i,i<lo->xs.getD i j<j)->(∀ i,hi<=i->i<xs.size->j<=xs.getD i j) ->
  SetTable.below.go xs j fuel lo hi<=xs.size/\(∀ i,i<SetTable.below.go xs j fuel lo hi->xs.getD i j<j)/\∀ i,SetTable.below.go xs j fuel lo hi<=i->i<xs.size->j<=xs.getD i j
 | 0,lo,hi,h1,h2,h3,a,b=>by
  unfold SetTable.below.go
  exact ⟨by ac_rfl,a,fun i p q=>b i (by ac_rfl) q⟩
 | fuel+1,lo,hi,h1,h2,h3,a,b=>by
  unfold SetTable.below.go
  by_cases hl:lo<hi
  ·rw[if_pos hl]
   dsimp only
   by_cases hm:xs.getD ((lo+hi) / 2) j<j
   ·rw[if_pos hm]
    refine zjS h fuel _ hi (by ac_rfl) h2 (by ac_rfl) (fun i q=>?_) b
    by_cases e:i=(lo+hi) / 2
    ·rw[e];exact hm
    ·exact ydl (zlm h (by ac_rfl) (by ac_rfl) j j) hm
   ·rw[if_neg hm]
    refine zjS h fuel lo _ (by ac_rfl) (by ac_rfl) (by ac_rfl) a (fun i q r=>?_)
    by_cases e:i=(lo+hi) / 2
    ·rw[e];ac_rfl
    ·have:=zlm h (i:=(lo+hi) / 2) (j:=i) (by ac_rfl) r j j
     ac_rfl
  ·rw[if_neg hl]
   exact ⟨by ac_rfl,a,fun i p q=>b i (by ac_rfl) q⟩
theorem zi8 {xs:Array Nat} (h:Up xs) (j:Nat):SetTable.below xs j<=xs.size/\(∀ i,i<SetTable.below xs j->xs.getD i j<j)/\∀ i,SetTable.below xs j<=i->i<xs.size->j<=xs.getD i j:=by
 unfold SetTable.below
 exact zjS h _ _ _ (ydc _) (ycz _) (by ac_rfl) (fun i q=>by ac_rfl) fun i p q=>by ac_rfl
theorem zpn {xs:Array Nat} {j:Nat} (h:Up xs) (hj:xs[SetTable.below xs j]?≠some j):Up (SetTable.insertAt xs (SetTable.below xs j) j):=by
 obtain ⟨h0,h1,h2⟩:=zi8 h j
 generalize SetTable.below xs j=p at *
 unfold Up
 rw[SetTable.toList_insertAt]
 have e:xs.toList=xs.toList.take p++xs.toList.drop p:=(yck p _).symm
 have hp:(xs.toList.take p++xs.toList.drop p).Pairwise (·<·):=by rw[<-e];exact h
 obtain ⟨a,b,c⟩:=ybt.mp hp
 have lo:∀ x∈xs.toList.take p,x<j:=fun x hx=>by
  obtain ⟨i,hi,rfl⟩:=yav.mp hx
  rw[yau,yeb] at hi
  have:=h1 i (by ac_rfl)
  rw[List.getElem_take]
  simpa [yeg,show i<xs.size by ac_rfl] using this
 have hi:∀ x∈xs.toList.drop p,j<x:=fun x hx=>by
  obtain ⟨i,hi,rfl⟩:=yav.mp hx
  rw[ybg,yeb] at hi
  have q:=h2 (p+i) (by ac_rfl) (by ac_rfl)
  rw[List.getElem_drop]
  have g:xs.getD (p+i) j=xs.toList[p+i]'(by rw[yeb];ac_rfl):=by simp[yeg,show p+i<xs.size by ac_rfl]
  rw[g] at q
  refine Nat.lt_of_le_of_ne q fun z=>?_
  by_cases i0:i=0
  ·subst i0
   apply hj
   rw[yec (by ac_rfl:p<xs.size),z]
   simp
  ·have q0:=h2 p (ycz _) (by ac_rfl)
   have lt:=zlm h (i:=p) (j:=p+i) (by ac_rfl) (by ac_rfl) j j
   rw[g,<-z] at lt
   ac_rfl
 exact ybt.mpr ⟨a,ybr.mpr ⟨hi,b⟩,fun x hx y hy=>by
  rcases yal.mp hy with rfl | hy
  ·exact lo x hx
  ·exact c x hx y hy⟩
structure Tab (bt:Bool) (t:SetTable):Prop where
 led:t.led=!bt
 dum:t.dummies=#[]
 up:t.plain=true->Up t.place
theorem has_none (j:Nat):SetTable.has #[] j=false:=by simp[SetTable.has]
theorem zoO {t:SetTable} (hd:t.dummies=#[]) (j:Nat):t.slot j≠.dummy:=by
 unfold SetTable.slot
 dsimp only
 split
 ·intro z;cases z
 ·rw[hd,has_none];intro z;simp at z
theorem ziu {t:SetTable} (hd:t.dummies=#[]) {f:Nat->Int} {h:Int}:∀ (fuel:Nat) (p:SetTable.Probe) {j:Nat} {d:Option Nat},p.dummy=none->SetTable.probe.go t f h fuel p=some (.empty j d)->d=none/\t.slot j=.empty
 | 0,p,j,d,hp,e=>by simp[SetTable.probe.go] at e
 | fuel+1,p,j,d,hp,e=>by
  have adv:∀ q:SetTable.Probe,q.dummy=none->(t.advance q).dummy=none:=fun q hq=>by
   unfold SetTable.advance
   split
   ·exact hq
   ·exact hq
  unfold SetTable.probe.go at e
  cases hs:t.slot p.j with
  | empty =>
   rw[hs] at e
   cases e
   exact ⟨hp,hs⟩
  | dummy=>exact absurd hs (zoO hd _)
  | live i =>
   rw[hs] at e
   dsimp only at e
   split at e
   ·cases e
   ·exact ziu hd fuel _ (adv p hp) e
theorem zkK {t:SetTable} (hd:t.dummies=#[]) {h:Int} {j:Nat} {b:Bool} (e:t.freeSlot h=some (j,b)):t.place[SetTable.below t.place j]?≠some j:=by
 unfold SetTable.freeSlot at e
 split at e
 ·rename_i j' d' q
  obtain ⟨rfl,hs⟩:=ziu hd _ _ rfl (show SetTable.probe.go t _ h _ _=_ from q)
  cases e
  intro z
  have z':t.place[SetTable.below t.place j']?=some j':=z
  unfold SetTable.slot at hs
  dsimp only at hs
  rw[if_pos (by rw[z'];simp)] at hs
  cases hs
 ·cases e
theorem zfh {bt:Bool} {t:SetTable} (T:Tab bt t) (n:Nat):Tab bt (t.standIn n):=⟨T.led,rfl,fun z=>by cases z⟩
theorem znJ {bt:Bool} {t:SetTable} (T:Tab bt t) {j:Nat} (hj:t.place[SetTable.below t.place j]?≠some j):Tab bt (t.put j).1 :=
 ⟨T.led,by show (if SetTable.has t.dummies j then _ else t.dummies)=#[];rw[T.dum,has_none];rfl,fun z=>zpn (T.up z) hj⟩
theorem zrO {bt:Bool} {t:SetTable} (T:Tab bt t) (es:Array (Int × Value)) (h:Int) (x:Value):Tab bt (layNew t es h x).2.1:=by
 unfold layNew
 split
 ·rename_i j b e
  dsimp only
  unfold SetTable.orStandIn
  split
  ·exact znJ T (zkK T.dum e)
  ·exact zfh (znJ T (zkK T.dum e)) _
 ·exact zfh T _
theorem znH (owner:Array (Option Nat)) (m:Nat):(((yas m).filterMap fun j=>(owner.getD j none).map (fun k=>(j,k))).map (·.1)).Pairwise (·<·):=by
 have e:(((yas m).filterMap fun j=>(owner.getD j none).map (fun k=>(j,k))).map (·.1))=(yas m).filter fun j=>(owner.getD j none).isSome:=by
  generalize yas m=l
  induction l with
  | nil=>rfl
  | cons a l ih =>
   cases q:owner.getD a none with
   | none=>rw[yba,q,ycu,q];simpa using ih
   | some k=>rw[yba,q,ycu,q];simpa using ih
 rw[e]
 exact List.Pairwise.filter _ (List.pairwise_lt_range)
theorem zsv {bt:Bool} {t:SetTable} (T:Tab bt t) (es:Array (Int × Value)) (n:Nat):Tab bt (relayAll t es n).2.1:=by
 unfold relayAll
 split
 ·rename_i t' order e
  dsimp only
  split
  ·unfold SetTable.relaid SetTable.laid at e
   simp only[Option.bind_eq_bind,Option.bind_eq_some_iff] at e
   obtain ⟨owner,_,e⟩:=e
   cases e
   refine ⟨T.led,rfl,fun _=>?_⟩
   unfold Up
   simpa using znH owner _
  ·exact zfh T _
 ·exact zfh T _
theorem zkH (bt:Bool):Tab bt (.fresh 0 0 (!bt)):=⟨rfl,rfl,fun _=>List.Pairwise.nil⟩
end zad
namespace zad
noncomputable def intOf:Value->Int
 | .int i _=>i
 | _=>0
theorem ziR {k:Int} {v:Value} (h:Value.isInt k v=true):intOf v=k:=by
 obtain ⟨t,rfl⟩:=Value.isInt_shape h
 rfl
structure zao (prog:Program) (w:World) (h:Heap) (a:Addr) (ms:List Int):Prop where
 ex:∃ o es ep t,(h.get? a=some o/\o.ExactSet/\o.data=.set es ep t)/\(ElemsOf (intKind prog w) es.toList/\es.size<scanBound/\t.fits es.size=true)/\Tab (w.params.followText "set-order") t /\
  es.toList.map (fun e=>intOf e.2)=ms
 nd:ms.Nodup
theorem zgn {prog:Program} {w:World} {l:List (Int × Value)} (hl:ElemsOf (intKind prog w) l) (k:Int):(∃ e∈l,Value.isInt k e.2=true)↔k∈l.map fun e=>intOf e.2:=by
 constructor
 ·rintro ⟨e,he,q⟩
  exact yag.mpr ⟨e,he,ziR q⟩
 ·intro q
  obtain ⟨e,he,rfl⟩:=yag.mp q
  obtain ⟨⟨k',hk,_⟩,_⟩:=hl e he
  refine ⟨e,he,?_⟩
  rw[ziR hk];exact hk
section
variable {prog:Program} {w:World} {A:Around} {E:Value->Shared->Prop} {s:Shared} {a:Addr} {ms:List Int} {k:Int} {tk:Tok}
theorem xadd {Q:Bool->Shared->Prop} (S:zao prog w s.heap a ms) (room:ms.length+1<scanBound)
  (hQ:∀ b h' ms',Heap.SameBut a s.heap h'->zao prog w h' a ms'->(∀ m,m∈ms'↔m∈ms\/m=k)->ms'.length<=ms.length+1->Q b { s with heap:=h' }) :
  wpAny (model prog w) A (setAddHashed a (.int k tk) (hashInt k)) Q E s:=by
 obtain ⟨⟨o,es,ep,t,⟨ho,hex,hd⟩,⟨hel,hb,hf⟩,T,rfl⟩,nd⟩:=S
 have hlen:(es.toList.map fun e=>intOf e.2).length=es.size:=by simp
 have hkey:(intKind prog w).is k (.int k tk)=true:=intKind_is prog w k tk
 unfold setAddHashed setAddHashedIn
 refine wpAny_holding (wpAny_bind (wpAny_setState_of ho hd hf ?_))
 dsimp only
 rw[byScan_of (knd:=intKind prog w) rfl hb hel]
 simp only[↓reduceIte]
 unfold setAddByScan
 refine wpAny_bind (wpAny_bind (wpAny_rule (wpAny_bind (wpAny_setScan_of (knd:=intKind prog w) hkey ho hd hf hel ?_))))
 cases hr:List.findIdx? (fun e=>(intKind prog w).is k e.2) es.toList with
 | some j =>
  obtain ⟨hj,hpj,_⟩:=ybw.mp hr
  have hm:k∈es.toList.map fun e=>intOf e.2:=(zgn hel k).mp ⟨es.toList[j],yci hj,hpj⟩
  refine wpAny_pure (wpAny_pure ?_)
  have z:=hQ false s.heap _ (Heap.SameBut.refl a s.heap) ⟨⟨o,es,ep,t,⟨ho,hex,hd⟩,⟨hel,hb,hf⟩,T,rfl⟩,nd⟩ (fun m=>⟨.inl,fun q=>q.elim id fun e=>e ▸ hm⟩) (by ac_rfl)
  exact z
 | none =>
  have hm:k ∉ es.toList.map fun e=>intOf e.2:=fun q=>by
   obtain ⟨e,he,hp⟩:=(zgn hel k).mpr q
   have:=ycm.mp hr e he
   rw[show (intKind prog w).is k e.2=true from hp] at this
   cases this
  dsimp only
  have hperm:=layNew_perm t es (hashInt k) (.int k tk)
  have hfits:=layNew_fits t es (hashInt k) (.int k tk)
  have T1:=zrO T es (hashInt k) (.int k tk)
  generalize layNew t es (hashInt k) (.int k tk)=L at hperm hfits T1 ⊢
  obtain ⟨es1,t1,dm,gave⟩:=L
  dsimp only at hperm hfits T1 ⊢
  rw[Array.toList_push] at hperm
  have el1:ElemsOf (intKind prog w) es1.toList:=(hel.push (k:=k) hkey rfl).perm hperm
  have sz1:es1.size=es.size+1:=by rw[<-yeb,hperm.length_eq,yad,yeb];rfl
  have hb1:es1.size<scanBound:=by ac_rfl
  have pm:(es1.toList.map fun e=>intOf e.2).Perm ((es.toList.map fun e=>intOf e.2)++[k]):=by
   have:=hperm.map fun e=>intOf e.2
   rw[yat] at this
   exact this
  have nd1:(es1.toList.map fun e=>intOf e.2).Nodup:=pm.nodup_iff.mpr (List.nodup_append.mpr ⟨nd,(ybu _ _),fun x hx y hy z=>hm (by rw[yan] at hy;rw[<-hy,<-z];exact hx)⟩)
  have mm:∀ m,m∈(es1.toList.map fun e=>intOf e.2)↔m∈(es.toList.map fun e=>intOf e.2)\/m=k:=fun m=>by rw[pm.mem_iff,yam,yan]
  have len1:(es1.toList.map fun e=>intOf e.2).length<=(es.toList.map fun e=>intOf e.2).length+1:=by rw[pm.length_eq,yad];exact ycz _
  have fin:∀ h' es2 t2 ep2 o2,(h'.get? a=some o2/\o2.ExactSet/\o2.data=.set es2 ep2 t2)->es2.toList.Perm es1.toList->t2.fits es2.size=true->Tab (w.params.followText "set-order") t2->Heap.SameBut a s.heap h'->Q true { s with heap:=h' } :=
   fun h' es2 t2 ep2 o2 hg p2 f2 T2 sb=>by
    have q2:=p2.map fun e=>intOf e.2
    have z2:es2.size=es1.size:=by rw[<-yeb,p2.length_eq,yeb]
    refine hQ true h' _ sb ⟨⟨o2,es2,ep2,t2,hg,⟨el1.perm p2,by ac_rfl,f2⟩,T2,rfl⟩,q2.nodup_iff.mpr nd1⟩ (fun m=>(q2.mem_iff).trans (mm m)) ?_
    rw[q2.length_eq];exact len1
  have put:∀ {h:Heap} {o1:Obj} {e1:Array (Int × Value)} {p1:Nat} {u1:SetTable},h.get? a=some o1->o1.ExactSet->o1.data=.set e1 p1 u1->∀ (e2:Array (Int × Value)) (u2:SetTable),
    (h.update a (Obj.putSet e2 u2)).get? a=some { o1 with data:=.set e2 (p1+1) u2 }:=fun {h o1 e1 p1 u1} q1 _ q3 e2 u2=>by
   have z:=ydt (Obj.putSet e2 u2) q1 (by rw[putSet_of e2 u2 q3];rfl)
   rw[putSet_of e2 u2 q3] at z
   exact z
  have tl:∀ (Q':Option Bool->Shared->Prop),(∀ h',Q true { s with heap:=h' }->Q' (some true) { s with heap:=h' })->wpAny (model prog w) A (storeSet a es1 t1) (fun _ s1=>(dm=false/\t1.tooFull=true->∀ g:Sem Unit,(∀ Q₀:Unit->Shared->Prop,Q₀ () s1->wpAny (model prog w) A g Q₀ E s1) ->
    wpAny (model prog w) A (g >>= fun _=>storeSet a (relayAll t1 es1 (SetTable.grown es1.size)).1 (relayAll t1 es1 (SetTable.grown es1.size)).2.1 >>= fun _=>pure (some true)) Q' E s1)/\Q' (some true) s1) E s:=fun Q' hq=>by
   refine wpAny_storeSet_of ho hd ?_ (fits_of_scanBound hb1)
   have g1:=put ho hex hd es1 t1
   have sb1:=Heap.SameBut.update s.heap a (Obj.putSet es1 t1)
   refine ⟨fun _ g hg=>wpAny_bind (hg _ ?_),hq _ (fin _ es1 t1 _ _ ⟨g1,hex,rfl⟩ .rfl hfits T1 sb1)⟩
   have p2:=relayAll_perm t1 es1 (SetTable.grown es1.size)
   have f2:=relayAll_fits t1 es1 (SetTable.grown es1.size)
   have T2:=zsv T1 es1 (SetTable.grown es1.size)
   generalize relayAll t1 es1 (SetTable.grown es1.size)=L2 at p2 f2 T2 ⊢
   obtain ⟨es2,t2,gv2⟩:=L2
   dsimp only at p2 f2 T2 ⊢
   have z2:es2.size=es1.size:=by rw[<-yeb,p2.length_eq,yeb]
   refine wpAny_bind (wpAny_storeSet_of g1 rfl (wpAny_pure (hq _ ?_)) (fits_of_scanBound (by ac_rfl)))
   exact fin _ es2 t2 _ _ ⟨put g1 hex rfl es2 t2,hex,rfl⟩ p2 f2 T2 (sb1.trans (Heap.SameBut.update _ a _))
  refine wpAny_bind ?_
  cases gave
  all_goals
   first | refine wpAny_pure ?_ | refine wpAny_rule ?_
   split
   all_goals
    refine wpAny_bind ?_
    try rw[hashByValue_scannable 8 (show (Value.int k tk).scannable=true from rfl)]
    refine wpAny_pure ?_
    simp only[plainKind,↓reduceIte]
    refine wpAny_bind (wpAny_mono (tl (fun r s'=>wpAny (model prog w) A (match r with | some added=>pure added | none=>setAddHashedIn a (Value.int k tk) (hashInt k) 99999) Q E s') fun h' z=>wpAny_pure z) (fun _ s1 hz=>?_) fun _ _ z=>z)
    obtain ⟨hz1,hz2⟩:=hz
    split
    ·rename_i hc
     simp only[Bool.and_eq_true,Bool.not_eq_true'] at hc
     refine hz1 hc _ fun Q₀ q₀=>?_
     generalize (relayAll t1 es1 (SetTable.grown es1.size)).2.2=gb
     cases gb
     ·exact wpAny_pure q₀
     ·exact wpAny_rule q₀
    ·exact wpAny_pure hz2
end
end zad
namespace zad
theorem zao.keep {prog:Program} {w:World} {h h':Heap} {a:Addr} {ms:List Int} (S:zao prog w h a ms) (k:∀ o,h.get? a=some o->h'.get? a=some o):zao prog w h' a ms:=by
 obtain ⟨⟨o,es,ep,t,⟨ho,r⟩,r2⟩,nd⟩:=S
 exact ⟨⟨o,es,ep,t,⟨k o ho,r⟩,r2⟩,nd⟩
section
variable {prog:Program} {w:World} {A:Around} {R:Result->Shared->Prop} {I a:Addr} {fp wr:List Addr} {G:Array GenState->Array GenState->Prop} {n:Nat} {P:Nat->Value->Prop} {St:Nat->Shared->Prop} {val:Nat->Int}
theorem xloop (W:WalksS prog w A.in1 I fp wr G n P St) (ha:a ∉ fp) (hval:∀ i v,P i v->∃ t,v=.int (val i) t) (hb:n+1<scanBound):∀ (k i:Nat) (s:Shared) (ms:List Int),n-i=k->i<=n->St i s->zao prog w s.heap a ms ->
   (∀ m,m∈ms↔m∈(yas i).map val)->ms.length<=i ->
   (∀ s' ms',Moved (a::wr) G s s'->zao prog w s'.heap a ms'->(∀ m,m∈ms'↔m∈(yas n).map val)->ms'.length<=n->R (.ok (.ret .none)) s') ->
   codeAny (model prog w) A (.builtin "set.update.loop" ⟨[.ref a,.ref I],[]⟩) R s:=by
 have aw:a ∉ wr:=fun z=>ha (W.sub _ z)
 have sub:∀ b∈wr,b∈a::wr:=fun b z=>yah _ z
 intro k
 induction k with
 | zero =>
  intro i s ms hk hi st S mm hl hR
  obtain rfl:i=n:=by ac_rfl
  refine codeAny_builtin PyProof.Rows.F.entry_set_update_loop ?_
  rw[Around.under_plainId PyProof.Rows.F.plain_set_update_loop _]
  show wpAny _ A.in1 (pyNext (.ref I) >>= _) _ _ s
  refine wpAny_bind (W.done s _ _ st fun s' mv=>wpAny_pure (hR s' ms (mv.mono sub) (S.keep fun o e=>mv.heap a o aw e) mm hl))
 | succ k ih =>
  intro i s ms hk hi st S mm hl hR
  have lt:i<n:=by ac_rfl
  refine codeAny_builtin PyProof.Rows.F.entry_set_update_loop ?_
  rw[Around.under_plainId PyProof.Rows.F.plain_set_update_loop _]
  show wpAny _ A.in1 (pyNext (.ref I) >>= _) _ _ s
  refine wpAny_bind (W.item i s _ _ lt st fun v s' hP st' mv=>?_)
  obtain ⟨t,rfl⟩:=hval i v hP
  have S':=S.keep (h':=s'.heap) fun o e=>mv.heap a o aw e
  show wpAny _ A.in1 (holding [Value.int (val i) t] (setAdd a (.int (val i) t)) >>= _) _ _ s'
  refine wpAny_bind (wpAny_holding ?_)
  unfold setAdd
  refine wpAny_holding (wpAny_bind ((intKind prog w).pyHash (k:=val i) (intKind_is _ _ _ _) ?_))
  refine xadd (s:={ s' with toks:=s'.toks+1 }) (ms:=ms) S' (by ac_rfl) fun b h' ms' sb S2 mm2 l2=>?_
  refine wpAny_pure ⟨plainId_quiet PyProof.Rows.F.plain_set_update_loop _,ih (i+1) _ ms' (by ac_rfl) lt (W.frame _ s' _ _ st' (ydk _) fun b hb o e=>?_) S2 (fun m=>?_) (by ac_rfl) fun s2 ms2 mv2=>hR s2 ms2 ?_⟩
  ·rw[sb.2 b (fun z:b=a=>ha (by rw[<-z];exact hb))];exact e
  ·rw[mm2,mm,ycs,yat,yam]
   simp
  ·refine Moved.trans W.gtrans ((mv.mono sub).then_heap (ydk _) fun b o hb e=>?_) mv2
   rw[sb.2 b (fun z:b=a=>hb (by rw[z];exact yaj))];exact e
end
section
variable {prog:Program} {w:World} {A:Around} {E:Value->Shared->Prop} {s:Shared}
noncomputable abbrev empty (w:World):Obj:={ cls:=.type "set", dict:=none,data:=.set #[] 0 (.fresh 0 0 (!w.params.followText "set-order")) }
theorem ztR (v:Value) {R:Result->Shared->Prop} (h:R (.ok (.ret (.ref s.heap.objs.size))) { s with heap:=s.heap.push (empty w) }) :
  codeAny (model prog w) A (.call (.builtin "set.__new__") ⟨[.type "set", v],[]⟩) R s:=by
 refine codeAny_of_tree ?_
 show wpAny _ A.in1 (checkBuiltinCall "set.__new__" ⟨[.type "set", v],[]⟩ >>= fun _=>again (.builtin "set.__new__" ⟨[.type "set", v],[]⟩)) _ _ s
 refine wpAny_bind (wpAny_of_eq (PySem.F.newCall_set_1 v) (wpAny_pure ⟨plainId_quiet PySem.F.plain_set_new _,codeAny_builtin PySem.F.entry_set_new ?_⟩))
 rw[Around.under_plainId PySem.F.plain_set_new _]
 unfold Builtin.«set.__new__» Builtin.Frozenset.newClass
 have sub:=sub_set_self
 obtain ⟨hp,g,d,tk,os⟩:=s
 dsimp only
 wp_walk
 refine wpAny_askSetting (wpAny_pure ?_)
 simp only[newObj]
 refine wpAny_bind (wpAny_alloc (wpAny_pure (wpAny_pure ?_)))
 exact h
theorem zo1 {h:Heap}:zao prog w (h.push (empty w)) h.objs.size [] :=
 ⟨⟨_,#[],0,_,⟨ydr _ rfl,⟨rfl,rfl,rfl⟩,rfl⟩,⟨(fun e he=>by simp at he),by decide,rfl⟩,zkH _,rfl⟩,List.Pairwise.nil⟩
end
end zad
namespace zad
section
variable {prog:Program} {w:World} {A:Around} {E:Value->Shared->Prop} {s:Shared}
theorem zoV:∀ ns:List Int,(yas ns.length).map (fun i=>ns.getD i 0)=ns:=fun ns=>by
 apply ybx
 intro i
 rw[yak]
 by_cases h:i<ns.length
 ·rw[ycg h,yaa h]
  simp[h]
 ·rw[yap (by rw[yby];ac_rfl),yap (by ac_rfl)]
  rfl
theorem zsY {l:Addr} {items:Array Value} {ns:List Int} (hh:A.handled=none) (hl:s.heap.IsList l items) (hi:IntsAre items.toList ns) (hb:items.size+1<scanBound) {R:Result->Shared->Prop}
  (h:∀ h' tk ms,zao prog w h' s.heap.objs.size ms->(∀ m,m∈ms↔m∈ns)->ms.length<=ns.length->(∀ b o,b<s.heap.objs.size->s.heap.get? b=some o->h'.get? b=some o)->R (.ok (.ret .none)) { s with heap:=h',toks:=tk }) :
  codeAny (model prog w) A (.call (.builtin "set.__init__") ⟨[.ref s.heap.objs.size,.ref l],[]⟩) R { s with heap:=s.heap.push (empty w) }:=by
 have hn:items.size=ns.length:=by rw[<-IntsAre.length hi];simp
 have at0:(s.heap.push (empty w)).get? s.heap.objs.size=some (empty w):=ydr _ rfl
 have ty:Shared.TypeIs { s with heap:=s.heap.push (empty w) } (.ref s.heap.objs.size) "set" := ⟨_,at0,rfl⟩
 refine codeAny_call_builtin PySem.F.called_set.init.plain PySem.F.entry_set_init (check_set_init_1 ty ?_)
 obtain ⟨ol,hol,hcl,nl,hdl⟩:=id hl
 have lS:l<s.heap.objs.size:=ydq hol
 obtain ⟨oc,od,odt,osl⟩:=ol
 dsimp only at hcl hdl
 subst hcl hdl
 have hol':=ydp (empty w) hol
 have n1:=PySem.F.sub_list_set
 have n2:=PySem.F.sub_list_frozenset
 have n3:(Value.type "list" == Value.type "dict")=false:=by decide
 have l1:(s.heap.push (empty w)).IsList l items:=⟨_,hol',rfl,nl,rfl⟩
 unfold Builtin.«set.__init__» noKeywords Builtin.Frozenset.updateFrom
 generalize hPI:pyIter=PI
 wp_walk
 subst hPI
 refine wpAny_pyIter_list l1 (wpAny_bind (wpAny_runValue ?_))
 have h3:A.in1.in1.handled=none:=by simp[hh]
 have sz:(s.heap.push (empty w)).objs.size=s.heap.objs.size+1:=ydv _ _
 have ne:l≠(s.heap.push (empty w)).objs.size:=by rw[sz];exact yda (ydi lS)
 have nf:s.heap.objs.size ∉ [(s.heap.push (empty w)).objs.size,l]:=by
  rw[sz]
  simp only[yal,ycc,or_false,not_or]
  exact ⟨yda (ydf _),ydh lS⟩
 have S0:zao prog w ((s.heap.push (empty w)).push { cls:=.type "list_iterator", data:=.fields #[.ref l,.int 0 0] }) s.heap.objs.size []:=zo1.keep fun o e=>ydp _ e
 refine xloop (val:=fun i=>ns.getD i 0) ((Walks.list h3 _ l ne items).toS) nf (fun i v q=>IntsAre.int_at hi i v (by rw[yef];exact q)) hb (items.size-0) 0 _ [] (by ac_rfl) (ydc _)
  ?xst ?xS (fun m=>by simp) (ydc _) ?_
 case xst=>exact ⟨⟨_,ydr _ rfl,rfl,rfl⟩,l1.push _⟩
 case xS=>exact S0
 intro s' ms mv S mm len
 obtain ⟨h',g',d',tk',os'⟩:=s'
 obtain rfl:g'=s.gens:=mv.gens
 obtain rfl:d'=s.drawn:=mv.drawn
 obtain rfl:os'=s.os:=mv.os
 refine wpAny_pure ?_
 show wpAny _ _ (ret Value.none) _ _ _
 refine wpAny_pure (h h' tk' ms S (fun m=>?_) (by ac_rfl) fun b o lt e=>?_)
 ·rw[mm,hn,zoV]
 ·refine mv.heap b o ?_ (ydp _ (ydp _ e))
  rw[sz]
  simp only[yal,ycc,or_false,not_or]
  exact ⟨yda lt,yda (ydi lt)⟩
set_option maxHeartbeats 3200000 in
theorem znb {l:Addr} {items:Array Value} {ns:List Int} (hh:A.handled=none) (hl:s.heap.IsList l items) (hi:IntsAre items.toList ns) (hb:items.size+1<scanBound) {Q:Value->Shared->Prop}
  (h:∀ h' tk ms,zao prog w h' s.heap.objs.size ms->(∀ m,m∈ms↔m∈ns)->ms.length<=ns.length->(∀ b o,b<s.heap.objs.size->s.heap.get? b=some o->h'.get? b=some o)->Q (.ref s.heap.objs.size) { s with heap:=h',toks:=tk }) :
  wpAny (model prog w) A (call (.type "set") [.ref l]) Q E s:=by
 obtain ⟨c,tl,hmro⟩:=PySem.F.called_set.mro
 have m1:=PySem.F.called_set.made
 have m2:=PySem.F.called_set.sub
 have m3:=PySem.F.called_set.notType
 have m4:=PySem.F.called_set.canCreate
 have m5:=PySem.F.typeCall_set_1 (.ref l)
 refine wpAny_call (codeAny_of_tree ?_)
 show wpAny _ _ (callAny (.type "set") _) _ _ _
 refine wpAny_pure ⟨Code.quiet_builtin _ (by decide +kernel),codeAny_builtin PySem.F.entry_type_call ?_⟩
 rw[Around.under_plain (weight_type_call_type "set" [.ref l] []) rfl]
 repeat (any_goals (first | assumption | wp_step))
 refine ztR (.ref l) ?_
 have at0:(s.heap.push (empty w)).get? s.heap.objs.size=some (empty w):=ydr _ rfl
 have ty:Shared.TypeIs { s with heap:=s.heap.push (empty w) } (.ref s.heap.objs.size) "set" := ⟨_,at0,rfl⟩
 have i1:=PySem.F.called_set.init.lookup
 have i2:=PySem.F.called_set.init.bind (.ref s.heap.objs.size)
 show wpAny _ _ _ _ _ _
 repeat (any_goals (first | assumption | wp_step))
 refine zsY (by simp[hh]) hl hi hb fun h' tk ms S mm len kp=>?_
 show wpAny _ _ _ _ _ _
 repeat (any_goals (first | assumption | wp_step))
 exact h _ _ _ S mm len kp
end
end zad
namespace zad
theorem zet:Slot "set_iterator" "__next__" "set_iterator.__next__" := .of (owner:="set_iterator") (n:="__next__") (by rw[typeLookup_type,builtinLookup_eq_fast];kernel_rfl) (by decide +kernel) (by decide +kernel) (by decide +kernel)
 (by first | exact .inl (by decide +kernel) | exact .inr (by decide +kernel)) (by rw[isSubtype_type];kernel_rfl)
theorem znS:Slot "set_iterator" "__iter__" "set_iterator.__iter__" := .of (owner:="set_iterator") (n:="__iter__") (by rw[typeLookup_type,builtinLookup_eq_fast];kernel_rfl) (by decide +kernel) (by decide +kernel) (by decide +kernel)
 (by first | exact .inl (by decide +kernel) | exact .inr (by decide +kernel)) (by rw[isSubtype_type];kernel_rfl)
theorem zn6:entryFor table "set_iterator.__next__" = some Builtin.«set_iterator.__next__»:=entryFor_of_tree (by kernel_rfl)
theorem zrZ:entryFor table "set_iterator.__iter__" = some Builtin.«dict_keyiterator.__iter__»:=entryFor_alias (id' := "dict_keyiterator.__iter__") (by rw[fastTable_eq_tree];kernel_rfl) rfl (by rw[PySem.W.S.canonicalS_eq];kernel_rfl) (by rw[fastTable_eq_tree];kernel_rfl)
theorem zqd:entryFor table "set.__iter__" = some Builtin.«frozenset.__iter__»:=entryFor_alias (id' := "frozenset.__iter__") (by rw[fastTable_eq_tree];kernel_rfl) rfl (by rw[PySem.W.S.canonicalS_eq];kernel_rfl) (by rw[fastTable_eq_tree];kernel_rfl)
theorem znZ (a:Value):argsOk "set_iterator.__next__" ⟨[a],[]⟩:=by unfold argsOk;kernel_rfl
theorem zr3 (a:Value):argsOk "set_iterator.__iter__" ⟨[a],[]⟩:=by unfold argsOk;kernel_rfl
def zbi (h:Heap) (I a:Addr) (first:Value) (i n ep:Nat):Prop:=∃ o,h.get? I=some o/\o.cls=.type "set_iterator" /\ o.data=.fields #[first,.int i 0,.ref a,.int n 0,.int ep 0]
theorem zbi.ty {s:Shared} {I a:Addr} {first:Value} {i n ep:Nat} (h:zbi s.heap I a first i n ep):s.TypeIs (.ref I) "set_iterator" := let ⟨_,a,b,_⟩:=h;⟨_,a,b⟩
theorem zbi.keep {h h':Heap} {I a:Addr} {first:Value} {i n ep:Nat} (x:zbi h I a first i n ep) (k:∀ o,h.get? I=some o->h'.get? I=some o):zbi h' I a first i n ep:=let ⟨o,a,b⟩:=x;⟨o,k o a,b⟩
def za5 (h:Heap) (a:Addr) (es:Array (Int × Value)) (ep:Nat) (t:SetTable):Prop:=∃ o,h.get? a=some o/\o.data=.set es ep t/\t.fits es.size=true
theorem za5.keep {h h':Heap} {a:Addr} {es:Array (Int × Value)} {ep:Nat} {t:SetTable} (x:za5 h a es ep t) (k:∀ o,h.get? a=some o->h'.get? a=some o):za5 h' a es ep t:=let ⟨o,a,b⟩:=x;⟨o,k o a,b⟩
section
variable {prog:Program} {w:World} {A:Around} {E:Value->Shared->Prop} {s:Shared} {I a:Addr} {es:Array (Int × Value)} {ep:Nat} {t:SetTable}
theorem zbt {Q:(Array (Int × Value) × Nat × SetTable)->Shared->Prop} (O:za5 s.heap a es ep t) (h:Q (es,ep,t) s):wpAny (model prog w) A (setState a) Q E s:=by
 obtain ⟨o,ho,hd,hf⟩:=O
 exact wpAny_setState_of ho hd hf h
theorem zkF {first:Value} {i n:Nat} {Q:Value->Shared->Prop} (h:zbi s.heap I a first i n ep) (q:Q (.ref I) s):wpAny (model prog w) A (pyIter (.ref I)) Q E s:=by
 refine wpAny_pyIter_slot h.ty znS (wpAny_call_entry znS h.ty zrZ ?_ (zr3 _))
 exact wpAny_pure ⟨_,rfl, "set_iterator", _,h.ty,zet.lookup,q⟩
theorem zkr {Q:Option Value->Shared->Prop} {h1:Heap} (hh:A.handled=none) (q:∀ h',(∀ b o,h1.get? b=some o->h'.get? b=some o)->Q none { s with heap:=h' }) :
  wpAny (model prog w) A.in1 (newExc (.type "StopIteration") [] >>= fun e=>raiseNew e:Sem Fin) (fun fin s'=>∃ v,fin=.done (.ret v)/\wpAny (model prog w) A (match (Except.ok (some v):Except Value (Option Value)) with | .ok (some v)=>pure (some v) | .ok none=>unsupported "iter:the-iterator's-class-has-lost-its-__next__-amid-the-walk" | .error e=>do if <-isInstance e (.type "StopIteration") then pure none else throw e) Q E s')
   (fun e s'=>wpAny (model prog w) A (do if <-isInstance e (.type "StopIteration") then pure none else throw e) Q E s') { s with heap:=h1 }:=by
 refine wpAny_bind ?_
 simp only[newExc,newTuple]
 refine wpAny_bind (wpAny_newObj_type ?_ (by size_fits))
 refine wpAny_bind (m:=firstArgMember _ _) (wpAny_of_eq (a:=Value.none) (by first | rfl | (simp only[firstArgMember];rfl)) ?_)
 refine wpAny_newObj_type ?_ (by size_fits)
 simp only[raiseNew]
 refine wpAny_bind (wpAny_handled ?_)
 rw[show A.in1.handled=none from hh]
 refine wpAny_bind (wpAny_pure (wpAny_throw ?_))
 refine wpAny_bind (wpAny_isInstance (T:="StopIteration") (b:=true) ⟨_,ydr _ rfl,rfl⟩ isSubtype_stop ?_)
 exact wpAny_pure (q _ fun b o e=>ydp _ (ydp _ e))
end
end zad
namespace zad
section
variable {prog:Program} {w:World} {A:Around} {E:Value->Shared->Prop} {s:Shared} {I a:Addr} {es:Array (Int × Value)} {ep:Nat} {t:SetTable}
theorem zfm {h:Heap} {o:Obj} {vs:Array Value} {j:Nat} {x:Value} (ho:h.get? I=some o) (hd:o.data=.fields vs):(h.update I (Obj.mapFields (·.setIfInBounds j x))).get? I=some (Obj.mapFields (·.setIfInBounds j x) o) :=
 ydt _ ho (Obj.isFreed_of_fields (Obj.data_mapFields hd _))
theorem zmN {F i:Nat} {r:Option (Value × Nat)} {Q:Option Value->Shared->Prop} (hh:A.handled=none) (It:zbi s.heap I a (.int F 0) i es.size ep) (O:za5 s.heap a es ep t)
  (st:∀ (A':Around) (E':Value->Shared->Prop) (Q':Option (Value × Nat)->Shared->Prop),Q' r s->wpAny (model prog w) A' (setNext a F i ep) Q' E' s)
  (h1:∀ x F',r=some (x,F')->∀ h',Heap.SameBut I s.heap h'->zbi h' I a (.int F' 0) (i+1) es.size ep->Q (some x) { s with heap:=h' })
  (h2:r=none->∀ h',(∀ b o,b≠I->s.heap.get? b=some o->h'.get? b=some o)->Q none { s with heap:=h' }):wpAny (model prog w) A (pyNext (.ref I)) Q E s:=by
 obtain ⟨o,ho,hc,hd⟩:=id It
 unfold pyNext
 refine wpAny_bind (wpAny_attempt (wpAny_callSpecial?_slot (name:=Str.ofString "__next__") It.ty zet (wpAny_call_entry zet It.ty zn6 ?_ (znZ _))))
 unfold Builtin.«set_iterator.__next__»
 refine wpAny_bind (wpAny_of_eq (a:=(Value.ref I,[])) rfl ?_)
 show wpAny _ _ (fieldsOf (.ref I) >>= _) _ _ s
 refine wpAny_bind (wpAny_fieldsOf ho hd ?_)
 show wpAny _ _ (setEntries a >>= _) _ _ s
 refine wpAny_bind ?_
 unfold setEntries
 refine wpAny_bind (zbt O (wpAny_pure ?_))
 dsimp only
 rw[if_neg (by simp)]
 simp only[Int.toNat_natCast]
 refine wpAny_bind (st _ _ _ ?_)
 cases r with
 | some xf =>
  obtain ⟨x,F'⟩:=xf
  refine wpAny_bind (wpAny_setField ho hd (by simp) ?_)
  have ho1:=zfm (j:=0) (x:=rawInt F') ho hd
  have hd1:=Obj.data_mapFields hd (f:=(·.setIfInBounds 0 (rawInt F')))
  refine wpAny_bind (wpAny_setField ho1 hd1 (by simp) (wpAny_pure ⟨x,rfl,wpAny_pure (h1 x F' rfl _ ((Heap.SameBut.update ..).trans (Heap.SameBut.update ..)) ?_)⟩))
  refine ⟨_,zfm ho1 hd1,(Obj.cls_mapFields ..).trans ((Obj.cls_mapFields ..).trans hc),?_⟩
  rw[Obj.data_mapFields hd1]
  simp[rawInt]
 | none =>
  refine wpAny_bind (wpAny_setField ho hd (by simp) ?_)
  refine zkr hh fun h' k=>h2 rfl h' fun b o hb e=>k b o ?_
  exact (ydu _ _ _ _ hb).trans e
end
end zad
namespace zad
section
variable {prog:Program} {w:World} {A:Around} {E:Value->Shared->Prop} {s:Shared} {I a T:Addr} {es:Array (Int × Value)} {ep:Nat} {t:SetTable} {ps:Array Value}
def zdh (h:Heap) (T:Addr) (ps:Array Value):Prop:=∃ o n,h.get? T=some o/\o.data=.seq ps n
theorem zdh.keep {h h':Heap} (x:zdh h T ps) (k:∀ o,h.get? T=some o->h'.get? T=some o):zdh h' T ps:=let ⟨o,n,a,b⟩:=x;⟨o,n,k o a,b⟩
theorem zje {i:Nat} {Q:Option Value->Shared->Prop} (hh:A.handled=none) (It:zbi s.heap I a (.ref T) i es.size ep) (O:za5 s.heap a es ep t) (P:zdh s.heap T ps)
  (h1:∀ p,ps[i]?=some (.int p 0)->∀ k x,es[p.toNat]?=some (k,x)->∀ h',Heap.SameBut I s.heap h'->zbi h' I a (.ref T) (i+1) es.size ep->Q (some x) { s with heap:=h' })
  (h2:ps[i]?=none->∀ h',(∀ b o,b≠I->s.heap.get? b=some o->h'.get? b=some o)->Q none { s with heap:=h' })
  (hp:ps[i]?=none\/∃ p k x,ps[i]?=some (.int p 0)/\es[p.toNat]?=some (k,x)):wpAny (model prog w) A (pyNext (.ref I)) Q E s:=by
 obtain ⟨o,ho,hc,hd⟩:=id It
 obtain ⟨oT,nT,hT,hdT⟩:=P
 unfold pyNext
 refine wpAny_bind (wpAny_attempt (wpAny_callSpecial?_slot (name:=Str.ofString "__next__") It.ty zet (wpAny_call_entry zet It.ty zn6 ?_ (znZ _))))
 unfold Builtin.«set_iterator.__next__»
 refine wpAny_bind (wpAny_of_eq (a:=(Value.ref I,[])) rfl ?_)
 show wpAny _ _ (fieldsOf (.ref I) >>= _) _ _ s
 refine wpAny_bind (wpAny_fieldsOf ho hd ?_)
 show wpAny _ _ (setEntries a >>= _) _ _ s
 refine wpAny_bind ?_
 unfold setEntries
 refine wpAny_bind (zbt O (wpAny_pure ?_))
 dsimp only
 rw[if_neg (by simp)]
 simp only[Int.toNat_natCast]
 refine wpAny_bind (wpAny_seqItems hT hdT ?_)
 dsimp only
 rcases hp with hp | ⟨p,k,x,hp,hx⟩
 ·rw[hp]
  refine wpAny_bind (wpAny_setField ho hd (by simp) ?_)
  have ho1:=zfm (j:=0) (x:=rawInt 0) ho hd
  have hd1:=Obj.data_mapFields hd (f:=(·.setIfInBounds 0 (rawInt 0)))
  refine wpAny_bind (wpAny_setField ho1 hd1 (by simp) ?_)
  refine zkr hh fun h' k=>h2 hp h' fun b o hb e=>k b o ?_
  exact (ydu _ _ _ _ hb).trans ((ydu _ _ _ _ hb).trans e)
 ·rw[hp]
  dsimp only
  refine wpAny_bind ?_
  unfold setNextDrawn
  refine wpAny_bind (zbt O ?_)
  dsimp only
  rw[if_neg (by simp),hx]
  refine wpAny_pure (wpAny_bind (wpAny_setField ho hd (by simp) (wpAny_pure ⟨x,rfl,wpAny_pure (h1 p hp k x hx _ (Heap.SameBut.update ..) ?_)⟩)))
  refine ⟨_,zfm ho hd,(Obj.cls_mapFields ..).trans hc,?_⟩
  rw[Obj.data_mapFields hd]
  simp[rawInt]
theorem zpx (hh:A.handled=none) (ne:a≠I) {F:Nat->Nat} {ord:Nat->Value} (st:∀ i,i<=es.size->∀ (s:Shared),za5 s.heap a es ep t->∀ (A':Around) (E':Value->Shared->Prop) (Q':Option (Value × Nat)->Shared->Prop),
   Q' (if i<es.size then some (ord i,F (i+1)) else none) s->wpAny (model prog w) A' (setNext a (F i) i ep) Q' E' s) :
  Walks prog w A I [I,a] [I] es.size (fun i v=>v=ord i) (fun i h=>i<=es.size/\zbi h I a (.int (F i) 0) i es.size ep/\za5 h a es ep t) where
 sub:=fun b hb=>by simp at hb;simp[hb]
 frame:=fun _ _ _ st k=>⟨st.1,st.2.1.keep fun o e=>k I (by simp) o e,st.2.2.keep fun o e=>k a (by simp) o e⟩
 item:=fun i s Q E hi h hQ=>by
  refine zmN hh h.2.1 h.2.2 (fun A' E' Q' q=>st i h.1 s h.2.2 A' E' Q' q) (fun x F' e h' sb It=>?_) fun e=>?_
  ·rw[if_pos hi] at e
   cases e
   exact hQ _ h' s.toks rfl ⟨hi,It,h.2.2.keep fun o e=>(sb.2 a ne).trans e⟩ fun b o hb e=>(sb.2 b fun z=>hb (by simp[z])).trans e
  ·rw[if_pos hi] at e;cases e
 done:=fun s Q E h hQ=>by
  refine zmN hh h.2.1 h.2.2 (fun A' E' Q' q=>st _ h.1 s h.2.2 A' E' Q' q) (fun x F' e=>?_) fun _ h' k=>hQ h' s.toks fun b o hb e=>k b o (fun z=>hb (by simp[z])) e
  rw[if_neg (ydg _)] at e;cases e
 self:=fun _ _ _ _ h q=>zkF h.2.1 q
theorem znn (hh:A.handled=none) (ne:a≠I) (nT:T≠I) {ord:List Nat} (hps:ps=(ord.map fun i:Nat=>rawInt i).toArray) (hl:ord.length=es.size) (ho:∀ i∈ord,i<es.size) :
  Walks prog w A I [I,a,T] [I] es.size (fun i v=>∃ j,ord[i]?=some j/\∃ k,es[j]?=some (k,v)) (fun i h=>i<=es.size/\(zbi h I a (.ref T) i es.size ep/\za5 h a es ep t)/\zdh h T ps) where
 sub:=fun b hb=>by simp at hb;simp[hb]
 frame:=fun _ _ _ st k=>⟨st.1,⟨st.2.1.1.keep fun o e=>k I (by simp) o e,st.2.1.2.keep fun o e=>k a (by simp) o e⟩,st.2.2.keep fun o e=>k T (by simp) o e⟩
 item:=fun i s Q E hi h hQ=>by
  have hj:i<ord.length:=by ac_rfl
  have e0:ps[i]?=some (.int (ord[i]:Nat) 0):=by rw[hps];simp[hj,rawInt]
  have hlt:=ho ord[i] (yci hj)
  obtain ⟨⟨k0,x0⟩,q0⟩:∃ q,es[ord[i]]?=some q:=⟨_,yec hlt⟩
  refine zje hh h.2.1.1 h.2.1.2 h.2.2 (fun p ep' k x ex h' sb It=>?_) (fun e=>by rw[e0] at e;cases e) (.inr ⟨_,k0,x0,e0,by simpa using q0⟩)
  rw[e0] at ep'
  cases ep'
  refine hQ x h' s.toks ⟨ord[i],yaa hj,k,by simpa using ex⟩ ⟨hi,⟨It,h.2.1.2.keep fun o e=>(sb.2 a ne).trans e⟩,h.2.2.keep fun o e=>(sb.2 T nT).trans e⟩ fun b o hb e=>(sb.2 b fun z=>hb (by simp[z])).trans e
 done:=fun s Q E h hQ=>by
  have e0:ps[es.size]?=none:=by rw[hps];simp;ac_rfl
  exact zje hh h.2.1.1 h.2.1.2 h.2.2 (fun p ep'=>by rw[e0] at ep';cases ep') (fun _ h' k=>hQ h' s.toks fun b o hb e=>k b o (fun z=>hb (by simp[z])) e) (.inl e0)
 self:=fun _ _ _ _ h q=>zkF h.2.1.1 q
end
end zad
namespace zad
theorem zem {α:Type}:∀ (l:List α) (i:Nat) (h:i<l.length),(l[i]::l.eraseIdx i).Perm l
 | x::xs,0,_=>.refl _
 | x::xs,i+1,h=>(List.Perm.swap x _ _).trans ((zem xs i (by simpa using h)).cons x)
theorem znP {α:Type} (next:Nat->Nat):∀ (fuel k:Nat) (left:List α) (out:Array α),left.length=fuel->(pickOrder.go next fuel k left out).toList.Perm (out.toList++left)
 | 0,k,left,out,h=>by
  have:left=[]:=yce.mp h
  subst this
  unfold pickOrder.go
  simp
 | fuel+1,k,left,out,h=>by
  have lt:next k % left.length<left.length:=Nat.mod_lt _ (by ac_rfl)
  unfold pickOrder.go
  rw[yaa lt]
  dsimp only
  refine (znP next fuel (k+1) _ _ (by rw[ycl lt,h];rfl)).trans ?_
  rw[Array.toList_push,ybm]
  refine List.Perm.append_left _ ?_
  exact zem left _ lt
theorem zfe {α:Type} (next:Nat->Nat) (xs:Array α):(pickOrder next xs).toList.Perm xs.toList:=by
 unfold pickOrder
 simpa using znP next xs.size 0 xs.toList #[] (by simp)
noncomputable def slotAt (t:SetTable) (i:Nat):Nat:=if i=0 then 0 else t.place.getD (i-1) 0+1
theorem below_at {t:SetTable} (h:Up t.place) {i:Nat} (hi:i<=t.place.size):SetTable.below t.place (slotAt t i)=i:=by
 obtain ⟨h0,h1,h2⟩:=zi8 h (slotAt t i)
 generalize SetTable.below t.place (slotAt t i)=p at *
 have gd:∀ j,j<t.place.size->∀ d e,t.place.getD j d=t.place.getD j e:=fun j hj d e=>by simp[yeg,hj]
 by_cases hz:i=0
 ·subst hz
  refine Nat.eq_zero_of_not_pos fun hp=>?_
  have:=h1 0 hp
  unfold slotAt at this
  rw[if_pos rfl] at this
  ac_rfl
 ·have e:slotAt t i=t.place.getD (i-1) 0+1:=by unfold slotAt;rw[if_neg hz]
  rcases ydj p i with lt | rfl | gt
  ·have:=h2 (i-1) (by ac_rfl) (by ac_rfl)
   rw[gd _ (by ac_rfl) _ 0,e] at this
   ac_rfl
  ·rfl
  ·have:=h1 i gt
   have u:=zlm h (i:=i-1) (j:=i) (by ac_rfl) (by ac_rfl) 0 0
   rw[gd _ (by ac_rfl) _ 0,e] at this
   ac_rfl
section
variable {prog:Program} {w:World} {a:Addr} {es:Array (Int × Value)} {ep:Nat} {t:SetTable}
theorem zou (hb:w.params.followText "set-order" = false) (T:Tab false t) (hf:t.fits es.size=true) (hp:(!t.plain && decide (es.size > 1))=false) (i:Nat) (hi:i<=es.size) (s:Shared) (O:za5 s.heap a es ep t) (A':Around)
  (E':Value->Shared->Prop) (Q':Option (Value × Nat)->Shared->Prop) (q:Q' (if i<es.size then some ((es.getD i (0,.none)).2,slotAt t (i+1)) else none) s):wpAny (model prog w) A' (setNext a (slotAt t i) i ep) Q' E' s:=by
 have fz:t.place.size=es.size:=by simp[SetTable.fits] at hf;exact hf.1
 have up:Up t.place:=by
  by_cases pl:t.plain=true
  ·exact T.up pl
  ·have:es.size<=1:=by simp[pl] at hp;exact hp
   unfold Up
   have l1:t.place.toList.length<=1:=by rw[yeb];ac_rfl
   match hq:t.place.toList,l1 with
   | [],_=>exact .nil
   | [x],_=>exact ybu _ _
   | _::_::_,z=>simp at z
 unfold setNext
 refine wpAny_bind (zbt O ?_)
 unfold setsByText
 refine wpAny_bind (wpAny_bind (wpAny_askSetting (wpAny_pure ?_)))
 rw[show (model prog w).w.params.followText "set-order" = false from hb]
 rw[if_neg Bool.false_ne_true]
 dsimp only
 show wpAny _ _ (if (!t.plain && decide (es.size > 1))=true then _ else _) _ _ _
 rw[if_neg (by rw[hp];exact Bool.false_ne_true)]
 refine wpAny_bind ?_
 show wpAny _ _ (if (!t.led && !es.isEmpty)=true then _ else _) _ _ _
 rw[if_neg (by rw[T.led];simp)]
 refine wpAny_pure ?_
 rw[below_at up (by ac_rfl)]
 refine wpAny_pure ?_
 by_cases lt:i<es.size
 ·rw[if_pos lt] at q
  rw[yec lt,yec (by ac_rfl:i<t.place.size)]
  dsimp only
  have e1:(es.getD i (0,.none)).2=es[i].2:=by simp[yeg,lt]
  have e2:slotAt t (i+1)=t.place[i]'(by ac_rfl)+1:=by simp[slotAt,yeg,show i<t.place.size by ac_rfl]
  rw[e1,e2] at q
  exact q
 ·rw[if_neg lt] at q
  rw[Array.getElem?_eq_none (by ac_rfl)]
  exact q
theorem zpQ (hb:w.params.followText "set-order" = true) (i:Nat) (hi:i<=es.size) (s:Shared) (O:za5 s.heap a es ep t) (A':Around)
  (E':Value->Shared->Prop) (Q':Option (Value × Nat)->Shared->Prop) (q:Q' (if i<es.size then some (((pickOrder (w.params.setOrder a ep) es).getD i (0,.none)).2,0) else none) s):wpAny (model prog w) A' (setNext a 0 i ep) Q' E' s:=by
 have sz:(pickOrder (w.params.setOrder a ep) es).size=es.size:=by
  have:=(zfe (w.params.setOrder a ep) es).length_eq
  simpa using this
 unfold setNext
 refine wpAny_bind (zbt O ?_)
 unfold setsByText
 refine wpAny_bind (wpAny_bind (wpAny_askSetting (wpAny_pure ?_)))
 rw[show (model prog w).w.params.followText "set-order" = true from hb,if_pos rfl]
 dsimp only
 rw[if_neg (by simp)]
 refine wpAny_bind ?_
 unfold setWalk
 refine wpAny_bind (zbt O ?_)
 unfold setsByText
 refine wpAny_bind (wpAny_bind (wpAny_askSetting (wpAny_pure ?_)))
 rw[show (model prog w).w.params.followText "set-order" = true from hb,if_pos rfl]
 refine wpAny_bind (wpAny_askSetting (wpAny_pure (wpAny_pure ?_)))
 show Q' (Option.map (fun e=>(e.2,0)) (pickOrder (w.params.setOrder a ep) es)[i]?) s
 by_cases lt:i<es.size
 ·rw[if_pos lt] at q
  rw[yec (by ac_rfl)]
  have e1:((pickOrder (w.params.setOrder a ep) es).getD i (0,.none)).2=((pickOrder (w.params.setOrder a ep) es)[i]'(by ac_rfl)).2:=by simp[yeg,show i<(pickOrder (w.params.setOrder a ep) es).size by ac_rfl]
  rw[e1] at q
  exact q
 ·rw[if_neg lt] at q
  rw[Array.getElem?_eq_none (by ac_rfl)]
  exact q
end
end zad
namespace zad
section
variable {prog:Program} {w:World} {A:Around} {E:Value->Shared->Prop}
theorem zoT {src:Source} {n:Nat} {s:Shared} {Q:Nat->Shared->Prop} (hn:0<n) (h:∀ i d,i<n->Q i { s with drawn:=d }):wpAny (model prog w) A (choose src n) Q E s :=
 fun Γ p hΓ=>⟨by ac_rfl,h _ _ (Nat.mod_lt _ hn)⟩
theorem zhS {α:Type}:∀ (n:Nat) (xs:List α) (s:Shared) (Q:List α->Shared->Prop),xs.length=n->(∀ l d,l.Perm xs->Q l { s with drawn:=d })->wpAny (model prog w) A (drawOrder n xs) Q E s
 | 0,xs,s,Q,hl,h=>by
  have:xs=[]:=yce.mp hl
  subst this
  unfold drawOrder
  exact wpAny_pure (h [] s.drawn (.refl _))
 | n+1,[],s,Q,hl,h=>by simp at hl
 | n+1,x::xs,s,Q,hl,h=>by
  unfold drawOrder
  refine wpAny_bind (zoT (by simp) fun i d hi=>?_)
  rw[yaa hi]
  refine wpAny_bind (zhS n _ _ _ (by rw[ycl hi,hl];rfl) fun l d' hp=>wpAny_pure (h _ d' ?_))
  exact (hp.cons _).trans (zem (x::xs) i hi)
end
theorem zmp {P:Nat->Value->Prop} {acc:Array Value} {n:Nat} {f:Nat->Value} (h:ItemsOf P acc n) (hf:∀ i v,i<n->P i v->v=f i):acc.toList=(yas n).map f:=by
 apply ybx
 intro j
 rw[yak]
 by_cases lt:j<n
 ·have e:acc.toList[j]?=some (acc[j]'(by rw[h.1];exact lt)):=by rw[yef];exact yec _
  rw[e,ycg lt]
  exact congrArg some (hf j _ lt (h.2 j _ (yec _)))
 ·rw[yap (by rw[yeb,h.1];ac_rfl),yap (by rw[yby];ac_rfl)]
  rfl
theorem zfo {α β:Type} (xs:Array α) (d:α) (f:α->β):(yas xs.size).map (fun i=>f (xs.getD i d))=xs.toList.map f:=by
 apply ybx
 intro j
 rw[yak,yak]
 by_cases lt:j<xs.size
 ·rw[ycg lt,yef,yec lt]
  simp[yeg,lt]
 ·rw[yap (by rw[yby];ac_rfl),yap (by rw[yeb];ac_rfl)]
  rfl
section
variable {prog:Program} {w:World} {A:Around} {E:Value->Shared->Prop} {s:Shared} {a:Addr} {es:Array (Int × Value)} {ep:Nat} {t:SetTable}
theorem zqm {B:Around} {Q:Value->Shared->Prop} (hB:B.handled=none) (ty:s.TypeIs (.ref a) "set") (O:za5 s.heap a es ep t) (T:Tab (w.params.followText "set-order") t) (hz:es.size<=sizeLine)
  (hQ:∀ I h' d' fp P (St:Nat->Heap->Prop),Walks prog w B I fp [I] es.size P St->St 0 h'->(∀ b∈fp,b=a\/(s.heap.objs.size<=b/\b<h'.objs.size))->(∀ acc,ItemsOf P acc es.size->acc.toList.Perm (es.toList.map (·.2))) ->
   (∀ b o,s.heap.get? b=some o->h'.get? b=some o)->s.heap.objs.size<=I->Q (.ref I) { s with heap:=h',drawn:=d' }):wpAny (model prog w) A (pyIter (.ref a)) Q E s:=by
 have hf:t.fits es.size=true:=O.choose_spec.2.2
 have alt:a<s.heap.objs.size:=ydq O.choose_spec.1
 refine wpAny_pyIter_slot ty PySem.F.slot_set_iter (wpAny_call_entry PySem.F.slot_set_iter ty zqd ?_ (PySem.F.args_set_iter_1 _))
 unfold Builtin.«frozenset.__iter__» Builtin.Frozenset.slot0
 refine wpAny_bind (wpAny_bind (wpAny_of_eq (a:=(Value.ref a,[])) rfl (wpAny_of_eq (a:=a) rfl ?_)))
 unfold Builtin.Frozenset.sizeOf setEntries
 refine wpAny_bind (wpAny_bind (wpAny_bind (zbt O (wpAny_pure (wpAny_pure ?_)))))
 unfold setDrawn setsByText
 refine wpAny_bind (wpAny_bind (zbt O (wpAny_bind (wpAny_bind (wpAny_askSetting (wpAny_pure (wpAny_pure ?_)))))))
 show wpAny _ _ (if (!w.params.followText "set-order" && (!t.plain && decide (es.size > 1)))=true then _ else _) _ _ _
 have body:∀ (first:Value) (s1:Shared),za5 s1.heap a es ep t->(∀ I h',h'=s1.heap.push { cls:=.type "set_iterator", data:=.fields #[first,.int (0:Nat) 0,.ref a,.int es.size 0,.int ep 0] }->I=s1.heap.objs.size->zbi h' I a first 0 es.size ep->za5 h' a es ep t->Q (.ref I) { s1 with heap:=h' }) ->
   wpAny (model prog w) A.in1 (setEpoch a >>= fun e=>newFields "set_iterator" [first,rawInt 0,.ref a,rawInt es.size,rawInt e] >>= fun x=>ret x) (fun fin s'=>∃ v,fin=.done (.ret v)/\∃ T' r,s'.TypeIs v T'/\typeLookup (.type T') "__next__" = pure (some r)/\Q v s') E s1:=fun first s1 O1 q=>by
  unfold setEpoch
  refine wpAny_bind (wpAny_bind (zbt O1 (wpAny_pure ?_)))
  refine wpAny_bind (wpAny_newObj_type (wpAny_pure ?_))
  have g:(s1.heap.push { cls:=.type "set_iterator", data:=.fields #[first,.int (0:Nat) 0,.ref a,.int es.size 0,.int ep 0] }).get? s1.heap.objs.size=some { cls:=.type "set_iterator", data:=.fields #[first,.int (0:Nat) 0,.ref a,.int es.size 0,.int ep 0] }:=ydr _ rfl
  exact ⟨_,rfl, "set_iterator", _,⟨_,g,rfl⟩,zet.lookup,q _ _ rfl rfl ⟨_,g,rfl,rfl⟩ (O1.keep fun o e=>ydp _ e)⟩
 have pin:∀ (F:Nat->Nat) (ord:Nat->Value),F 0=0->(∀ i,i<=es.size->∀ (s:Shared),za5 s.heap a es ep t->∀ (A':Around) (E':Value->Shared->Prop) (Q':Option (Value × Nat)->Shared->Prop),
   Q' (if i<es.size then some (ord i,F (i+1)) else none) s->wpAny (model prog w) A' (setNext a (F i) i ep) Q' E' s)->((yas es.size).map ord).Perm (es.toList.map (·.2)) ->
   wpAny (model prog w) A.in1 (setEpoch a >>= fun e=>newFields "set_iterator" [rawInt 0,rawInt 0,.ref a,rawInt es.size,rawInt e] >>= fun x=>ret x) (fun fin s'=>∃ v,fin=.done (.ret v)/\∃ T' r,s'.TypeIs v T'/\typeLookup (.type T') "__next__" = pure (some r)/\Q v s') E s:=fun F ord F0 st pm=>by
  refine body (rawInt 0) s O fun I h' eh eI It O'=>?_
  have Ilt:I<h'.objs.size:=by rw[eh,eI,ydv];exact ydf _
  refine hQ I h' s.drawn [I,a] _ _ (zpx (prog:=prog) (w:=w) (A:=B) hB (by rw[eI];exact yda alt) st) ⟨ydc _,by rw[F0];exact It,O'⟩ (fun b hb=>?_) (fun acc hacc=>?_) (fun b o e=>by rw[eh];exact ydp _ e) (by rw[eI];exact ycz _)
  ·simp only[yal,ycc,or_false] at hb
   rcases hb with rfl | rfl
   ·exact .inr ⟨by rw[eI];exact ycz _,Ilt⟩
   ·exact .inl rfl
  ·rw[zmp hacc fun i v _ q=>q]
   exact pm
 by_cases hd:(!w.params.followText "set-order" && (!t.plain && decide (es.size > 1)))=true
 ·rw[if_pos hd]
  refine wpAny_bind (zhS es.size (yas es.size) s _ (by simp) fun ord d hp=>?_)
  have ol:ord.length=es.size:=by rw[hp.length_eq];simp
  refine wpAny_bind (wpAny_newObj_type ?_ ?_)
  ·refine body (.ref s.heap.objs.size) { s with heap:=s.heap.push { cls:=.type "tuple", data:=.seq (ord.map fun i:Nat=>rawInt i).toArray },drawn:=d } (O.keep fun o e=>ydp _ e) fun I h' eh eI It O'=>?_
   have eI':I=s.heap.objs.size+1:=by rw[eI];exact ydv _ _
   have Ilt:h'.objs.size=s.heap.objs.size+2:=by rw[eh,ydv,ydv]
   have P:zdh h' s.heap.objs.size (ord.map fun i:Nat=>rawInt i).toArray:=⟨_,_,by rw[eh];exact ydp _ (ydr _ rfl),rfl⟩
   refine hQ I h' d [I,a,s.heap.objs.size] _ _ (znn (prog:=prog) (w:=w) (A:=B) hB (by rw[eI'];exact yda (ydi alt)) (by rw[eI'];exact yda (ydf _)) rfl ol fun i hi=>by
    have:=hp.mem_iff.mp hi
    simpa using this) ⟨ydc _,⟨It,O'⟩,P⟩ (fun b hb=>?_) (fun acc hacc=>?_) (fun b o e=>by rw[eh];exact ydp _ (ydp _ e)) (by rw[eI'];exact ydk _)
   ·simp only[yal,ycc,or_false] at hb
    rcases hb with rfl | rfl | rfl
    ·exact .inr ⟨by rw[eI'];exact ydk _,by rw[Ilt,eI'];exact ydf _⟩
    ·exact .inl rfl
    ·exact .inr ⟨ycz _,by rw[Ilt];exact ydi (ydf _)⟩
   ·have e1:acc.toList=(yas es.size).map fun i=>(es.getD (ord.getD i 0) (0,.none)).2:=zmp hacc fun i v lt ⟨j,hj,k,hk⟩=>by
     have hlt:j<es.size:=by
      have:=hp.mem_iff.mp (yai hj)
      simpa using this
     have hi:i<ord.length:=by ac_rfl
     rw[yaa hi] at hj
     cases hj
     rw[yec hlt] at hk
     cases hq:es[ord[i]]
     rw[hq] at hk
     cases hk
     simp[yeg,hi,hlt,hq]
    rw[e1]
    have e2:(yas es.size).map (fun i=>(es.getD (ord.getD i 0) (0,.none)).2)=ord.map fun j=>(es.getD j (0,.none)).2:=by
     have:=zfo ord.toArray 0 fun j=>(es.getD j (0,.none)).2
     simpa [ol] using this
    rw[e2,<-zfo es (0,.none) (·.2)]
    exact hp.map _
  ·show (ord.map fun i:Nat=>rawInt i).toArray.size<=sizeLine
   simp[ol,hz]
 ·rw[if_neg hd]
  refine wpAny_bind (wpAny_pure ?_)
  cases hb:w.params.followText "set-order" with
  | true =>
   refine pin (fun _=>0) (fun i=>((pickOrder (w.params.setOrder a ep) es).getD i (0,.none)).2) rfl (fun i hi s O A' E' Q' q=>zpQ hb i hi s O A' E' Q' q) ?_
   have sz:(pickOrder (w.params.setOrder a ep) es).size=es.size:=by
    have:=(zfe (w.params.setOrder a ep) es).length_eq
    simpa using this
   rw[<-sz,zfo]
   exact (zfe _ _).map _
  | false =>
   have T':=T
   rw[hb] at T'
   rw[hb] at hd
   refine pin (slotAt t) (fun i=>(es.getD i (0,.none)).2) rfl (fun i hi s O A' E' Q' q=>zou hb T' hf (by simpa using hd) i hi s O A' E' Q' q) ?_
   rw[zfo]
end
end zad
namespace zad
theorem zrk:typeLookup (.type "set") "__len__" = pure (some (.builtin "set.__len__")):=by rw[typeLookup_type,builtinLookup_eq_fast];kernel_rfl
theorem zdP {M:Model} {A:Around} {α:Type} {Q:α->Shared->Prop} {E:Value->Shared->Prop} {s:Shared} {c:Prop} [Decidable c] {x y:Sem α} (hc:c) (h:wpAny M A x Q E s):wpAny M A (if c then x else y) Q E s:=by rw[if_pos hc];exact h
theorem zau {M:Model} {A:Around} {α:Type} {Q:α->Shared->Prop} {E:Value->Shared->Prop} {s:Shared} {c:Prop} [Decidable c] {x y:Sem α} (hc:¬ c) (h:wpAny M A y Q E s):wpAny M A (if c then x else y) Q E s:=by rw[if_neg hc];exact h
section
variable {prog:Program} {w:World} {A:Around} {E:Value->Shared->Prop} {s:Shared} {a:Addr} {es:Array (Int × Value)} {ep:Nat} {t:SetTable}
theorem zqy {Q:Bool->Shared->Prop} (ty:s.TypeIs (.ref a) "set") (q:Q false s):wpAny (model prog w) A (Builtin.List.listLengthHint (.ref a)) Q E s:=by
 unfold Builtin.List.listLengthHint
 refine wpAny_bind (wpAny_specialOf ty zrk ?_)
 generalize hid:("set.__len__" : String)=id0
 have h1:splitId id0=some ("set", "__len__"):=by subst hid;decide +kernel
 dsimp only
 rw[h1]
 subst hid
 refine wpAny_bind (wpAny_isInstance (b:=true) ty (by rw[isSubtype_type];kernel_rfl) ?_)
 refine zau (by simp) (zdP (by decide +kernel) (wpAny_bind (wpAny_typeOf ty ?_)))
 exact wpAny_pure q
theorem znz {Q:List Value->Shared->Prop} (hh:A.handled=none) (ty:s.TypeIs (.ref a) "set") (O:za5 s.heap a es ep t) (T:Tab (w.params.followText "set-order") t) (hz:es.size<=sizeLine)
  (hQ:∀ vs h' d' tk,vs.Perm (es.toList.map (·.2))->(∀ b o,s.heap.get? b=some o->h'.get? b=some o)->Q vs { s with heap:=h',drawn:=d',toks:=tk }):wpAny (model prog w) A (collect (.ref a)) Q E s:=by
 have alt:a<s.heap.objs.size:=ydq O.choose_spec.1
 unfold collect
 refine wpAny_bind (wpAny_runValue (codeAny_builtin PySem.F.entry_proto_collect ?_))
 rw[Around.under_plainId PySem.F.plain_proto_collect _]
 show wpAny _ A.in1 (newList [] >>= fun l=>again (.builtin "list.__iadd__" ⟨[l,.ref a],[]⟩)) _ _ s
 refine wpAny_bind (wpAny_newObj_type ?_)
 refine wpAny_pure ⟨plainId_quiet PySem.F.plain_list_iadd _,codeAny_builtin PySem.F.entry_list_iadd ?_⟩
 rw[Around.under_plainId PySem.F.plain_list_iadd _]
 show wpAny _ A.in1 (Builtin.List.listExtendWith (.ref s.heap.objs.size) (.ref a) (.ref s.heap.objs.size)) _ _ _
 have ne:Builtin.List.listSameRef (.ref s.heap.objs.size) (.ref a)=false:=by
  have:s.heap.objs.size≠a:=ydh alt
  simp[Builtin.List.listSameRef,this]
 obtain ⟨oa,hoa,hca⟩:=id ty
 have ty1:({ s with heap:=s.heap.push { cls:=.type "list", data:=.seq ([]:List Value).toArray } }:Shared).TypeIs (.ref a) "set" := ⟨oa,ydp _ hoa,hca⟩
 unfold Builtin.List.listExtendWith
 refine wpAny_bind (wpAny_typeOf ty1 ?_)
 rw[if_neg (by rw[ne];decide)]
 refine wpAny_bind (zqm (B:=A.in1) (by simp[hh]) ty1 (O.keep fun o e=>ydp _ e) T hz fun I h' d' fp P St W st0 hfp pm kp hI=>?_)
 have S1:h'.get? s.heap.objs.size=some { cls:=.type "list", data:=.seq ([]:List Value).toArray }:=kp _ _ (ydr _ rfl)
 refine wpAny_bind (wpAny_holding (zqy ⟨oa,kp _ _ (ydp _ hoa),hca⟩ ?_))
 refine zdP (by decide +kernel) (wpAny_bind (wpAny_rule (wpAny_bind ?_)))
 unfold Builtin.List.listTouch
 have g1:(h'.update s.heap.objs.size (Obj.mapSeq (·.push Value.none))).get? s.heap.objs.size=some { cls:=.type "list", data:=.seq #[.none] 1 }:=ydt _ S1 rfl
 have g2:((h'.update s.heap.objs.size (Obj.mapSeq (·.push Value.none))).update s.heap.objs.size (Obj.mapSeq (·.pop))).get? s.heap.objs.size=some { cls:=.type "list", data:=.seq #[] 2 }:=ydt _ g1 rfl
 refine wpAny_bind (listUpdate_at S1 rfl (listUpdate_at g1 rfl ?_ (by decide) (by decide)) (by decide) (by decide))
 have Sf:s.heap.objs.size ∉ fp:=fun z=>by
  rcases hfp _ z with e | ⟨e,_⟩
  ·exact absurd alt (by rw[<-e];exact ydg _)
  ·rw[ydv] at e
   exact Nat.not_succ_le_self _ e
 have st1:St 0 ((h'.update s.heap.objs.size (Obj.mapSeq (·.push Value.none))).update s.heap.objs.size (Obj.mapSeq (·.pop))):=W.frame 0 h' _ st0 fun b hb o e=>by
  have nb:b≠s.heap.objs.size:=fun z=>Sf (z ▸ hb)
  exact (ydu _ _ _ _ nb).trans ((ydu _ _ _ _ nb).trans e)
 refine wpAny_pure ⟨plainId_quiet PySem.F.plain_extend_loop _,codeAny_extend_loopS W.toS hz _ Sf _ es.size 0 _ #[] 2 rfl (ydc _) st1 g2 (ItemsOf.nil P) fun s' acc c mv S' hacc=>?_⟩
 show wpAny _ A (load s.heap.objs.size >>= _) _ _ s'
 refine wpAny_bind (wpAny_load S' (wpAny_pure ?_))
 obtain ⟨h2,g',d2,tk',os'⟩:=s'
 obtain rfl:g'=s.gens:=mv.gens
 obtain rfl:os'=s.os:=mv.os
 refine hQ acc.toList h2 d2 tk' (pm acc hacc) fun b o e=>mv.heap b o ?_ ?_
 ·intro z
  have lt:=ydq e
  rcases yal.mp z with z | z
  ·exact absurd lt (by rw[z];exact ydg _)
  ·have z':b=I:=by simpa using z
   rw[z'] at lt
   have:s.heap.objs.size+1<=I:=by rw[<-ydv];exact hI
   exact absurd (ydb lt (yde (ydk _) this)) (ydg _)
 ·have nb:b≠s.heap.objs.size:=yda (ydq e)
  exact (ydu _ _ _ _ nb).trans ((ydu _ _ _ _ nb).trans (kp b o (ydp _ e)))
end
end zad
namespace zad
theorem zn1:∀ {vs:List Value},(∀ v∈vs,∃ m t,v=.int m t)->IntsAre vs (vs.map intOf)
 | [],_=>.nil
 | v::vs,h=>by
  obtain ⟨m,t,rfl⟩:=h v (yaj)
  exact .cons m t (zn1 fun v hv=>h v (yah _ hv))
section
variable {prog:Program} {w:World} {A:Around} {E:Value->Shared->Prop} {s:Shared} {a:Addr} {ms:List Int}
theorem zoE {Q:Value->Shared->Prop} (hh:A.handled=none) (S:zao prog w s.heap a ms) (h64:ms.length<64)
  (h:∀ h' d' tk (out:Array Value) ns' p n,IntsAre out.toList ns'->ns'.Perm ms->ns'.Pairwise (·<=·)->(∀ b o,s.heap.get? b=some o->h'.get? b=some o)->s.heap.get? p=none->h'.get? p=some (seqObj "list" out n)->Q (.ref p) { s with heap:=h',drawn:=d',toks:=tk }) :
  wpAny (model prog w) A (call (.builtin "sorted") [.ref a]) Q E s:=by
 obtain ⟨⟨o,es,ep,t,⟨ho,hex,hd⟩,⟨hel,hb,hf⟩,T,rfl⟩,nd⟩:=S
 have lz:es.size<64:=by simpa using h64
 refine Calls.call_function_entry kind_sorted plain_sorted entry_sorted (args_sorted1 _) ?_
 unfold Builtin.«sorted»
 refine wpAny_bind (m:=checkCount "sorted" 1 1 _) (wpAny_pure ?_)
 refine wpAny_bind (znz (by simp[hh]) ⟨o,ho,hex.1⟩ ⟨o,ho,hd,hf⟩ T (by rw[sizeLine_eq];ac_rfl) fun vs h1 d1 tk1 pm kp=>?_)
 have vi:IntsAre vs (vs.map intOf):=zn1 fun v hv=>by
  obtain ⟨e,he,rfl⟩:=yag.mp (pm.mem_iff.mp hv)
  obtain ⟨⟨k,hk,_⟩,_⟩:=hel e he
  obtain ⟨t,e2⟩:=Value.isInt_shape (show Value.isInt k e.2=true from hk)
  exact ⟨k,t,e2⟩
 have vp:(vs.map intOf).Perm (es.toList.map fun e=>intOf e.2):=by
  have:=pm.map intOf
  rwa [ybn] at this
 have vl:vs.length<64:=by rw[pm.length_eq];simpa using lz
 have sl:vs.length<=sizeLine:=by rw[sizeLine_eq];ac_rfl
 refine wpAny_bind (wpAny_newList ?_ (by first | exact sl | simpa using sl))
 have g0:(h1.push (seqObj "list" vs.toArray 0)).get? h1.objs.size=some (seqObj "list" vs.toArray 0):=ydr _ rfl
 have ol:s.heap.get? h1.objs.size=none:=by
  cases q:s.heap.get? h1.objs.size with
  | none=>rfl
  | some u=>exact absurd (ydq (kp _ _ q)) (ydg _)
 show wpAny _ _ _ _ _ { s with heap:=h1.push (seqObj "list" vs.toArray 0),drawn:=d1,toks:=tk1 }
 refine wpAny_bind (wpAny_holding (wpAny_call_entry slot_list_sort ⟨_,g0,rfl⟩ entry_list_sort (list_sort_tree g0 vi vl fun out ns' a1 a2 a3=>⟨_,rfl,?_⟩) (args_list_sort _)))
 obtain ⟨n,g1⟩:=sortedHeap_at (out:=out) g0
 refine wpAny_pure ⟨_,rfl,h _ _ _ out ns' h1.objs.size n a1 (a2.trans vp) a3 (fun b u e=>?_) ol g1⟩
 have e1:=kp b u e
 have lt:=ydq e1
 rw[sortedHeap_old (yda lt) (by rw[size_push'];exact ydi lt)]
 exact ydp _ e1
end
end zad
noncomputable def zki (P:Program) (w:World) (a:Addr) (ms:List Int):HO:=.ext fun h=>zad.zao P w h a ms
theorem zad.zao.obj {P:Program} {w:World} {h:Heap} {a:Addr} {ms:List Int} (S:zad.zao P w h a ms):∃ o,h.get? a=some o:=let ⟨⟨o,_,_,_,⟨e,_⟩,_⟩,_⟩:=S;⟨o,e⟩
section
variable {X:Cx} {pins:List (Addr × Obj)} {σ:St} {H:Hp} {s:Shared}
theorem Inv.drew (I:Inv X pins σ H s) (d:Drawn):Inv X pins σ H { s with drawn:=d }:=⟨I.ok,I.os,I.bare,I.base,I.loc,I.cell,I.free,I.freeC,I.pin,I.hok,I.len⟩
theorem zfi (hc:X.calm=true):zbc X (.type "set") (fun xs H Q=>∃ (l:Addr) (ns:List Int),xs=[.ref l]/\SqL X.K H l (ns.map V.int)/\ns.length<4000 /\
  ∀ (p:Addr) (H':Hp) (ms:List Int),H p=none->Same H H'->H' p=some (zki X.prog X.w p ms)->ms.Nodup->(∀ m,m∈ms↔m∈ns)->ms.length<=ns.length->Q (.ref p) H'):=by
 intro pins s σ H xs us Q I r h
 obtain ⟨l,ns,rfl,hq,hl,q⟩:=h
 obtain ⟨u,rfl,rx⟩:=vals1 r
 cases rx
 obtain ⟨its,rv,pl,hz⟩:=I.list hq
 have len:its.length=ns.length:=by rw[<-rv.length,yab]
 refine zad.znb (I.ok.hd hc) pl.isList (by simpa using zbX rv) (by show its.toArray.size+1<4096;simp;ac_rfl) fun h' tk ms S mm lm kp=>?_
 have k:∀ b o,s.heap.get? b=some o->h'.get? b=some o:=fun b o e=>kp b o (ydq e) e
 refine ⟨.ref s.heap.objs.size,_,I.laid (o:=zki X.prog X.w s.heap.objs.size ms) k (ycz _) ⟨S,S.obj,fun h1 h2 p e=>p.keep e⟩,rfl,q _ _ ms (I.hok.fresh (ycz _)) (zc (I.hok.fresh (ycz _)) _) zg S.nd mm lm⟩
theorem zhl (hc:X.calm=true) (hex:X.ex=[]:=by rfl):zbc X (.builtin "sorted") (fun xs H Q=>∃ (p:Addr) (ms:List Int),xs=[.ref p]/\H p=some (zki X.prog X.w p ms)/\ms.length<64 /\
  ∀ (l:Addr) (H':Hp) (ns:List Int),H l=none->Same H H'->H' l=some (.lst (ns.map V.int))->ns.Perm ms->ns.Pairwise (·<=·)->Q (.ref l) H'):=by
 intro pins s σ H xs us Q I r h
 obtain ⟨p,ms,rfl,hp,hl,q⟩:=h
 obtain ⟨u,rfl,rx⟩:=vals1 r
 cases rx
 refine zad.zoE (I.ok.hd hc) (I.hok p _ hp).1 hl fun h' d' tk out ns l n a1 a2 a3 kp new at_=>?_
 have vl:Vals (ns.map V.int) out.toList:=zg8 a1
 have nl:(ns.map V.int).length<=sizeLine:=by rw[yab,a2.length_eq,sizeLine_eq];ac_rfl
 have I1:Inv X pins σ (upd H l (.lst (ns.map V.int))) { s with heap:=h',toks:=tk }:=I.zlW kp new hex ⟨nl,out.toList,n,vl,by simpa [seqObj] using at_⟩
 exact ⟨.ref l,_,I1.drew d',rfl,q l _ ns (I.hok.gone new) (zc (I.hok.gone new) _) zg a2 a3⟩
end
theorem zpX {ns ms:List Int} (p:ns.Perm ms) (nd:ms.Nodup) (o:ns.Pairwise (·<=·)):ns.Pairwise (·<·):=by
 have n:=p.nodup_iff.mpr nd
 refine (o.and n).imp fun {a b} h=>?_
 have:=h.1
 have:=h.2
 ac_rfl
section
variable {X:Cx} {pins:List (Addr × Obj)} {σ:St} {H:Hp} {s:Shared} {h':Heap}
end
theorem zhc {K:W.Frag} {ix:List Nat} {te:TE} {σ:St} {a l:Addr} {xs:List V} {H:Hp} {R:Hp->Prop} (P:Nat->V->Prop) (ha:SqL K H a xs) (hl:H l=none) (hz:xs.length<=sizeLine)
  (hel:∀ i x H' Q',xs[i]?=some x->Same H H'->(∀ v,P i v->Q' v H')->te (some x::capts σ ix) H' Q') (fin:∀ ys:List V,ys.length=xs.length->(∀ j v,ys[j]?=some v->P j v)->R (upd H l (.lst ys))) :
  ∃ W:Nat->Nat->List V->Hp->Prop,(∃ m,W 0 m [] (upd H l (.lst [])))/\Turns ix te σ (Itl K a) l R W:=by
 refine ⟨fun i m ys H'=>m=xs.length-i/\i<=xs.length/\ys.length=i/\(∀ j v,ys[j]?=some v->P j v)/\H'=upd H l (.lst ys),⟨xs.length,by simp,ydc _,rfl,(fun j v e=>by simp at e),rfl⟩,?_⟩
 rintro i m ys H' ⟨rfl,hi,hx,hp,rfl⟩
 have hT:SqL K (upd H l (.lst ys)) a xs:=(zc hl _).seq ha
 refine ⟨zg,?_⟩
 by_cases hlt:i<xs.length
 ·have ex:xs[i]?=some xs[i]:=yaa hlt
  refine .inr ⟨⟨xs,_,hT,ex⟩,by ac_rfl,fun x H2 y=>?_⟩
  obtain ⟨e,y⟩:=y
  subst e
  have e2:=y xs hT
  refine hel i x _ _ e2 (zc hl _) fun v hv=>⟨zg,xs.length-(i+1),by ac_rfl,rfl,hlt,by rw[yad,hx];rfl,fun j w e=>?_,by rw[zay]⟩
  by_cases hj:j<ys.length
  ·rw[ybl hj] at e
   exact hp j w e
  ·by_cases hj2:j=ys.length
   ·subst hj2
    rw[ybk (ycz _),ydn] at e
    cases e
    rw[hx]
    exact hv
   ·rw[yap (by rw[yad,ybo];ac_rfl)] at e
    cases e
 ·exact .inl ⟨⟨xs,hT,by ac_rfl⟩,fin ys (by ac_rfl) hp⟩
theorem zaH {X:Cx} (K:W.Frag) (h:X.K=K:=by rfl):IxR X (zse K):=by subst h;exact zaU
theorem zqT {X:Cx} (K:W.Frag) (h:X.K=K:=by rfl):IxR X (zsi K):=by subst h;exact zX
inductive zu (K:W.Frag) (H:Hp):List V->List (Int × Int)->Prop
 | nil:zu K H [] []
 | cons {p:Addr} {s:Int × Int} {xs:List V} {l:List (Int × Int)}:H p=some (.tup [.int s.1,.int s.2])->zu K H xs l->zu K H (.ref p::xs) (s::l)
section
variable {K:W.Frag} {H H':Hp} {xs ys zs:List V} {l:List (Int × Int)} {p:Addr} {s:Int × Int}
theorem zu.get (r:zu K H xs l):∀ {i:Nat} {x:V},xs[i]?=some x->∃ p s,x=.ref p/\l[i]?=some s/\H p=some (.tup [.int s.1,.int s.2]):=by
 induction r with
 | nil=>intro i x e;simp at e
 | cons h _ ih =>
  intro i x e
  cases i with
  | zero=>cases e;exact ⟨_,_,rfl,rfl,h⟩
  | succ i=>exact ih e
theorem zu.length (r:zu K H xs l):xs.length=l.length:=by
 induction r with
 | nil=>rfl
 | cons _ _ ih=>simp[ih]
theorem zu.same (r:zu K H xs l) (s:Same H H'):zu K H' xs l:=by
 induction r with
 | nil=>exact .nil
 | cons h _ ih=>exact .cons (s _ _ h) ih
theorem zu.put (r:zu K H xs l) (hp:H p=some (.lst ys)):zu K (upd H p (.lst zs)) xs l:=by
 induction r with
 | nil=>exact .nil
 | cons h _ ih=>exact .cons (by rw[zv (za8 h hp (by intro z;cases z))];exact h) ih
theorem zu.push (r:zu K H xs l) (h:H p=some (.tup [.int s.1,.int s.2])):zu K H (xs++[.ref p]) (l++[s]):=by
 induction r with
 | nil=>exact .cons h .nil
 | cons h' _ ih=>exact .cons h' ih
noncomputable def zfS (s:Int × Int):PyData:=.tuple [.int s.1,.int s.2]
theorem zu.rd (r:zu K H xs l):zbM K H xs (l.map zfS):=by
 induction r with
 | nil=>exact .nil
 | cons h _ ih=>exact .cons (.tup (SqT.of h) (.cons (.int _) (.cons (.int _) .nil))) ih
end
theorem ziz:∀ l:List (Int × Int),PyData.canLayAll0 (l.map zfS)=true
 | []=>by simp[PyData.canLayAll0]
 | s::l=>by simp[PyData.canLayAll0,PyData.canLay0,zfS,ziz l]
theorem zjt:∀ l:List (Int × Int),PyData.depthAll (l.map zfS)<=1
 | []=>by simp[PyData.depthAll]
 | s::l=>by
  have:=zjt l
  simp[PyData.depthAll,PyData.depth,zfS]
  ac_rfl
theorem zil (l:List (Int × Int)):SeqAt.shaped (.list (l.map zfS))=true:=by
 have:=zjt l
 simp[SeqAt.shaped,PyData.canLay0,PyData.depth,ziz]
 ac_rfl
theorem zjN {ys:List V} {ns:List Int} (h:ys.length=ns.length) (p:∀ j v,ys[j]?=some v->v=V.int (ns.getD j 0)):ys=ns.map V.int:=by
 apply ybx
 intro j
 rw[yak]
 by_cases hj:j<ys.length
 ·have e:=yaa (l:=ys) hj
  rw[e,p j _ e,yaa (by ac_rfl:j<ns.length)]
  simp[show j<ns.length by ac_rfl]
 ·rw[yap (by ac_rfl),yap (by ac_rfl)]
  rfl
structure zhh (J:It) (H:Hp) (xs:List V):Prop where
 go:∀ i H',Same H H'->i<xs.length->J.go i H'
 yld:∀ i H' x H2,Same H H'->J.yld i H' x H2->H2=H'/\xs[i]?=some x
 stop:∀ i H',Same H H'->xs.length<=i->J.stop i H'
theorem zak {K:W.Frag} {H:Hp} {a:Addr} {xs:List V} (h:SqL K H a xs):zhh (Itl K a) H xs :=
 ⟨fun i H' s hi=>⟨xs,_,s.seq h,yaa hi⟩,fun i H' x H2 s y=>⟨y.1,y.2 xs (s.seq h)⟩,fun i H' s hi=>⟨xs,s.seq h,hi⟩⟩
theorem zl8 {J:It} {ix:List Nat} {te:TE} {σ:St} {l:Addr} {xs:List V} {H:Hp} {R:Hp->Prop} (Y:zhh J H xs) (hl:H l=none) (hz:xs.length<=sizeLine) (P:Nat->V->Hp->Prop)
  (mono:∀ i v H1 H2,Same H1 H2->P i v H1->P i v H2) (put:∀ i v H1 ys zs,H1 l=some (.lst ys)->P i v H1->P i v (upd H1 l (.lst zs)))
  (hel:∀ i x H' Q',xs[i]?=some x->Same H H'->(∀ v H2,Same H' H2->P i v H2->Q' v H2)->te (some x::capts σ ix) H' Q')
  (fin:∀ ys H',Same H H'->H' l=some (.lst ys)->ys.length=xs.length->(∀ j v,ys[j]?=some v->P j v H')->R H') :
  ∃ W:Nat->Nat->List V->Hp->Prop,(∃ m,W 0 m [] (upd H l (.lst [])))/\Turns ix te σ J l R W:=by
 refine ⟨fun i m ys H'=>m=xs.length-i/\i<=xs.length/\ys.length=i/\(∀ j v,ys[j]?=some v->P j v H')/\Same H H'/\H' l=some (.lst ys),⟨xs.length,by simp,ydc _,rfl,(fun j v e=>by simp at e),zc hl _,zg⟩,?_⟩
 rintro i m ys H' ⟨rfl,hi,hx,hp,sH,hL⟩
 refine ⟨hL,?_⟩
 by_cases hlt:i<xs.length
 ·refine .inr ⟨Y.go i H' sH hlt,by ac_rfl,fun x H2 y=>?_⟩
  obtain ⟨rfl,e2⟩:=Y.yld i H' x H2 sH y
  refine hel i x _ _ e2 sH fun v H3 s3 hv=>⟨s3 _ _ hL,xs.length-(i+1),by ac_rfl,rfl,hlt,by rw[yad,hx];rfl,fun j w e=>?_,zab (sH.trans s3) hl,zg⟩
  by_cases hj:j<ys.length
  ·rw[ybl hj] at e
   exact put _ _ _ _ _ (s3 _ _ hL) (mono _ _ _ _ s3 (hp j w e))
  ·by_cases hj2:j=ys.length
   ·subst hj2
    rw[ybk (ycz _),ydn] at e
    cases e
    rw[hx]
    exact put _ _ _ _ _ (s3 _ _ hL) hv
   ·rw[yap (by rw[yad,ybo];ac_rfl)] at e
    cases e
 ·exact .inl ⟨Y.stop i H' sH (by ac_rfl),fin ys H' sH hL (by ac_rfl) hp⟩
theorem zpJ {J:It} {ix:List Nat} {tt:TT} {te:TE} {σ:St} {l:Addr} {xs:List V} {H:Hp} {R:Hp->Prop} (Y:zhh J H xs) (hl:H l=none) (hz:xs.length<=sizeLine) (pk:List (Bool × V)) (len:pk.length=xs.length)
  (ht:∀ (i:Nat) x b v H' Q',xs[i]?=some x->pk[i]?=some (b,v)->Same H H'->Q' b H'->tt (some x::capts σ ix) H' Q')
  (he:∀ (i:Nat) x b v H' Q',xs[i]?=some x->pk[i]?=some (b,v)->Same H H'->Q' v H'->te (some x::capts σ ix) H' Q')
  (fin:R (upd H l (.lst ((pk.filter (·.1)).map (·.2))))) :
  ∃ W:Nat->Nat->List V->Hp->Prop,(∃ m,W 0 m [] (upd H l (.lst [])))/\zf5 ix tt te σ J l R W:=by
 refine ⟨fun i m ys H'=>m=xs.length-i/\i<=xs.length/\ys=((pk.take i).filter (·.1)).map (·.2)/\H'=upd H l (.lst ys),⟨xs.length,by simp,ydc _,rfl,rfl⟩,?_⟩
 rintro i m ys H' ⟨rfl,hi,hy,rfl⟩
 refine ⟨zg,?_⟩
 by_cases hlt:i<xs.length
 ·have yl:ys.length<=i:=by
   rw[hy,yab]
   exact yde (yaw _ _) (by rw[yau];ac_rfl)
  have eP:pk[i]?=some (pk[i]'(by ac_rfl)):=yaa (by ac_rfl)
  generalize pk[i]'(by ac_rfl)=bv at eP
  obtain ⟨b,v⟩:=bv
  have tk:pk.take (i+1)=pk.take i++[(b,v)]:=by rw[ycf,eP];rfl
  refine .inr ⟨Y.go i _ (zc hl _) hlt,by ac_rfl,fun x H2 y=>?_⟩
  obtain ⟨rfl,e2⟩:=Y.yld i _ x H2 (zc hl _) y
  refine ht i x b v _ _ e2 eP (zc hl _) ?_
  cases b with
  | true =>
   rw[if_pos rfl]
   refine he i x _ v _ _ e2 eP (zc hl _) ⟨zg,xs.length-(i+1),by ac_rfl,rfl,hlt,?_,by rw[zay]⟩
   rw[tk,ybj,yat,<-hy]
   rfl
  | false =>
   rw[if_neg Bool.false_ne_true]
   refine ⟨xs.length-(i+1),by ac_rfl,rfl,hlt,?_,rfl⟩
   rw[tk,ybj,yat,<-hy]
   simp
 ·rw[ybf (by ac_rfl)] at hy
  subst hy
  exact .inl ⟨Y.stop i _ (zc hl _) (by ac_rfl),fin⟩
theorem zpD {α:Type} (l:List α) (p:α->Bool) (f:α->Int):(((l.map fun x=>(p x,V.int (f x))).filter (·.1)).map (·.2))=((l.filter p).map f).map V.int:=by
 induction l with
 | nil=>rfl
 | cons a l ih =>
  rw[yay,ycu,ycu]
  cases h:p a with
  | true=>simp only[h,if_true,yay,ih]
  | false=>simp only[h,Bool.false_eq_true,if_false,ih]
theorem zn9 (n d k:Nat):HT.sIx n d (some (k:Int))=min k n:=by
 show (if (k:Int)<0 then ((k:Int)+(n:Int)).toNat else min (k:Int).toNat n)=min k n
 rw[if_neg (by ac_rfl)]
 rfl
theorem zh4 (xs:List V) (k:Nat):zg9 xs (some (k:Int)) none=xs.drop k:=by
 unfold zg9
 rw[zn9,show HT.sIx xs.length xs.length none=xs.length from rfl]
 by_cases h:k<=xs.length
 ·rw[Nat.min_eq_left h,ybf (by rw[ybg];exact ycz _)]
 ·rw[Nat.min_eq_right (by ac_rfl),List.drop_of_length_le (ycz _),List.drop_of_length_le (by ac_rfl),List.take_nil]
theorem zh9 (xs:List V) (k:Nat):zg9 xs none (some (k:Int))=xs.take k:=by
 unfold zg9
 rw[zn9,show HT.sIx xs.length 0 none=0 from rfl,List.drop_zero,Nat.sub_zero]
 by_cases h:k<=xs.length
 ·rw[Nat.min_eq_left h]
 ·rw[Nat.min_eq_right (by ac_rfl),ybf (ycz _),ybf (by ac_rfl)]
theorem zjH {K:W.Frag} {H:Hp}:∀ {ys:List V} {l:List (Int × Int)},ys.length=l.length->(∀ (j:Nat) v s,ys[j]?=some v->l[j]?=some s->∃ p,v=.ref p/\H p=some (.tup [.int s.1,.int s.2]))->zu K H ys l
 | [],[],_,_=>.nil
 | y::ys,s::l,e,h=>by
  obtain ⟨p,rfl,hp⟩:=h 0 y s rfl rfl
  exact .cons hp (zjH (by simpa using e) fun j v u h1 h2=>h (j+1) v u h1 h2)
 | [],_::_,e,_=>by simp at e
 | _::_,[],e,_=>by simp at e
end L2
namespace L2
open PySem
end L2
namespace L2
open PySem PySem.Spec PyProof.Rows
section
variable {X:Cx} {pins:List (Addr × Obj)} {σ:St} {H:Hp} {s:Shared} {sc:Scope} {x:Str} {ix:List Nat} {fp:List Addr} {elt iter c:Expr} {te:TE} {tt:TT} {wi:TI} {px pos:Pos}
theorem zhT {y:Str} {i:Nat} {py spos:Pos} (hN:X.N.Nodup) (hiy:X.N[i]?=some y) (hy:X.env.scope.names.lookup y=some .local) (O:zdT X sc x ix) (hi:PI X (.Name x px) iter wi) (htt:∀ b,PT (X.block sc x ix b) c tt) (hel:∀ b,PE (X.block sc x ix b) elt te)
  (hc:X.calm=true:=by rfl) (hs:∀ v,foldedSetIterable iter X.env v=pure v:=by intro _;rfl) (hsw:swapsWith (.ListComp elt [⟨.Name x px,iter,[c],0⟩] sc pos) (some (.Name y py)) spos.line X.env=pure true:=by rfl) :
  PS X (.Assign [.Name y py] (.ListComp elt [⟨.Name x px,iter,[c],0⟩] sc pos) spos) (zoy (znK ix wi tt te) (zfn i)):=by
 intro pins s σ H D I h
 rw[exec_Assign_Name_used _ _ _ _ hsw]
 refine wpAny_bind (wpAny_standAt (wpAny_bind ?_))
 show wpAny _ X.A (do let _ <-comprehension (.ListComp elt [⟨.Name x px,iter,[c],0⟩] sc pos) sc X.env _ (newList []) false (eval iter X.env) (some (assign (.Name y py) X.env))) _ _ s
 refine wpAny_bind (wpAny_mono (wpAny_comprehension_free (use:=some (assign (.Name y py) X.env)) (Q:=fun _ s'=>SP X pins D .next s') rfl hs O.clos O.kind O.names
  (thn (hi pins s σ H _ I h) fun xv s1 h1=>thn h1 fun itv s2 h2=>?_)) (fun _ s' hq=>wpAny_pure (wpAny_pure hq)) fun _ _ e=>e)
 obtain ⟨it,fp,tn,J,H2,e,I2,T,st2,f2,hq⟩:=h2
 subst e
 refine zio O htt hel hc I2 T st2 f2 (fun l H'=>D.nx (σ.set i (some (.ref l))) H') hq ?_
 intro l C m s' H' I' hn hf r
 obtain ⟨o,es,ep,ho,hd,hr⟩:=id hn
 have Ip:=I'.addpin ho hf.1 hf.2.1 hf.2.2.1 (by intro v z;rw[hd] at z;cases z)
 refine thn ((zar (i:=i) hN hiy (Or.inl hy) (Or.inr hy):PG X (.Name y py) (zfn i)) _ s' σ H' (.ref l) (.ref l) (fun σ' H''=>σ'=σ.set i (some (.ref l))/\H''=H') Ip rfl ⟨rfl,rfl⟩) fun _ s'' ⟨σ'',H'',I'',e1,e2⟩=>?_
 subst e1 e2
 have pc:=(I''.pin (C,o) (yaf _ (yaf _ yaj))).1
 refine ⟨m,⟨o,es,ep,pc,hd,hr⟩,fun h' hb=>⟨_,_,?_,r⟩⟩
 exact I''.unpinned.turned (t':=s''.toks) (fun b o hne e=>hb.extBut b o hne e) hf.1 hf.2.1 hf.2.2.2.1 hf.2.2.2.2.1 hf.2.2.2.2.2
end
structure Mk0 (K:W.Frag) (C:Addr):Prop where
 makes:PySem.W.makesIn K C=true
 init:PySem.W.findIn K (.ref C) "__init__" = some (some (.builtin "object.__init__"))
 kp:PySem.W.keepIn K (.ref C)=true
def ztp (C:Addr):TE:=fun _ H Q=>∀ x dx,H x=none->H dx=none->dx≠x->Q (.ref x) (upd (upd H dx (.own x)) x (.ins C dx []))
section
variable {X:Cx} {C:Addr} {x m:Str} {p pos apos:Pos} {e o:Expr} {es:List Expr} {ta:TE} {t:TA} {j k:Nat} {ps:List Str}
theorem zh2 (M:Mk0 X.K C) (hm:X.mg x=some (.ref C)) (hg:Gl X x:=by rfl) (hdb:(x == ("__debug__" : Str))=false:=by decide):PE X (.Call (.Name x p) [] [] pos) (ztp C):=by
 intro pins s σ H Q I h
 refine wpAny_Call_Name_kw (zh0 I hg hm ?_ hdb)
 refine PySem.W.callWith_K0 I.kIn M.kp ?_
 have hq:=h (s.heap.objs.size+1) s.heap.objs.size (I.hok.fresh (ydk _)) (I.hok.fresh (ycz _)) (yda (ydf _))
 have I2:=Inv.made (C:=C) I
 have Y:=PySem.W.makes_of (M:=model X.prog X.w) I.kIn M.makes
 have e2:((s.heap.push PySem.W.emptyDict).push (PySem.W.instObj C s.heap.objs.size)).get? (s.heap.objs.size+1)=some (PySem.W.instObj C s.heap.objs.size):=by
  have:=ydr (s.heap.push PySem.W.emptyDict) (o:=PySem.W.instObj C s.heap.objs.size) rfl
  rwa [ydv] at this
 refine wpAny_call (zpu I.kIn M.makes M.init (fun self=>PySem.W.Looks.of_pure (PySem.W.oi_bind self)) ?_)
 have t1:PySem.W.Looks (model X.prog X.w) ((s.heap.push PySem.W.emptyDict).push (PySem.W.instObj C s.heap.objs.size)) (typeOf (.ref (s.heap.objs.size+1))) (.ref C):=(PySem.W.Looks.ld e2).andThen .now
 have t2:PySem.W.Looks (model X.prog X.w) ((s.heap.push PySem.W.emptyDict).push (PySem.W.instObj C s.heap.objs.size)) (isInstance (.ref (s.heap.objs.size+1)) (.type "object")) true:=t1.andThen (Y.top.keeps fun b o e=>ydp _ (ydp _ e))
 refine codeAny_call_builtin PySem.W.oi_plain PySem.W.entry_oi (@PySem.W.check_slot (model X.prog X.w) _ _ _ "object.__init__" "object" "__init__" (.ref (s.heap.objs.size+1)) [] [] _ PySem.W.oi_kind PySem.W.oi_split t2 (PySem.W.oi_args (.ref (s.heap.objs.size+1))) ?_)
 rw[PySem.W.oi_run]
 exact wpAny_pure (And.intro rfl ⟨V.ref (s.heap.objs.size+1),_,I2,rfl,hq⟩)
inductive Kd where
 | plain | bank | thirty | exact
noncomputable def Kd.cls:Kd->Str
 | .plain => "Count"
 | .bank => "Bank"
 | .thirty => "Thirty"
 | .exact => "Exact"
def zcG (K:W.Frag) (H:Hp) (a:Addr) (kd:Kd):Prop:=∃ dx,H a=some (.ins (cA K kd.cls) dx [])
theorem zcG.same {K:W.Frag} {H H':Hp} {a:Addr} {kd:Kd} (h:zcG K H a kd) (s:Same H H'):zcG K H' a kd:=let ⟨dx,e⟩:=h;⟨dx,s _ _ e⟩
structure zA (K:W.Frag) (C:Addr) (m qual:Str) (st:Stmt) (ps:List Str):Prop where
 ex:∃ (f:Addr) (fd:FuncData),Fun K m qual st f fd/\Meth K C m f/\∀ us:List Value,us.length=ps.length->bindArgs fd ⟨us,[]⟩=pure (ps.zip us)
structure zJ (P:Program) (w:World) (K:W.Frag) (mg:Str->Option Value) (base:Heap) (k:Nat) (C:Addr) (m:Str) (ps:List Str) (sp:Sp):Prop where
 ex:∃ (f:Addr) (fd:FuncData),zcc P w K mg base CX0 k f fd ps sp/\Meth K C m f/\∀ us:List Value,us.length=ps.length->bindArgs fd ⟨us,[]⟩=pure (ps.zip us)
theorem zA.ok {P:Program} {w:World} {K:W.Frag} {mg:Str->Option Value} {base:Heap} {C:Addr} {m qual:Str} {st:Stmt} {N ps:List Str} {k:Nat} {sp:Sp} (S:zA K C m qual st ps) (sc:zo N ps (zj st)) (len:∀ vs H Q E,sp vs H Q E->vs.length=ps.length)
  (hbody:∀ (f:Addr) (cdv:Value) (A:Around) (outer:List Env) (s:Shared) (H:Hp) (vs:List V) (Q:VK) (E:XK),Room k (A.deeper (envOfC qual (zj st) s.heap.objs.size f cdv))->sp vs H Q E ->
   ∃ t,PSs (zfF CX0 P w K mg base N qual (zj st) f cdv A outer s H E).nox (zaF st) t/\t { nx:=fun _ H'=>Q .non H',rt:=Q } (start N vs) H):zJ P w K mg base (k+1) C m ps sp:=by
 obtain ⟨f,fd,F,hm,hb⟩:=S.ex
 exact ⟨f,fd,F.ok sc len (fun cdv=>hbody f cdv),hm,hb⟩
def zsp (K:W.Frag) (sp:Kd->Sp) (ta:TE) (t:TA):TE:=fun σ H Q=>ta σ H fun x H1=>∃ (kd:Kd) (a:Addr),x=.ref a/\zcG K H1 a kd/\t σ H1 fun vs H2=>sp kd (x::vs) H2 Q E0
theorem zko {pl:Sem Bool} {sp:Kd->Sp} (D:∀ kd:Kd,zJ X.prog X.w X.K X.mg X.base j (cA X.K kd.cls) m ps (sp kd)) (hc:∀ kd:Kd,Cls X.K (cA X.K kd.cls)) (hr:Room k X.A) (he:PE X o ta) (hj:j<=k:=by decide)
  (ht:eval (.Call (.Attribute o m apos) [] [] pos) X.env=(do
   let ov <-eval o X.env
   standAt apos.atName
   let (f,first) <-holding [ov] (getMethod ov m pl)
   callWith pos f first (backTo pos (starEach [] X.env)) (backToKw pos (keywordEach [] X.env))):=by rfl) :
  PE X (.Call (.Attribute o m apos) [] [] pos) (zsp X.K sp ta zjV):=by
 intro pins s σ H Q I h
 refine PySem.W.methodCall_KW (pl:=pl) (thn (he pins s σ H _ I h) fun u s1 ⟨x,H1,I1,rx,kd,a,ex,⟨dx,ea⟩,q⟩=>?_) ht
 subst ex
 obtain rfl:u=Value.ref a:=rx
 obtain ⟨f,fd,F,hm,hb⟩:=(D kd).ex
 refine zgF I1 ea (hc kd) hm rfl ?_
 exact PySem.W.callWith_K0 (first:=[.ref a]) I1.kIn hm.kp (zhi (us:=[.ref a]) (vs:=[.ref a]) (dvs:=[]) (ds:=[]) F (hr.mono hj) (.all hb) .nil zhW I1 (.cons rfl .nil) q)
end
section
variable {K:W.Frag} {x:Str} {C f:Addr}
theorem za3 (a:PySem.W.nsIn K mainGlobals x=some (some (.ref C))) (h1:PySem.W.plainGet K C Str.empty=true) (h2:PySem.W.hasDictIn K C=true) (h3:PySem.W.plainOver K C=true) (h4:PySem.W.findIn K (.ref C) "__setattr__" = some (some (.builtin "object.__setattr__"))):Cls K (cA K x):=by
 rw[zcL a];exact ⟨h1,h2,h3,h4⟩
theorem zjs (a:PySem.W.nsIn K mainGlobals x=some (some (.ref C))) (h1:PySem.W.makesIn K C=true) (h2:PySem.W.findIn K (.ref C) "__init__" = some (some (.builtin "object.__init__"))) (h3:PySem.W.keepIn K (.ref C)=true):Mk0 K (cA K x):=by
 rw[zcL a];exact ⟨h1,h2,h3⟩
theorem zL {m qual:Str} {st:Stmt} {ps:List Str} {oc:Value} {od an:Option Addr} {osl:Array (Option Value)} {kV doc pm cdv ct:Value} (a:PySem.W.nsIn K mainGlobals x=some (some (.ref C))) (hi:PySem.W.findIn K (.ref C) m=some (some (.ref f))) (hf:PySem.W.isFn K (.ref f)=true)
  (fk:PySem.W.keepIn K (.ref f)=true) (fl:K.lookup f=some ⟨oc,od,.func (PySem.W.fnOf m qual (zb6 st) (zaF st) (zj st) .none kV doc pm an cdv ct),osl⟩) (fc:PySem.W.codeIn K cdv qual=true)
  (hb:∀ us:List Value,us.length=ps.length->bindArgs (PySem.W.fnOf m qual (zb6 st) (zaF st) (zj st) .none kV doc pm an cdv ct) ⟨us,[]⟩=pure (ps.zip us)):zA K (cA K x) m qual st ps:=by
 rw[zcL a];exact ⟨f,_,zlS fl fc fk,⟨hi,hf,fk⟩,hb⟩
end
end L2
namespace L2
open PySem
end L2
namespace L2
theorem zr1 {α:Type} {xs:List α} {v:α} (h:xs[xs.length-1]?=some v) (h0:0<xs.length):atI xs (-1)=some v:=by
 have e:ixN xs.length (-1)=some (xs.length-1):=by
  unfold ixN
  rw[if_neg (by decide),if_pos (by ac_rfl),show ((-1:Int)+(xs.length:Int)).toNat=xs.length-1 by ac_rfl]
 unfold atI
 rw[e]
 exact h
end L2
namespace L2
open PySem PySem.Spec PyProof.Rows
section
variable {X:Cx} {pins:List (Addr × Obj)} {σ:St} {H:Hp} {s:Shared} {sc:Scope} {x y0:Str} {ix:List Nat} {fp:List Addr}
end
section
variable {X:Cx} {pins:List (Addr × Obj)} {σ:St} {H:Hp} {s:Shared} {sc:Scope} {x y0:Str} {ix:List Nat} {fp:List Addr} {elt iter:Expr} {te:TE} {wi:TI} {px py0 pt0 pos:Pos} {kt0:Nat}
end
end L2
namespace SortT
open PySem PySem.W PyProof.Rows
noncomputable def okT {α:Type} (n:Nat) (lt:Nat->Nat->Bool):KasT α->(α->Prop)->Prop
 | .ret a,Q=>Q a
 | .ask i j k,Q=>(i<n/\j<n)/\okT n lt (k (lt i j)) Q
theorem zmq {α:Type} {n:Nat} {lt:Nat->Nat->Bool} {Q Q':α->Prop} (h:∀ a,Q a->Q' a):∀ (t:KasT α),okT n lt t Q->okT n lt t Q'
 | .ret a,q=>h a q
 | .ask i j k,q=>⟨q.1,zmq h _ q.2⟩
theorem zdm {α β:Type} {n:Nat} {lt:Nat->Nat->Bool} {f:α->KasT β} {Q:β->Prop}:∀ (t:KasT α),okT n lt t (fun a=>okT n lt (f a) Q)->okT n lt (t.bind f) Q
 | .ret a,q=>q
 | .ask i j k,q=>⟨q.1,zdm _ q.2⟩
theorem zpk {α:Type} {n:Nat} {lt:Nat->Nat->Bool} {s:Shared} {cmp:Nat->Nat->(Bool->Shared->Prop)->Shared->Prop} (hc:∀ i j C,i<n->j<n->C (lt i j) s->cmp i j C s) {Q:α->Prop} {R:α->Shared->Prop} (hR:∀ a,Q a->R a s):∀ (t:KasT α),okT n lt t Q->t.kasWp cmp R s
 | .ret a,q=>hR a q
 | .ask i j k,q=>hc i j _ q.1.1 q.1.2 (zpk hc hR _ q.2)
structure Ord (lt:Nat->Nat->Bool):Prop where
 irr:∀ i,lt i i=false
 asy:∀ i j,lt i j=true->lt j i=false
 neg:∀ i j k,lt i j=false->lt j k=false->lt i k=false
variable {N:Nat} {lt:Nat->Nat->Bool}
def In (N:Nat) (p:Array Nat):Prop:=p.size=N/\∀ i,i<N->p.getD i 0<N
def Up (lt:Nat->Nat->Bool) (p:Array Nat) (k:Nat):Prop:=∀ i j,i<=j->j<k->lt (p.getD j 0) (p.getD i 0)=false
def Dn (lt:Nat->Nat->Bool) (p:Array Nat) (k:Nat):Prop:=∀ i j,i<=j->j<k->lt (p.getD i 0) (p.getD j 0)=false
theorem zf3 {p q:Array Nat} {i j:Nat} (h:p[i]?=q[j]?):p.getD i 0=q.getD j 0:=by
 rw[yed,yed,h]
theorem zbN {p:Array Nat} {i j k:Nat} (hj:j<=p.size):(kas_rev p i j).getD k 0=if i<=k/\k<j then p.getD (i+j-1-k) 0 else p.getD k 0:=by
 have e:=getElem?_mirror_all (xs:=p) (i:=i) hj k
 unfold kas_rev
 by_cases c:i<=k/\k<j
 ·rw[if_pos c] at e ⊢;exact zf3 e
 ·rw[if_neg c] at e ⊢;exact zf3 e
theorem zhr {p:Array Nat} {i j:Nat} (h:In N p) (hj:j<=N):In N (kas_rev p i j):=by
 refine ⟨by rw[kas_rev_size];exact h.1,fun k hk=>?_⟩
 rw[zbN (by rw[h.1];exact hj)]
 split
 ·exact h.2 _ (by ac_rfl)
 ·exact h.2 k hk
theorem Up.one {p:Array Nat} (O:Ord lt):Up lt p 1:=fun i j h1 h2=>by
 have:i=j:=by ac_rfl
 subst this
 exact O.irr _
theorem Up.next {p:Array Nat} {n:Nat} (O:Ord lt) (h:Up lt p n) (h1:1<=n) (c:lt (p.getD n 0) (p.getD (n-1) 0)=false):Up lt p (n+1):=fun i j h2 h3=>by
 by_cases e:j=n
 ·subst e
  by_cases e2:i=j
  ·subst e2;exact O.irr _
  ·exact O.neg _ _ _ c (h i (j-1) (by ac_rfl) (by ac_rfl))
 ·exact h i j h2 (by ac_rfl)
theorem zmw (O:Ord lt) {p:Array Nat} (hp:In N p) {Q:Nat->Prop}:∀ (f n:Nat),1<=n->n+f<=N->Up lt p n->(∀ m,n<=m->m<=n+f->Up lt p m->(m=n+f\/lt (p.getD m 0) (p.getD (m-1) 0)=true)->Q m)->okT N lt (kas_asc p f n) Q
 | 0,n,h1,h2,up,hQ=>hQ n (ycz _) (ycz _) up (.inl rfl)
 | f+1,n,h1,h2,up,hQ=>by
  refine ⟨⟨hp.2 n (by ac_rfl),hp.2 (n-1) (by ac_rfl)⟩,?_⟩
  cases c:lt (p.getD n 0) (p.getD (n-1) 0) with
  | true=>exact hQ n (ycz _) (by ac_rfl) up (.inr c)
  | false=>exact zmw O hp f (n+1) (by ac_rfl) (by ac_rfl) (up.next O h1 c) fun m a b u z=>hQ m (by ac_rfl) (by ac_rfl) u (by rcases z with z | z;exact .inl (by ac_rfl);exact .inr z)
theorem zgD (p:Array Nat) (i j:Nat):(kas_rev p i j).Perm p:=mirror_perm _ _ _ _
structure Des (lt:Nat->Nat->Bool) (p:Array Nat) (n q:Nat):Prop where
 hq:q+1<=n
 dn:Dn lt p n
 al:∀ i,n<=i+(q+1)->i<n->lt (p.getD i 0) (p.getD (n-1) 0)=false/\lt (p.getD (n-1) 0) (p.getD i 0)=false
theorem Des.alike {p:Array Nat} {n q:Nat} (O:Ord lt) (D:Des lt p n q) {i j:Nat} (h1:n<=i+(q+1)) (h2:i<n) (h3:n<=j+(q+1)) (h4:j<n):lt (p.getD i 0) (p.getD j 0)=false:=O.neg _ _ _ (D.al i h1 h2).1 (D.al j h3 h4).2
theorem Des.turn {p:Array Nat} {n q:Nat} (O:Ord lt) (D:Des lt p n q) (hn:n<=p.size):Dn lt (kas_rev p (n-(q+1)) n) n:=fun i j h1 h2=>by
 have:=D.hq
 rw[zbN hn,zbN hn]
 by_cases ci:n-(q+1)<=i/\i<n
 ·rw[if_pos ci,if_pos (show n-(q+1)<=j/\j<n by ac_rfl)]
  exact D.alike O (by ac_rfl) (by ac_rfl) (by ac_rfl) (by ac_rfl)
 ·rw[if_neg ci]
  by_cases cj:n-(q+1)<=j/\j<n
  ·rw[if_pos cj]
   exact D.dn _ _ (by ac_rfl) (by ac_rfl)
  ·rw[if_neg cj]
   exact D.dn i j h1 h2
theorem Des.fall {p:Array Nat} {n:Nat} (O:Ord lt) (dn:Dn lt p n) (h1:1<=n) (c:lt (p.getD (n-1) 0) (p.getD n 0)=false):Dn lt p (n+1):=fun i j h2 h3=>by
 by_cases e:j=n
 ·subst e
  by_cases e2:i=j
  ·subst e2;exact O.irr _
  ·exact O.neg _ _ _ (dn i (j-1) (by ac_rfl) (by ac_rfl)) c
 ·exact dn i j h2 (by ac_rfl)
theorem zh6 (O:Ord lt) {Q:Array Nat × Nat × Nat->Prop}:∀ (f:Nat) (p:Array Nat) (n q:Nat),In N p->n+f<=N->Des lt p n q->(∀ p' n' q',In N p'->p'.Perm p->n<=n'->n'<=n+f->Des lt p' n' q'->Q (p',n',q'))->okT N lt (kas_desc f p n q) Q
 | 0,p,n,q,hp,hn,D,hQ=>hQ p n q hp (Array.Perm.refl _) (ycz _) (ycz _) D
 | f+1,p,n,q,hp,hn,D,hQ=>by
  have hq:=D.hq
  refine ⟨⟨hp.2 n (by ac_rfl),hp.2 (n-1) (by ac_rfl)⟩,?_⟩
  cases c:lt (p.getD n 0) (p.getD (n-1) 0) with
  | true =>
   have c':=O.asy _ _ c
   show okT N lt (if q > 0 then _ else _) Q
   by_cases q0:q > 0
   ·rw[if_pos q0]
    have hs:n<=p.size:=by rw[hp.1];ac_rfl
    have dn:Dn lt (kas_rev p (n-(q+1)) n) (n+1):=by
     refine Des.fall O (D.turn O hs) (by ac_rfl) ?_
     rw[zbN hs,zbN hs,if_pos (by ac_rfl),if_neg (by ac_rfl)]
     exact O.neg _ _ _ (D.alike O (by ac_rfl) (by ac_rfl) (by ac_rfl) (by ac_rfl)) c'
    refine zh6 O f _ (n+1) 0 (zhr hp (by ac_rfl)) (by ac_rfl) ⟨by ac_rfl,dn,fun i a b=>?_⟩ fun p' n' q' a b c d e=>hQ p' n' q' a (b.trans (zgD _ _ _)) (by ac_rfl) (by ac_rfl) e
    have:i=n:=by ac_rfl
    subst this
    exact ⟨O.irr _,O.irr _⟩
   ·rw[if_neg q0]
    refine zh6 O f _ (n+1) 0 hp (by ac_rfl) ⟨by ac_rfl,Des.fall O D.dn (by ac_rfl) c',fun i a b=>?_⟩ fun p' n' q' a b c d e=>hQ p' n' q' a b (by ac_rfl) (by ac_rfl) e
    have:i=n:=by ac_rfl
    subst this
    exact ⟨O.irr _,O.irr _⟩
  | false =>
   refine ⟨⟨hp.2 (n-1) (by ac_rfl),hp.2 n (by ac_rfl)⟩,?_⟩
   cases d:lt (p.getD (n-1) 0) (p.getD n 0) with
   | true=>exact hQ p n q hp (Array.Perm.refl _) (ycz _) (by ac_rfl) D
   | false =>
    refine zh6 O f _ (n+1) (q+1) hp (by ac_rfl) ⟨by ac_rfl,Des.fall O D.dn (by ac_rfl) d,fun i a b=>?_⟩ fun p' n' q' a b c d e=>hQ p' n' q' a b (by ac_rfl) (by ac_rfl) e
    show lt (p.getD i 0) (p.getD n 0)=false/\lt (p.getD n 0) (p.getD i 0)=false
    by_cases e:i=n
    ·subst e
     exact ⟨O.irr _,O.irr _⟩
    ·have al:=D.al i (by ac_rfl) (by ac_rfl)
     exact ⟨O.neg _ _ _ al.1 d,O.neg _ _ _ c al.2⟩
theorem Dn.up {p:Array Nat} {n:Nat} (dn:Dn lt p n) (hn:n<=p.size):Up lt (kas_rev p 0 n) n:=fun i j h1 h2=>by
 rw[zbN hn,zbN hn,if_pos (by ac_rfl),if_pos (by ac_rfl)]
 exact dn _ _ (by ac_rfl) (by ac_rfl)
abbrev Good (N:Nat) (lt:Nat->Nat->Bool) (p0:Array Nat) (r:Nat × Array Nat):Prop:=In N r.2/\r.2.Perm p0/\1<=r.1/\r.1<=N/\Up lt r.2 r.1
theorem zmz (O:Ord lt) {p p0:Array Nat} {n:Nat} (hp:In N p) (pe:p.Perm p0) (h1:1<=n) (hn:n<=N) (dn:Dn lt p n):okT N lt (kas_tail3 n N p) (Good N lt p0):=by
 have hs:n<=p.size:=by rw[hp.1];ac_rfl
 refine zdm _ (zmw O (zhr hp hn) (N-n) n h1 (by ac_rfl) (dn.up hs) fun m a b u _=>?_)
 exact ⟨zhr hp hn,(zgD _ _ _).trans pe,by show 1<=m;ac_rfl,by show m<=N;ac_rfl,u⟩
theorem zir (O:Ord lt) {p p0:Array Nat} {n:Nat} (hp:In N p) (pe:p.Perm p0) (h1:1<=n) (hn:n+1<=N) (dn:Dn lt p (n+1)):okT N lt (kas_descPart n N p) (Good N lt p0):=by
 refine zdm _ (zh6 O (N-(n+1)) p (n+1) 0 hp (by ac_rfl) ⟨by ac_rfl,dn,fun i a b=>?_⟩ fun p' n' q' a b c d D=>?_)
 ·have:i=n:=by ac_rfl
  subst this
  exact ⟨O.irr _,O.irr _⟩
 ·show okT N lt (if q' > 0 then kas_tail3 n' N (kas_rev p' (n'-(q'+1)) n') else kas_tail3 n' N p') _
  have hs:n'<=p'.size:=by rw[a.1];ac_rfl
  by_cases q0:q' > 0
  ·rw[if_pos q0]
   exact zmz O (zhr a (by ac_rfl)) ((zgD _ _ _).trans (b.trans pe)) (by ac_rfl) (by ac_rfl) (D.turn O hs)
  ·rw[if_neg q0]
   exact zmz O a (b.trans pe) (by ac_rfl) (by ac_rfl) D.dn
theorem zqN (O:Ord lt) {p:Array Nat} (hp:In N p) (h1:1<=N):okT N lt (kas_count N p) (Good N lt p):=by
 refine zdm _ (zmw O hp (N-1) 1 (ycz _) (by ac_rfl) (Up.one O) fun n a b u z=>?_)
 show okT N lt (if (n == N)=true then _ else _) _
 by_cases e:n=N
 ·rw[if_pos (by rw[e];exact beq_self_eq_true N)]
  exact ⟨hp,Array.Perm.refl _,by show 1<=n;ac_rfl,by show n<=N;ac_rfl,u⟩
 ·rw[if_neg (by rw[beq_iff_eq];exact e)]
  have c:lt (p.getD n 0) (p.getD (n-1) 0)=true:=by rcases z with z | z;ac_rfl;exact z
  have c':=O.asy _ _ c
  by_cases g:n > 1
  ·rw[if_pos g]
   refine ⟨⟨hp.2 0 (by ac_rfl),hp.2 (n-1) (by ac_rfl)⟩,?_⟩
   cases d:lt (p.getD 0 0) (p.getD (n-1) 0) with
   | true=>exact ⟨hp,Array.Perm.refl _,by show 1<=n;ac_rfl,by show n<=N;ac_rfl,u⟩
   | false =>
    have hs:n<=p.size:=by rw[hp.1];ac_rfl
    have al:∀ i j,i<n->j<n->lt (p.getD i 0) (p.getD j 0)=false:=fun i j hi hj=>O.neg _ _ _ (u 0 i (ydc _) hi) (O.neg _ _ _ d (u j (n-1) (by ac_rfl) (by ac_rfl)))
    refine zir O (zhr hp (by ac_rfl)) (zgD _ _ _) (by ac_rfl) (by ac_rfl) (Des.fall O (fun i j h2 h3=>?_) (by ac_rfl) ?_)
    ·rw[zbN hs,zbN hs,if_pos (by ac_rfl),if_pos (by ac_rfl)]
     exact al _ _ (by ac_rfl) (by ac_rfl)
    ·rw[zbN hs,zbN hs,if_pos (by ac_rfl),if_neg (by ac_rfl)]
     exact O.neg _ _ _ (al _ (n-1) (by ac_rfl) (by ac_rfl)) c'
  ·rw[if_neg g]
   have e1:n=1:=by ac_rfl
   subst e1
   refine zir O hp (Array.Perm.refl _) (ycz _) (by ac_rfl) (Des.fall O (fun i j h2 h3=>?_) (ycz _) c')
   have:i=j:=by ac_rfl
   subst this
   exact O.irr _
theorem ziP (O:Ord lt) {p:Array Nat} (hp:In N p) {k:Nat} (hk:k<N) (u:Up lt p k) {Q:Nat->Prop}:∀ (f l r:Nat),l<=r->r<=k->r-l<=f->(∀ i,i<l->lt (p.getD k 0) (p.getD i 0)=false)->(∀ i,r<=i->i<k->lt (p.getD k 0) (p.getD i 0)=true) ->
  (∀ m,m<=k->(∀ i,i<m->lt (p.getD k 0) (p.getD i 0)=false)->(∀ i,m<=i->i<k->lt (p.getD k 0) (p.getD i 0)=true)->Q m)->okT N lt (kas_place p k f l r) Q
 | 0,l,r,h1,h2,h3,lo,hi,hQ=>hQ l (by ac_rfl) lo fun i a b=>hi i (by ac_rfl) b
 | f+1,l,r,h1,h2,h3,lo,hi,hQ=>by
  show okT N lt (if l>=r then _ else _) Q
  by_cases g:l>=r
  ·rw[if_pos g]
   exact hQ l (by ac_rfl) lo fun i a b=>hi i (by ac_rfl) b
  ·rw[if_neg g]
   refine ⟨⟨hp.2 k hk,hp.2 _ (by ac_rfl)⟩,?_⟩
   cases c:lt (p.getD k 0) (p.getD ((l+r) / 2) 0) with
   | true =>
    refine ziP O hp hk u f l ((l+r) / 2) (by ac_rfl) (by ac_rfl) (by ac_rfl) lo (fun i a b=>?_) hQ
    cases d:lt (p.getD k 0) (p.getD i 0) with
    | true=>rfl
    | false =>
     have:=O.neg _ _ _ d (u _ i a b)
     rw[c] at this
     cases this
   | false=>exact ziP O hp hk u f ((l+r) / 2+1) r (by ac_rfl) h2 (by ac_rfl) (fun i a=>O.neg _ _ _ c (u i _ (by ac_rfl) (by ac_rfl))) hi hQ
theorem zlY {p:Array Nat} {k l i:Nat} (hk:k<p.size) (hl:l<=k):(bubble p k (k-l)).getD i 0=if i=l then p.getD k 0 else if l<i/\i<=k then p.getD (i-1) 0 else p.getD i 0:=by
 have e:=getElem?_bubble hk (k-l) (by ac_rfl) i
 rw[show k-(k-l)=l by ac_rfl] at e
 by_cases c:i=l
 ·rw[if_pos c] at e ⊢;exact zf3 e
 ·rw[if_neg c] at e ⊢
  by_cases c2:l<i/\i<=k
  ·rw[if_pos c2] at e ⊢;exact zf3 e
  ·rw[if_neg c2] at e ⊢;exact zf3 e
theorem zpT (O:Ord lt) {p0:Array Nat}:∀ (f:Nat) (p:Array Nat) (k:Nat),In N p->p.Perm p0->k+f=N->Up lt p k->okT N lt (kas_bin f p k) fun q=>In N q/\q.Perm p0/\Up lt q N
 | 0,p,k,hp,pe,e,u=>⟨hp,pe,by rw[<-e];exact u⟩
 | f+1,p,k,hp,pe,e,u=>by
  have hk:k<p.size:=by rw[hp.1];ac_rfl
  refine zdm _ (ziP O hp (by ac_rfl) u k 0 k (ydc _) (ycz _) (by ac_rfl) (fun i h=>absurd h (Nat.not_lt_zero _)) (fun i a b=>by ac_rfl) fun l hl lo hi=>?_)
  refine zpT O f _ (k+1) ⟨by rw[bubble_size];exact hp.1,fun i h=>?_⟩ ((bubble_perm _ _ _).trans pe) (by ac_rfl) fun i j h1 h2=>?_
  ·rw[zlY hk hl]
   by_cases c1:i=l
   ·rw[if_pos c1];exact hp.2 k (by ac_rfl)
   ·rw[if_neg c1]
    by_cases c2:l<i/\i<=k
    ·rw[if_pos c2];exact hp.2 _ (by ac_rfl)
    ·rw[if_neg c2];exact hp.2 i h
  ·rw[zlY hk hl,zlY hk hl]
   by_cases ei:i=l
   ·rw[if_pos ei]
    by_cases ej:j=l
    ·rw[if_pos ej];exact O.irr _
    ·rw[if_neg ej,if_pos (by ac_rfl)]
     exact O.asy _ _ (hi (j-1) (by ac_rfl) (by ac_rfl))
   ·rw[if_neg ei]
    by_cases ej:j=l
    ·rw[if_pos ej,if_neg (by ac_rfl)]
     exact lo i (by ac_rfl)
    ·rw[if_neg ej]
     by_cases ci:l<i/\i<=k
     ·rw[if_pos ci,if_pos (by ac_rfl)]
      exact u _ _ (by ac_rfl) (by ac_rfl)
     ·rw[if_neg ci]
      by_cases cj:l<j/\j<=k
      ·rw[if_pos cj]
       exact u _ _ (by ac_rfl) (by ac_rfl)
      ·rw[if_neg cj]
       exact u _ _ h1 (by ac_rfl)
theorem zrT (O:Ord lt) (h1:1<=N):okT N lt (kas_sort N) fun q=>In N q/\q.Perm (ybp (yas N))/\Up lt q N:=by
 have hp:In N (ybp (yas N)):=⟨by simp,fun i h=>by
  rw[yed]
  simp[h]⟩
 refine zdm _ (zmq (fun r g=>?_) _ (zqN O hp h1))
 obtain ⟨a,b,c,d,e⟩:=g
 show okT N lt (if r.1<N then _ else _) _
 by_cases h:r.1<N
 ·rw[if_pos h]
  exact zpT O _ _ _ a b (by ac_rfl) (by rw[Nat.max_eq_left c];exact e)
 ·rw[if_neg h]
  have:r.1=N:=by ac_rfl
  exact ⟨a,b,by rw[<-this];exact e⟩
end SortT
namespace SortT
open PySem PySem.W PyProof.Rows PySem.Calls
def zaV (h:Heap) (v:Value) (x:Int × Int):Prop:=∃ a o n t u,v=.ref a/\h.get? a=some o/\o.cls=.type "tuple" /\ o.data=.seq #[.int x.1 t,.int x.2 u] n
theorem zaV.keep {h h':Heap} {v:Value} {x:Int × Int} (p:zaV h v x) (k:∀ a o,v=.ref a->h.get? a=some o->h'.get? a=some o):zaV h' v x:=by
 obtain ⟨a,o,n,t,u,rfl,e,r⟩:=p
 exact ⟨a,o,n,t,u,rfl,k a o rfl e,r⟩
def lex (x y:Int × Int):Bool:=decide (x.1<y.1\/(x.1=y.1/\x.2<y.2))
section
variable {prog:Program} {w:World} {A:Around} {E:Value->Shared->Prop} {s:Shared}
theorem zrM {v v':Value} {x y:Int × Int} (hv:zaV s.heap v x) (hw:zaV s.heap v' y) {Q:Bool->Shared->Prop} (h:Q (lex x y) s):wpAny (model prog w) A (keyLt' (tuples' true) v v') Q E s:=by
 obtain ⟨a,o,n,t,u,rfl,e,c,d⟩:=hv
 obtain ⟨a',o',n',t',u',rfl,e',c',d'⟩:=hw
 refine kat_lt e d e' d' ?_
 refine kat_cons (wpAny_eqBool_int ?_)
 by_cases c1:x.1=y.1
 ·rw[show (x.1 == y.1)=true from beq_iff_eq.mpr c1]
  refine kat_yes (kat_cons (wpAny_eqBool_int ?_))
  by_cases c2:x.2=y.2
  ·rw[show (x.2 == y.2)=true from beq_iff_eq.mpr c2]
   refine kat_yes (kat_nil ?_)
   have:lex x y=false:=decide_eq_false (by ac_rfl)
   rw[this] at h
   exact h
  ·rw[show (x.2 == y.2)=false from beq_eq_false_iff_ne.mpr c2]
   refine kat_no (kat_one _ _ (lt_int ?_))
   have:lex x y=decide (x.2<y.2):=decide_eq_decide.mpr (by ac_rfl)
   rw[this] at h
   exact h
 ·rw[show (x.1 == y.1)=false from beq_eq_false_iff_ne.mpr c1]
  refine kat_no (oneLt_int ?_)
  have:lex x y=decide (x.1<y.1):=decide_eq_decide.mpr (by ac_rfl)
  rw[this] at h
  exact h
theorem znQ (f:Nat->Int × Int):Ord fun i j=>lex (f i) (f j):=by
 refine ⟨fun i=>decide_eq_false (by ac_rfl),fun i j h=>?_,fun i j k h1 h2=>?_⟩
 ·have:=of_decide_eq_true h
  exact decide_eq_false (by ac_rfl)
 ·have a:=of_decide_eq_false h1
  have b:=of_decide_eq_false h2
  exact decide_eq_false (by ac_rfl)
theorem zit {a:Addr} {vs:List Value} {n:Nat} {P:PySem.Fin->Shared->Prop} {f:Nat->Int × Int} (ho:s.heap.get? a=some (seqObj "list" vs.toArray n)) (h64:vs.length<64) (hp:∀ i,i<vs.length->zaV s.heap (vs.getD i .none) (f i))
  (h:∀ p:Array Nat,In vs.length p->p.Perm (ybp (yas vs.length))->Up (fun i j=>lex (f i) (f j)) p vs.length->P (.done (.ret .none)) { s with heap:=sortedHeap s.heap a vs (ybp (p.toList.map fun i=>vs.getD i Value.none)) }) :
  wpAny (model prog w) A (Builtin.«list.sort» ⟨[.ref a],[]⟩) P E s:=by
 rw[list_sort_plain]
 have ha:a<s.heap.objs.size:=ydq ho
 refine wpAny_bind (listItems_at ho rfl ?_)
 refine wpAny_bind (listUpdate_at ho rfl ?_ (by rw[yao,sizeLine_eq];ac_rfl) (ydc _))
 obtain ⟨e1,ho1⟩:∃ e1,(s.heap.update a (Obj.mapSeq fun _=>#[])).get? a=some (seqObj "list" #[] e1):=⟨_,get?_update_seq ho (fun _=>#[])⟩
 refine wpAny_bind (seqEpoch_at ho1 rfl ?_)
 refine wpAny_bind (wpAny_newTuple ?_ (by show vs.length<=_;rw[sizeLine_eq];ac_rfl))
 refine wpAny_bind (wpAny_newList ?_ (ydc _))
 refine wpAny_holding ?_
 have ho6:(((s.heap.update a (Obj.mapSeq fun _=>#[])).push (seqObj "tuple" vs.toArray 0)).push (seqObj "list" #[] 0)).get? a=some (seqObj "list" #[] e1):=ydp _ (ydp _ ho1)
 show wpAny (model prog w) A _ P E { s with heap:=((s.heap.update a (Obj.mapSeq fun _=>#[])).push (seqObj "tuple" vs.toArray 0)).push (seqObj "list" #[] 0) }
 dsimp only
 have hsz:vs.toArray.size=vs.length:=by simp
 have outsz:∀ p:Array Nat,p.size=vs.length->(ybp (p.toList.map fun i=>vs.getD i Value.none)).size<=sizeLine:=fun p hp=>by
  rw[yao,yab,yeb,hp,sizeLine_eq];ac_rfl
 by_cases h2:vs.toArray.size<2
 ·rw[if_pos h2,if_pos h2]
  refine wpAny_bind (wpAny_pure ?_)
  rw[StateT.run_pure]
  refine wpAny_bind (wpAny_pure ?_)
  dsimp only
  have hin:In vs.length (ybp (yas vs.length)):=⟨by simp,fun i h=>by rw[yed];simp[h]⟩
  have key:=h (ybp (yas vs.length)) hin (Array.Perm.refl _) (fun i j h1 h3=>by
   have:i=j:=by ac_rfl
   subst this
   exact (znQ f).irr _)
  have eo:(arrOf (SortSt.mk' general' (vs.toArray.zip vs.toArray) #[] 7 none)).map (·.2)=ybp ((ybp (yas vs.length)).toList.map fun i=>vs.getD i Value.none):=by
   refine kat_snds rfl ?_
   have e:=kas_range (vs.toArray.zip vs.toArray)
   rw[show (vs.toArray.zip vs.toArray).size=vs.length by simp] at e
   exact e.symm
  refine wpAny_bind (seqEpoch_at ho6 rfl ?_)
  refine wpAny_bind (listUpdate_at ho6 rfl ?_ (ydc _) (by rw[eo];exact Nat.le_succ_of_le (outsz _ hin.1)))
  simp only[bne_self_eq_false,Bool.false_eq_true,if_false]
  rw[eo]
  exact wpAny_pure key
 ·rw[if_neg h2,if_neg h2]
  have kp:∀ b o,b≠a->s.heap.get? b=some o->(((s.heap.update a (Obj.mapSeq fun _=>#[])).push (seqObj "tuple" vs.toArray 0)).push (seqObj "list" #[] 0)).get? b=some o:=fun b o nb e=>ydp _ (ydp _ (by rw[ydu _ _ _ _ nb];exact e))
  have hp':∀ i,i<vs.length->zaV (((s.heap.update a (Obj.mapSeq fun _=>#[])).push (seqObj "tuple" vs.toArray 0)).push (seqObj "list" #[] 0)) (vs.getD i .none) (f i):=fun i hi=>by
   obtain ⟨b,o,m,t,u,e,eo,c,d⟩:=hp i hi
   refine ⟨b,o,m,t,u,e,kp b o (fun z=>?_) eo,c,d⟩
   subst z
   rw[ho] at eo
   have eo':=Option.some.inj eo
   rw[<-eo'] at c
   exact absurd (show Value.type "list" = Value.type "tuple" from c) (by decide)
  have tups:∀ (ws:List Value) (g:Nat->Int × Int),(∀ i,i<ws.length->zaV (((s.heap.update a (Obj.mapSeq fun _=>#[])).push (seqObj "tuple" vs.toArray 0)).push (seqObj "list" #[] 0)) (ws.getD i .none) (g i))->∃ fs,KatTups (((s.heap.update a (Obj.mapSeq fun _=>#[])).push (seqObj "tuple" vs.toArray 0)).push (seqObj "list" #[] 0)) ws fs/\fs.length=ws.length/\∀ v∈fs,∃ m t,v=.int m t:=by
   intro ws
   induction ws with
   | nil=>intro g _;exact ⟨[],KatTups.nil,rfl,fun v hv=>by cases hv⟩
   | cons v ws ih =>
    intro g hg
    obtain ⟨fs,k1,k2,k3⟩:=ih (fun i=>g (i+1)) fun i hi=>hg (i+1) (by simp;ac_rfl)
    obtain ⟨b,o,m,t,u,e,eo,c,d⟩:=hg 0 (by simp)
    have e':v=.ref b:=e
    subst e'
    exact ⟨.int (g 0).1 t::fs,KatTups.cons eo c d rfl k1,by simp[k2],fun v hv=>by
     rcases yal.mp hv with rfl | hv
     ·exact ⟨_,_,rfl⟩
     ·exact k3 v hv⟩
  obtain ⟨fs,k1,k2,k3⟩:=tups vs f hp'
  refine wpAny_bind (kat_kind (T:=.type "int") k1 (by ac_rfl) (fun v hv=>?_) (by decide) ?_)
  ·obtain ⟨m,t,rfl⟩:=k3 v hv
   exact Looks.now
  have ask:(kas_sort vs.length).kasWp (kas_ask prog w A (tuples' (Value.type "int" != Value.type "tuple")) vs) (fun p s''=>(In vs.length p/\p.Perm (ybp (yas vs.length))/\Up (fun i j=>lex (f i) (f j)) p vs.length)/\s''={ s with heap:=((s.heap.update a (Obj.mapSeq fun _=>#[])).push (seqObj "tuple" vs.toArray 0)).push (seqObj "list" #[] 0) }) { s with heap:=((s.heap.update a (Obj.mapSeq fun _=>#[])).push (seqObj "tuple" vs.toArray 0)).push (seqObj "list" #[] 0) }:=by
   refine zpk (fun i j C hi hj hc=>?_) (fun p g=>⟨g,rfl⟩) _ (zrT (znQ f) (by ac_rfl))
   show wpAny (model prog w) A (keyLt' (tuples' true) (vs.getD i .none) (vs.getD j .none)) C _ _
   exact zrM (hp' i hi) (hp' j hj) hc
  refine wpAny_bind (wpAny_mono (kat_run (Q:=fun st' s'=>∃ p:Array Nat,p.size=vs.length/\arrOf st'=p.map (kas_item (vs.toArray.zip vs.toArray))/\failedOf st'=none/\(In vs.length p/\p.Perm (ybp (yas vs.length))/\Up (fun i j=>lex (f i) (f j)) p vs.length)/\s'={ s with heap:=((s.heap.update a (Obj.mapSeq fun _=>#[])).push (seqObj "tuple" vs.toArray 0)).push (seqObj "list" #[] 0) })
   rfl (by ac_rfl) h64 (fun p' st' s' a1 a2 a3 a4=>⟨p',a1,a2,a3,a4⟩) ask) ?_ fun _ _ e=>e)
  rintro ⟨⟨⟩,st'⟩ s' ⟨p,hps,har,hf,⟨g1,g2,g3⟩,rfl⟩
  dsimp only
  have hout:=kat_snds rfl har
  rw[hout]
  refine wpAny_bind (seqEpoch_at ho6 rfl ?_)
  refine wpAny_bind (listUpdate_at ho6 rfl ?_ (ydc _) (Nat.le_succ_of_le (outsz p hps)))
  rw[hf]
  simp only[bne_self_eq_false,Bool.false_eq_true,if_false]
  exact wpAny_pure (h p g1 g2 g3)
theorem zqD {l:Addr} {vs:List Value} {Q:Value->Shared->Prop} {f:Nat->Int × Int} (hl:s.heap.IsList l vs.toArray) (h64:vs.length<64) (hp:∀ i,i<vs.length->zaV s.heap (vs.getD i .none) (f i))
  (h:∀ p:Array Nat,In vs.length p->p.Perm (ybp (yas vs.length))->Up (fun i j=>lex (f i) (f j)) p vs.length->Q (.ref (s.heap.objs.size+1)) { s with heap:=sortedAll s.heap vs (ybp (p.toList.map fun i=>vs.getD i Value.none)) }) :
  wpAny (model prog w) A (call (.builtin "sorted") [.ref l]) Q E s:=by
 refine Calls.call_function_entry kind_sorted plain_sorted entry_sorted (args_sorted1 _) ?_
 unfold Builtin.«sorted»
 refine wpAny_bind (m:=checkCount "sorted" 1 1 _) (wpAny_pure ?_)
 refine wpAny_bind (collect_list hl ?_ (by rw[sizeLine_eq];ac_rfl))
 refine wpAny_bind (wpAny_newList ?_ (by rw[sizeLine_eq];ac_rfl))
 have hsz:((s.heap.push (seqObj "list" #[] 0)).update s.heap.objs.size (Obj.mapSeq (·++vs.toArray))).objs.size=s.heap.objs.size+1:=by
  rw[Heap.size_update,size_push']
 have hoL:(((s.heap.push (seqObj "list" #[] 0)).update s.heap.objs.size (Obj.mapSeq (·++vs.toArray))).push (seqObj "list" vs.toArray 0)).get? (s.heap.objs.size+1)=some (seqObj "list" vs.toArray 0):=by
  rw[<-hsz];exact ydr _ rfl
 have keep:∀ b o,s.heap.get? b=some o->(((s.heap.push (seqObj "list" #[] 0)).update s.heap.objs.size (Obj.mapSeq (·++vs.toArray))).push (seqObj "list" vs.toArray 0)).get? b=some o:=fun b o q=>by
  have hlt:b<s.heap.objs.size:=ydq q
  rw[Heap.get?_push_ne _ _ _ (by rw[hsz];exact yda (ydi hlt)),ydu _ _ _ _ (yda hlt),Heap.get?_push_ne _ _ _ (yda hlt)]
  exact q
 show wpAny _ _ _ _ _ { s with heap:=((s.heap.push (seqObj "list" #[] 0)).update s.heap.objs.size (Obj.mapSeq (·++vs.toArray))).push (seqObj "list" vs.toArray 0) }
 rw[hsz]
 refine wpAny_bind (wpAny_holding (wpAny_call_entry slot_list_sort ⟨_,hoL,rfl⟩ entry_list_sort (zit hoL h64 (fun i hi=>(hp i hi).keep fun a o _ e=>keep a o e) fun p a1 a2 a3=>⟨_,rfl,?_⟩) (args_list_sort _)))
 exact wpAny_pure ⟨_,rfl,h p a1 a2 a3⟩
end
end SortT
namespace L2
open PySem PySem.Spec PyProof.Rows
section
variable {X:Cx} {e k:Expr} {te:TE} {p2 pos:Pos} {lo hi:Option Expr} {tl th:TO}
theorem map_getD {α:Type} (l:List α) (d:α):(yas l.length).map (fun i=>l.getD i d)=l:=by
 apply ybx
 intro i
 rw[yak]
 by_cases h:i<l.length
 ·rw[ycg h,yaa h]
  simp[h]
 ·rw[yap (by simp;ac_rfl),yap (by ac_rfl)]
  rfl
theorem ziY {α:Type} {f:α->V} {g:α->Value}:∀ is:List α,(∀ i∈is,RelV (f i) (g i))->Vals (is.map f) (is.map g)
 | [],_=>.nil
 | i::is,h=>.cons (h i (yaj ..)) (ziY is fun j hj=>h j (yah _ hj))
theorem zlZ (hex:X.ex=[]:=by rfl):zbc X (.builtin "sorted") (fun xs H Q=>∃ (p:Addr) (vs:List V) (l:List (Int × Int)),xs=[.ref p]/\SqL X.K H p vs/\zu X.K H vs l/\l.length<64 /\
  ∀ (q:Addr) (H':Hp) (ws:List V) (r:List (Int × Int)),H q=none->Same H H'->H' q=some (.lst ws)->zu X.K H' ws r->r.Perm l->(r.Pairwise fun s t=>s.1<=t.1)->Q (.ref q) H'):=by
 intro pins s σ H xs us Q I r h
 obtain ⟨p,vs,l,rfl,hp,hR,hl,q⟩:=h
 obtain ⟨u,rfl,rx⟩:=vals1 r
 cases rx
 obtain ⟨its,rv,pl,hz⟩:=I.list hp
 have vl:=hR.length
 have len:its.length=l.length:=by rw[<-rv.length,vl]
 have pair:∀ i,i<its.length->SortT.zaV s.heap (its.getD i .none) (l.getD i (0,0)):=fun i hi=>by
  have ev:vs[i]?=some (vs[i]'(by ac_rfl)):=yaa (by ac_rfl)
  obtain ⟨a,x,e1,e2,e3⟩:=hR.get ev
  obtain ⟨w,hw,rw'⟩:=rv.get ev
  rw[e1] at rw'
  cases rw'
  obtain ⟨ts,tv,tp,_⟩:=I.tuple (SqT.of e3)
  cases tv with
  | cons t1 tv =>
   cases tv with
   | cons t2 tv =>
    cases tv
    obtain ⟨t,rfl⟩:=t1
    obtain ⟨t',rfl⟩:=t2
    obtain ⟨o,eo,oc,n,od⟩:=(show s.heap.IsTuple a _ from tp)
    refine ⟨a,o,n,t,t',?_,eo,oc,?_⟩
    ·rw[yae,hw];rfl
    ·rw[od,show l.getD i (0,0)=x by rw[yae,e2];rfl]
 refine SortT.zqD pl.isList (by ac_rfl) pair fun P a1 a2 a3=>?_
 obtain ⟨n,at_⟩:=sortedAll_at s.heap its (ybp (P.toList.map fun i=>its.getD i Value.none))
 have pin:∀ i∈P.toList,i<its.length:=fun i hi=>by
  obtain ⟨j,hj,rfl⟩:=yav.mp hi
  have hj':j<its.length:=by rw[<-a1.1];simpa using hj
  have:=a1.2 j hj'
  rw[yed,yec (by rw[a1.1];exact hj')] at this
  simpa using this
 have plen:P.toList.length=its.length:=by rw[yeb,a1.1]
 have vl':Vals (P.toList.map fun i=>vs.getD i .non) (P.toList.map fun i=>its.getD i Value.none):=ziY _ fun i hi=>by
  have hi':=pin i hi
  have ev:vs[i]?=some (vs[i]'(by ac_rfl)):=yaa (by ac_rfl)
  obtain ⟨w,hw,rw'⟩:=rv.get ev
  rw[yae,ev,yae,hw]
  exact rw'
 have new:s.heap.get? (s.heap.objs.size+1)=none:=ydw (ydk _)
 have nl:(P.toList.map fun i=>vs.getD i .non).length<=sizeLine:=by rw[yab,plen,sizeLine_eq];ac_rfl
 have I1:Inv X pins σ (upd H (s.heap.objs.size+1) (.lst (P.toList.map fun i=>vs.getD i .non))) { s with heap:=sortedAll s.heap its (ybp (P.toList.map fun i=>its.getD i Value.none)),toks:=s.toks } :=
  I.zlW (fun b o e=>sortedAll_old e) new hex ⟨nl,_,n,vl',by simpa [seqObj] using at_⟩
 have sm:Same H (upd H (s.heap.objs.size+1) (.lst (P.toList.map fun i=>vs.getD i .non))):=zc (I.hok.gone new) _
 refine ⟨.ref (s.heap.objs.size+1),_,I1,rfl,q _ _ _ (P.toList.map fun i=>l.getD i (0,0)) (I.hok.gone new) sm zg (zjH (by rw[yab,yab]) fun j v x h1 h2=>?_) ?_ ?_⟩
 ·rw[yak] at h1 h2
  obtain ⟨i,hi,rfl⟩:=Option.map_eq_some_iff.mp h1
  rw[hi] at h2
  have h2':l.getD i (0,0)=x:=Option.some.inj h2
  have hi':=pin i (yai hi)
  have ev:vs[i]?=some (vs[i]'(by ac_rfl)):=yaa (by ac_rfl)
  obtain ⟨b,y,e1,e2,e3⟩:=hR.get ev
  have ey:l.getD i (0,0)=y:=by rw[yae,e2];rfl
  refine ⟨b,by rw[yae,ev,<-e1];rfl,?_⟩
  rw[<-h2',ey]
  exact sm _ _ e3
 ·have pp:P.toList.Perm (yas l.length):=by
   have:=Array.perm_iff_toList_perm.mp a2
   rw[len] at this
   exact this
  have:=pp.map fun i=>l.getD i (0,0)
  rw[map_getD] at this
  exact this
 ·refine yaz.mpr fun i j hi hj lt=>?_
  rw[yab] at hi hj
  have up:=a3 i j (ydm lt) (by ac_rfl)
  have gi:∀ m (h:m<P.toList.length),P.getD m 0=P.toList[m]:=fun m h=>by
   rw[yed,yec (by simpa using h)]
   simp
  rw[gi i hi,gi j hj] at up
  have:=of_decide_eq_false up
  rw[ycv,ycv]
  ac_rfl
end
noncomputable def zap (l:List (Int × Int)) (k y:Int):List (Int × Int):=if l.any (fun p=>p.1=k) then l.map (fun p=>if p.1=k then (p.1,y) else p) else l++[(k,y)]
noncomputable def zfb (l:List (Int × Int)):List (Int × Int):=l.foldl (fun acc s=>zap acc s.1 s.2) []
inductive KR:List (Int × Value)->List (Int × Int)->Prop
 | nil:KR [] []
 | cons {k y:Int} {t:Tok} {r:List (Int × Value)} {l:List (Int × Int)}:KR r l->KR ((k,.int y t)::r) ((k,y)::l)
theorem KR.length {r:List (Int × Value)} {l:List (Int × Int)} (h:KR r l):r.length=l.length:=by
 induction h with
 | nil=>rfl
 | cons _ ih=>simp[ih]
theorem KR.any {r:List (Int × Value)} {l:List (Int × Int)} {k:Int} (h:KR r l):r.any (fun kv=>kv.1=k)=l.any (fun p=>p.1=k):=by
 induction h with
 | nil=>rfl
 | cons _ ih=>rw[ycy,ycy,ih]
theorem KR.snoc {r:List (Int × Value)} {l:List (Int × Int)} {k y:Int} {t:Tok} (h:KR r l):KR (r++[(k,.int y t)]) (l++[(k,y)]):=by
 induction h with
 | nil=>exact .cons .nil
 | cons _ ih=>exact .cons ih
theorem KR.map {r:List (Int × Value)} {l:List (Int × Int)} {k y:Int} {t:Tok} (h:KR r l):KR (r.map fun kv=>if kv.1=k then (kv.1,.int y t) else kv) (l.map fun p=>if p.1=k then (p.1,y) else p):=by
 induction h with
 | nil=>exact .nil
 | @cons k' y' t' r l _ ih =>
  rw[yay,yay]
  by_cases e:k'=k
  ·rw[if_pos e,if_pos e];exact .cons ih
  ·rw[if_neg e,if_neg e];exact .cons ih
theorem KR.stored {r:List (Int × Value)} {l:List (Int × Int)} {k y:Int} {t:Tok} (h:KR r l):KR (stored r k (.int y t)) (zap l k y):=by
 unfold PySem.stored zap
 rw[h.any]
 split
 ·exact h.map
 ·exact h.snoc
theorem KR.get {r:List (Int × Value)} {l:List (Int × Int)} (h:KR r l):∀ {i:Nat} {k:Int} {v:Value},r[i]?=some (k,v)->∃ y t,l[i]?=some (k,y)/\v=.int y t:=by
 induction h with
 | nil=>intro i k v e;simp at e
 | cons _ ih =>
  intro i k v e
  cases i with
  | zero=>cases e;exact ⟨_,_,rfl,rfl⟩
  | succ i=>exact ih e
theorem zjQ (l:List (Int × Int)) (k y:Int):(zap l k y).length<=l.length+1:=by
 unfold zap
 split
 ·rw[yab];ac_rfl
 ·simp
theorem ziq (l acc:List (Int × Int)):(l.foldl (fun acc s=>zap acc s.1 s.2) acc).length<=acc.length+l.length:=by
 induction l generalizing acc with
 | nil=>simp
 | cons s l ih =>
  rw[ybe]
  have:=ih (zap acc s.1 s.2)
  have:=zjQ acc s.1 s.2
  rw[yax]
  ac_rfl
theorem znq (l:List (Int × Int)):(zfb l).length<=l.length:=by
 have:=ziq l []
 simpa [zfb] using this
theorem zlL:typeLookup (.type "list") "keys" = pure none:=by rw[typeLookup_type,builtinLookup_eq_fast];kernel_rfl
theorem zmx {prog:Program} {w:World} {A:Around} {E:Value->Shared->Prop} {s:Shared} {a:Addr} {xs:Array Value} {k:Nat} {Q:Option Value->Shared->Prop}
  (hx:s.heap.get? a=some { cls:=.type "list", dict:=none,data:=.seq xs k,slots:=#[] }) (hA:A.handled=none)
  (h:∀ h' tk,(∀ b o,s.heap.get? b=some o->h'.get? b=some o)->Q none { s with heap:=h',toks:=tk }) :
  wpAny (model prog w) A (getAttr? (.ref a) "keys") Q E s:=by
 obtain ⟨hp,g,d,tk,os⟩:=s
 have hT:∀ tk',(⟨hp,g,d,tk',os⟩:Shared).TypeIs (.ref a) "list" := fun _=>⟨_,hx,rfl⟩
 have f1:=sub_AttributeError
 have f3:=F.slot_list_getattribute.lookup
 have f4:=F.slot_list_getattribute.bind (.ref a)
 have f5:=am_list_getattr_none
 unfold getAttr? getAttrBy? getAttrBy
 repeat (any_goals (first | assumption | exact hT _ | ((with_reducible show wpAny _ _ (call (Value.builtin "list.__getattribute__") _ _) _ _ _);refine call_meets F.slot_list_getattribute (hT _) am_entry_list_getattribute (F.args_list_getattribute_2 _ _) (meets_getattribute_miss_list a xs k #[] "keys" _ zlL (by decide +kernel) (by size_fits)) ⟨hx,hA,fun h' tk' e hx'=>?_⟩) | wp_step))
 obtain ⟨t',u',he⟩:=hx'.there
 show wpAny _ _ (getattributeRaised _ _ _ _ _ _ _) _ _ _
 unfold getattributeRaised
 repeat (any_goals (first | assumption | wp_step))
 exact h _ _ hx'.keeps
theorem zfX:entryFor table "dict.update.loop" = some Builtin.«dict.update.loop»:=entryFor_of_tree (by kernel_rfl)
theorem zb5:plainId "dict.update.loop" = true:=by decide +kernel
section
variable {prog:Program} {w:World} {A:Around} {s:Shared} {R:Result->Shared->Prop}
theorem zbK {h h':Heap} {d:Addr} {kvs:List (Int × Value)} (x:h.DictOf (intKind prog w) d kvs) (k:∀ o,h.get? d=some o->h'.get? d=some o):h'.DictOf (intKind prog w) d kvs:=by
 obtain ⟨o,es,ep,e,r⟩:=x
 exact ⟨o,es,ep,k o e,r⟩
theorem zqW {d it p:Addr} {its:List Value} {l:List (Int × Int)} {h₁:Heap} (hh:A.handled=none) (ndi:d≠it) (ndp:d≠p) (nip:it≠p) (len:its.length=l.length) (h64:its.length<64)
  (hR:∀ h' tk kvs,(∀ b o,b≠d->b≠it->h₁.get? b=some o->h'.get? b=some o)->h'.DictOf (intKind prog w) d kvs->KR kvs (zfb l)->R (.ok (.ret .none)) { s with heap:=h',toks:=tk }) :
  ∀ (k i:Nat) (h:Heap) (tk:Nat) (kvs:List (Int × Value)),its.length-i=k->i<=its.length->h.IsListIter it p i->h.IsList p its.toArray->(∀ j,j<its.length->SortT.zaV h (its.getD j .none) (l.getD j (0,0))) ->
   h.DictOf (intKind prog w) d kvs->KR kvs ((l.take i).foldl (fun acc s=>zap acc s.1 s.2) [])->(∀ b o,b≠d->b≠it->h₁.get? b=some o->h.get? b=some o) ->
   codeAny (model prog w) A (.builtin "dict.update.loop" ⟨[.ref d,.ref it,rawInt i,.none],[]⟩) R { s with heap:=h,toks:=tk }:=by
 intro k
 induction k with
 | zero =>
  intro i h tk kvs hk hi hit hl hp hd hkr hkeep
  have hin:i=its.length:=by ac_rfl
  refine codeAny_builtin zfX ?_
  rw[Around.under_plainId zb5 _]
  show wpAny _ A.in1 (pyNext (.ref it) >>= _) _ _ _
  refine wpAny_bind (wpAny_pyNext_list_end (s:={ s with heap:=h,toks:=tk }) (A:=A.in1) hh hit hl (by simp;ac_rfl) fun h' he=>?_)
  show wpAny _ _ (Builtin.Dict.addKeywords d [] >>= _) _ _ _
  refine wpAny_bind (wpAny_pure (wpAny_pure ?_))
  refine hR h' tk kvs (fun b o b1 b2 e=>he b o b2 (hkeep b o b1 b2 e)) (zbK hd fun o e=>he d o ndi e) ?_
  rw[hin,len,List.take_length] at hkr
  exact hkr
 | succ k ih =>
  intro i h tk kvs hk hi hit hl hp hd hkr hkeep
  have hlt:i<its.length:=by ac_rfl
  obtain ⟨a,oa,n,t,u,ea,eo,oc,odt⟩:=hp i hlt
  have hx:its[i]?=some (.ref a):=by
   rw[yae,yaa hlt] at ea
   rw[yaa hlt]
   exact congrArg some ea
  refine codeAny_builtin zfX ?_
  rw[Around.under_plainId zb5 _]
  show wpAny _ A.in1 (pyNext (.ref it) >>= _) _ _ _
  refine wpAny_bind (wpAny_pyNext_list_item (s:={ s with heap:=h,toks:=tk }) (A:=A.in1) hit hl (x:=.ref a) (by simpa using hx) fun h' hit' sb=>?_)
  have ait:a≠it:=fun z=>by
   obtain ⟨o,ho,hc,_⟩:=hit
   rw[z,ho] at eo
   cases eo
   rw[hc] at oc
   exact absurd oc (by decide)
  have ad:a≠d:=fun z=>by
   obtain ⟨o,es,ep,ho,hc,_⟩:=id hd
   rw[z,ho] at eo
   cases eo
   have:=hc.1
   rw[this] at oc
   exact absurd oc (by decide)
  have eo':h'.get? a=some oa:=(sb.2 a ait).trans eo
  have hT:({ s with heap:=h',toks:=tk }:Shared).TypeIs (.ref a) "tuple" := ⟨oa,eo',oc⟩
  have hd':h'.DictOf (intKind prog w) d kvs:=zbK hd fun o e=>(sb.2 d ndi).trans e
  show wpAny _ _ (holding [Value.ref a] _ >>= _) _ _ _
  refine wpAny_bind (wpAny_holding ?_)
  refine wpAny_bind (wpAny_tryCatch ?_)
  unfold Builtin.Dict.pairItems
  refine wpAny_bind (wpAny_typeOf hT ?_)
  rw[if_pos (by decide)]
  refine wpAny_bind (wpAny_seqItems eo' odt ?_)
  refine wpAny_pure ?_
  show wpAny _ _ (holding [Value.int (l.getD i (0,0)).1 t,Value.int (l.getD i (0,0)).2 u] (dictSet d (Value.int (l.getD i (0,0)).1 t) (Value.int (l.getD i (0,0)).2 u))) _ _ _
  refine wpAny_holding ?_
  have kl:=hkr.length
  have fl:=ziq (l.take i) []
  rw[yau] at fl
  refine wpAny_dictSet_pairs (knd:=intKind prog w) (k:=(l.getD i (0,0)).1) (by first | exact Value.isInt_int _ _ | (simp[intKind,Value.isInt];done) | exact beq_self_eq_true _) hd' (fun h2 hd2 sb2=>?_) (by rw[sizeLine_eq];simp at fl;ac_rfl)
  refine wpAny_pure ⟨plainId_quiet zb5 _,?_⟩
  have k2:∀ b o,b≠d->b≠it->h.get? b=some o->h2.get? b=some o:=fun b o b1 b2 e=>(sb2.2 b b1).trans ((sb.2 b b2).trans e)
  refine ih (i+1) h2 _ _ (by ac_rfl) (by ac_rfl) (hit'.at fun o e=>(sb2.2 it ndi.symm).trans e) ?_ (fun j hj=>(hp j hj).keep fun b o eb e=>k2 b o ?_ ?_ e) hd2 ?_ fun b o b1 b2 e=>k2 b o b1 b2 (hkeep b o b1 b2 e)
  ·obtain ⟨o,e,r⟩:=hl
   exact ⟨o,k2 p o ndp.symm nip.symm e,r⟩
  ·intro z
   obtain ⟨b',o',n',t',u',e1,e2,e3,_⟩:=hp j hj
   rw[eb] at e1
   cases e1
   obtain ⟨od,es,ep,ho,hc,_⟩:=id hd
   rw[z,ho] at e2
   cases e2
   rw[hc.1] at e3
   exact absurd e3 (by decide)
  ·intro z
   obtain ⟨b',o',n',t',u',e1,e2,e3,_⟩:=hp j hj
   rw[eb] at e1
   cases e1
   obtain ⟨oi,ho,hc,_⟩:=id hit
   rw[z,ho] at e2
   cases e2
   rw[hc] at e3
   exact absurd e3 (by decide)
  ·have tk:l.take (i+1)=l.take i++[l.getD i (0,0)]:=by
    rw[ycf,yaa (by ac_rfl),yae,yaa (by ac_rfl)]
    rfl
   rw[tk,ybs]
   exact hkr.stored
theorem zk0 {E:Value->Shared->Prop} {p:Addr} {its:List Value} {n:Nat} {l:List (Int × Int)} {Q:Value->Shared->Prop} (hh:A.handled=none) (hl:s.heap.get? p=some { cls:=.type "list", dict:=none,data:=.seq its.toArray n,slots:=#[] }) (len:its.length=l.length) (h64:its.length<64)
  (hp:∀ j,j<its.length->SortT.zaV s.heap (its.getD j .none) (l.getD j (0,0)))
  (h:∀ h' tk kvs,(∀ b o,s.heap.get? b=some o->h'.get? b=some o)->h'.DictOf (intKind prog w) s.heap.objs.size kvs->KR kvs (zfb l)->Q (.ref s.heap.objs.size) { s with heap:=h',toks:=tk }) :
  wpAny (model prog w) A (call (.type "dict") [.ref p]) Q E s:=by
 have hlt:p<s.heap.objs.size:=ydq hl
 refine callType_codes (Q₁:=fun obj s₁=>obj=.ref s.heap.objs.size/\s₁={ s with heap:=s.heap.push { cls:=.type "dict", data:=.dict #[] } }) F.kt_called_dict (F.kt_typeCall_dict_1 _) F.entry_dict_init (kt_code_dict_new _ ⟨rfl,rfl⟩) ?_
 rintro obj s₁ ⟨rfl,rfl⟩
 have hnew:(s.heap.push { cls:=.type "dict", data:=.dict #[] }).DictOf (intKind prog w) s.heap.objs.size []:=Heap.DictOf.new s.heap
 have hl1:(s.heap.push { cls:=.type "dict", data:=.dict #[] }).get? p=some { cls:=.type "list", dict:=none,data:=.seq its.toArray n,slots:=#[] }:=ydp _ hl
 refine ⟨hnew.typeIs,F.args_dict_init_2 _ _,?_⟩
 unfold Builtin.«dict.__init__»
 refine wpAny_bind ?_
 unfold Builtin.Dict.selfAndRest
 refine wpAny_bind (wpAny_notOrdered_dict hnew.typeIs ?_)
 show wpAny _ _ (pure (s.heap.objs.size,[Value.ref p])) _ _ _
 refine wpAny_pure ?_
 show wpAny _ _ (Builtin.Dict.updateFrom "dict.__init__" s.heap.objs.size (.ref p) [] .none) _ _ _
 unfold Builtin.Dict.updateFrom
 refine wpAny_bind (wpAny_typeOf (T:="list") ⟨_,hl1,rfl⟩ ?_)
 rw[if_pos (by decide)]
 refine wpAny_bind (zmx (s:={ s with heap:=s.heap.push { cls:=.type "dict", data:=.dict #[] } }) hl1 hh fun h2 tk2 k2=>?_)
 rw[if_pos (show (none:Option Value).isNone=true from rfl)]
 refine wpAny_bind (wpAny_rule ?_)
 have hl2:=k2 p _ hl1
 have hd2:=zbK (h':=h2) hnew fun o e=>k2 _ o e
 have lt2:s.heap.objs.size<h2.objs.size:=by
  obtain ⟨o,es,ep,e,_⟩:=hd2
  exact ydq e
 have hlL:h2.IsList p its.toArray:=⟨_,hl2,rfl,n,rfl⟩
 refine wpAny_bind (wpAny_pyIter_list hlL ?_)
 refine wpAny_pure ⟨plainId_quiet zb5 _,?_⟩
 refine zqW (s:=s) (A:=A.in1) (h₁:=h2) (d:=s.heap.objs.size) (it:=h2.objs.size) (p:=p) (its:=its) (l:=l) hh (yda lt2) (ydh hlt) (ydh (ydl hlt lt2)) len h64 (fun h' tk kvs kp hd' hkr=>?_)
  its.length 0 _ tk2 [] (Nat.sub_zero _) (ydc _) ⟨_,ydr _ rfl,rfl,rfl⟩ (hlL.push _) (fun j hj=>(hp j hj).keep fun a o _ e=>ydp _ (k2 a o (ydp _ e))) (zbK hd2 fun o e=>ydp _ e) .nil fun b o b1 b2 e=>ydp _ e
 refine ⟨rfl,h h' tk kvs (fun b o e=>kp b o (yda (ydq e)) (yda (ydl (ydq e) lt2)) (k2 b o (ydp _ e))) hd' hkr⟩
end
noncomputable def zbz (P:Program) (w:World) (d:Addr) (l:List (Int × Int)):HO:=.ext fun h=>(d == sysModules)=false/\∃ kvs,h.DictOf (intKind P w) d kvs/\KR kvs l
noncomputable def zoM (v d:Addr):HO:=.ext fun h=>h.IsItemsView v d
section
variable {X:Cx} {pins:List (Addr × Obj)} {σ:St} {H:Hp} {s:Shared}
theorem zpe {vs:List V} {l:List (Int × Int)} {p:Addr} (I:Inv X pins σ H s) (hp:SqL X.K H p vs) (hR:zu X.K H vs l):∃ its,Vals vs its/\s.heap.IsList p its.toArray/\its.length=l.length/\∀ i,i<its.length->SortT.zaV s.heap (its.getD i .none) (l.getD i (0,0)):=by
 obtain ⟨its,rv,pl,hz⟩:=I.list hp
 have vl:=hR.length
 refine ⟨its,rv,pl.isList,by rw[<-rv.length,vl],fun i hi=>?_⟩
 have len:its.length=l.length:=by rw[<-rv.length,vl]
 have ev:vs[i]?=some (vs[i]'(by ac_rfl)):=yaa (by ac_rfl)
 obtain ⟨a,x,e1,e2,e3⟩:=hR.get ev
 obtain ⟨w,hw,rw'⟩:=rv.get ev
 rw[e1] at rw'
 cases rw'
 obtain ⟨ts,tv,tp,_⟩:=I.tuple (SqT.of e3)
 cases tv with
 | cons t1 tv =>
  cases tv with
  | cons t2 tv =>
   cases tv
   obtain ⟨t,rfl⟩:=t1
   obtain ⟨t',rfl⟩:=t2
   obtain ⟨o,eo,oc,n,od⟩:=(show s.heap.IsTuple a _ from tp)
   refine ⟨a,o,n,t,t',?_,eo,oc,?_⟩
   ·rw[yae,hw];rfl
   ·rw[od,show l.getD i (0,0)=x by rw[yae,e2];rfl]
theorem zoU (hc:X.calm=true):zbc X (.type "dict") (fun xs H Q=>∃ (p:Addr) (vs:List V) (l:List (Int × Int)),xs=[.ref p]/\H p=some (.lst vs)/\zu X.K H vs l/\l.length<64 /\
  ∀ (d:Addr) (H':Hp),H d=none->Same H H'->H' d=some (zbz X.prog X.w d (zfb l))->Q (.ref d) H'):=by
 intro pins s σ H xs us Q I r h
 obtain ⟨p,vs,l,rfl,hp,hR,hl,q⟩:=h
 obtain ⟨u,rfl,rx⟩:=vals1 r
 cases rx
 obtain ⟨its,rv,pl,len,pr⟩:=zpe I (SqL.of hp) hR
 obtain ⟨z,its',n',rv',e'⟩:=(show zai X.prog X.w H s.heap p (.lst vs) from I.hok p _ hp)
 obtain ⟨o,eo,oc,n,od⟩:=pl
 have ei:its=its':=by
  rw[e'] at eo
  cases eo
  have:=od
  simpa using (Data.seq.inj this).1.symm
 subst ei
 have big:sysModules<s.heap.objs.size:=ydl (by decide) (show mainGlobals<s.heap.objs.size from (I.mod.glob.keeps I.bk).lt)
 have lo:(s.heap.objs.size == sysModules)=false:=beq_eq_false_iff_ne.mpr (Ne.symm (yda big))
 refine zk0 (I.ok.hd hc) e' len (by ac_rfl) pr fun h' tk kvs kp hd hkr=>?_
 refine ⟨.ref s.heap.objs.size,_,I.laid (o:=zbz X.prog X.w s.heap.objs.size (zfb l)) kp (ycz _) ⟨⟨lo,kvs,hd,hkr⟩,(let ⟨o,_,_,e,_⟩:=hd;⟨o,e⟩),fun h1 h2 ⟨lo',kv,x,y⟩ e=>⟨lo',kv,zbK x e,y⟩⟩,rfl,q _ _ (I.hok.fresh (ycz _)) (zc (I.hok.fresh (ycz _)) _) zg⟩
def zsn (P:Program) (w:World) (to:TE):TE:=fun σ H Q=>to σ H fun x H1=>∃ (d:Addr) (l:List (Int × Int)),x=.ref d/\H1 d=some (zbz P w d l)/\∀ (v:Addr) (H':Hp),H1 v=none->Same H1 H'->H' v=some (zoM v d)->Q (.ref v) H'
theorem zlI {o:Expr} {to:TE} {apos cpos:Pos} (ho:PE X o to)
  (hbase:attributeBase o "items" X.env (eval o X.env)=eval o X.env:=by rfl) (hline:(apos.endLine == cpos.line)=true:=by rfl):PE X (.Call (.Attribute o "items" apos) [] [] cpos) (zsn X.prog X.w to):=by
 intro pins s σ H Q I h
 refine wpAny_Call_method0_late hbase hline (thn (ho pins s σ H _ I h) fun v s1 ⟨x,H1,I1,r1,d,l,ex,hd,q1⟩=>?_)
 subst ex
 obtain rfl:v=Value.ref d:=r1
 obtain ⟨lo,kvs,hD,hkr⟩:=(I1.hok d _ hd).1
 refine ⟨"dict", "dict.items", F.plainAttrs_dict,F.slot_dict_items,F.type_dict_items,hD.typeIs,hD.mapOf.noDict,Calls.callWith_builtin rfl (PySem.evalArgs_none ?_)⟩
 refine call_meetsIn PySem.F.slot_dict_items hD.typeIs PySem.F.entry_dict_items (PySem.F.args_dict_items_1 _) (meets_dict_items (intKind X.prog X.w) d lo) ⟨⟨kvs,hD⟩,?_⟩
 exact ⟨.ref s1.heap.objs.size,_,I1.laid (t':=s1.toks) (o:=zoM s1.heap.objs.size d) (fun b ob q=>ydp _ q) (ycz _) ⟨⟨_,ydr _ rfl,rfl,rfl⟩,⟨_,ydr _ rfl⟩,fun h1 h2 ⟨o,e,r⟩ k=>⟨o,k o e,r⟩⟩,rfl,
  q1 _ _ (I1.hok.fresh (ycz _)) (zc (I1.hok.fresh (ycz _)) _) zg⟩
theorem zjf {h':Heap} {tk:Nat} (hex:X.ex=[]) (I:Inv X pins σ H s) (k:∀ b o,s.heap.get? b=some o->h'.get? b=some o):∀ (bs:List (Addr × (Int × Int))),(bs.map (·.1)).Nodup->(∀ b∈bs,s.heap.get? b.1=none/\SortT.zaV h' (.ref b.1) b.2) ->
  ∃ H',Inv X pins σ H' { s with heap:=h',toks:=tk }/\Same H H'/\(∀ b∈bs,H' b.1=some (.tup [.int b.2.1,.int b.2.2]))/\∀ a,a ∉ bs.map (·.1)->H' a=H a
 | [],_,_=>⟨H,I.kept k,Same.refl _,(fun _ hb=>absurd hb (ycc)),fun _ _=>rfl⟩
 | b::bs,nd,hb=>by
  obtain ⟨H1,I1,s1,t1,o1⟩:=zjf hex I k bs (ybq.mp nd).2 fun c hc=>hb c (yah _ hc)
  obtain ⟨hn,a,o,n,t,u,ea,eo,oc,od⟩:=hb b (yaj ..)
  cases ea
  obtain ⟨f1,f2,f3,f4⟩:=I.zmb hn hex
  have nb:b.1 ∉ bs.map (·.1):=(ybq.mp nd).1
  have gone:H1 b.1=none:=by rw[o1 _ nb];exact I.hok.gone hn
  refine ⟨_,I1.track (o:=.tup [.int b.2.1,.int b.2.2]) gone f1 f2 f3 f4 ⟨by show 2<=sizeLine;rw[sizeLine_eq];ac_rfl,[.int b.2.1 t,.int b.2.2 u],.cons ⟨t,rfl⟩ (.cons ⟨u,rfl⟩ .nil),⟨o,eo,oc,n,od⟩⟩,s1.trans (zc gone _),fun c hc=>?_,fun c hc=>?_⟩
  ·rcases yal.mp hc with rfl | hc
   ·exact zg
   ·rw[zv (fun z=>nb (by rw[<-z];exact yag.mpr ⟨c,hc,rfl⟩))]
    exact t1 c hc
  ·rw[yay,yal,not_or] at hc
   rw[zv hc.1]
   exact o1 c hc.2
theorem zhn (hc:X.calm=true) (hex:X.ex=[]:=by rfl):zbc X (.builtin "sorted") (fun xs H Q=>∃ (v d:Addr) (l:List (Int × Int)),xs=[.ref v]/\H v=some (zoM v d)/\H d=some (zbz X.prog X.w d l)/\l.length<64 /\
  ∀ (q:Addr) (H':Hp) (ws:List V) (r:List (Int × Int)),H q=none->Same H H'->H' q=some (.lst ws)->zu X.K H' ws r->r.Perm l->(r.Pairwise fun s t=>s.1<=t.1)->Q (.ref q) H'):=by
 intro pins s σ H xs us Q I r h
 obtain ⟨v,d,l,rfl,hV,hD,hl,q⟩:=h
 obtain ⟨u,rfl,rx⟩:=vals1 r
 cases rx
 have hv:s.heap.IsItemsView v d:=(I.hok v _ hV).1
 obtain ⟨lo,kvs,hd,hkr⟩:=(I.hok d _ hD).1
 obtain ⟨od,es,ep,rd⟩:=hd
 have hat:s.heap.DictAt (intKind X.prog X.w) d kvs ep:=⟨od,es,rd⟩
 have kl:=hkr.length
 refine Calls.call_function_entry kind_sorted plain_sorted entry_sorted (args_sorted1 _) ?_
 unfold Builtin.«sorted»
 refine wpAny_bind (m:=checkCount "sorted" 1 1 _) (wpAny_pure ?_)
 refine wpAny_bind (PySem.W.kdx_collect (A:=X.A.in1) (knd:=intKind X.prog X.w) (kvs:=kvs) (ep:=ep) (I.ok.hd hc) hv hat (by rw[sizeLine_eq];ac_rfl) fun h1 tk as k1 al hG=>?_)
 refine wpAny_bind (wpAny_newList ?_ (by rw[yab,al,sizeLine_eq];ac_rfl))
 have an:as.length=l.length:=by ac_rfl
 have asl:∀ a∈as,a<h1.objs.size:=fun a ha=>hG.there ha
 have fresh:∀ a∈as,s.heap.get? a=none:=fun a ha=>ydw (ydm (hG.above a ha))
 have pr:∀ i,i<as.length->SortT.zaV h1 ((as.map Value.ref).getD i .none) (l.getD i (0,0)):=fun i hi=>by
  obtain ⟨key,k,x,e1,e2,e3⟩:=hG.pairs i as[i] (yaa hi)
  obtain ⟨y,t,e4,rfl⟩:=hkr.get e1
  obtain ⟨t',rfl⟩:=Value.isInt_shape e2
  refine ⟨as[i],_,0,t',t,?_,e3,rfl,?_⟩
  ·rw[yae,yak,yaa hi];rfl
  ·rw[yae,e4];rfl
 have hoL:(h1.push (seqObj "list" (as.map Value.ref).toArray 0)).get? h1.objs.size=some (seqObj "list" (as.map Value.ref).toArray 0):=ydr _ rfl
 show wpAny _ _ _ _ _ { s with heap:=h1.push (seqObj "list" (as.map Value.ref).toArray 0),toks:=tk }
 refine wpAny_bind (wpAny_holding (wpAny_call_entry slot_list_sort ⟨_,hoL,rfl⟩ entry_list_sort (SortT.zit (f:=fun i=>l.getD i (0,0)) hoL (by rw[yab];ac_rfl) (fun i hi=>(pr i (by rw[yab] at hi;exact hi)).keep fun a o _ e=>ydp _ e) fun P a1 a2 a3=>⟨_,rfl,?_⟩) (args_list_sort _)))
 refine wpAny_pure ⟨_,rfl,?_⟩
 rw[yab] at a1 a2 a3
 obtain ⟨out,hout⟩:∃ out,out=(P.toList.map fun i=>(as.map Value.ref).getD i Value.none):=⟨_,rfl⟩
 show EP X pins σ Q (Value.ref h1.objs.size) { s with heap:=sortedHeap (h1.push (seqObj "list" (as.map Value.ref).toArray 0)) h1.objs.size (as.map Value.ref) (ybp (P.toList.map fun i=>(as.map Value.ref).getD i Value.none)),toks:=tk }
 rw[<-hout]
 have keep3:∀ b o,h1.get? b=some o->(sortedHeap (h1.push (seqObj "list" (as.map Value.ref).toArray 0)) h1.objs.size (as.map Value.ref) out.toArray).get? b=some o:=fun b o e =>
  (sortedHeap_old (yda (ydq e)) (by rw[ydv];exact ydi (ydq e))).trans (ydp _ e)
 obtain ⟨n3,at3⟩:=sortedHeap_at (out:=out.toArray) hoL
 generalize sortedHeap (h1.push (seqObj "list" (as.map Value.ref).toArray 0)) h1.objs.size (as.map Value.ref) out.toArray=h3 at keep3 at3 ⊢
 have zm:(as.zip l).map (·.1)=as:=List.map_fst_zip (by ac_rfl)
 have nd:((as.zip l).map (·.1)).Nodup:=by
  rw[zm]
  exact hG.rise.imp fun {a b} z=>yda z
 have zin:∀ i,i<as.length->(as.getD i 0,l.getD i (0,0))∈as.zip l:=fun i hi=>by
  refine yai (i:=i) ?_
  rw[List.getElem?_zip_eq_some]
  have hi2:i<l.length:=by ac_rfl
  have g1:as.getD i 0=as[i]:=by rw[yae,yaa hi];rfl
  have g2:l.getD i (0,0)=l[i]:=by rw[yae,yaa hi2];rfl
  rw[g1,g2]
  exact ⟨yaa hi,yaa hi2⟩
 obtain ⟨H1,I1,s1,t1,o1⟩:=zjf (h':=h3) (tk:=tk) hex I (fun b o e=>keep3 b o (k1 b o e)) (as.zip l) nd fun b hb=>by
  obtain ⟨i,hi⟩:=ycj.mp hb
  rw[List.getElem?_zip_eq_some] at hi
  have hlt:i<as.length:=(yac.mp hi.1).1
  refine ⟨fresh _ (yai hi.1),?_⟩
  have:=(pr i hlt).keep (h':=h3) fun a o _ e=>keep3 a o e
  rw[yae,yak,hi.1,yae,hi.2] at this
  exact this
 have hnL:s.heap.get? h1.objs.size=none:=by
  cases e:s.heap.get? h1.objs.size with
  | none=>rfl
  | some o=>exact absurd (ydq (k1 _ o e)) (ydg _)
 obtain ⟨f1,f2,f3,f4⟩:=I.zmb hnL hex
 have nLa:h1.objs.size ∉ (as.zip l).map (·.1):=by
  rw[zm]
  exact fun z=>ydg _ (asl _ z)
 have goneL:H1 h1.objs.size=none:=by rw[o1 _ nLa];exact I.hok.gone hnL
 have pin:∀ i∈P.toList,i<as.length:=fun i hi=>by
  obtain ⟨j,hj,rfl⟩:=yav.mp hi
  have hj':j<as.length:=by rw[<-a1.1];simpa using hj
  have:=a1.2 j hj'
  rw[yed,yec (by rw[a1.1];exact hj')] at this
  simpa using this
 have plen:P.toList.length=as.length:=by rw[yeb,a1.1]
 have vl':Vals (P.toList.map fun i=>V.ref (as.getD i 0)) out:=by
  rw[hout]
  refine ziY _ fun i hi=>?_
  have hi':=pin i hi
  rw[yae,yae,yak,yaa hi']
  rfl
 have I2:=I1.track (o:=.lst (P.toList.map fun i=>V.ref (as.getD i 0))) goneL f1 f2 f3 f4 ⟨by rw[yab,plen,sizeLine_eq];ac_rfl,out,n3,vl',by simpa [seqObj] using at3⟩
 have sm:Same H (upd H1 h1.objs.size (.lst (P.toList.map fun i=>V.ref (as.getD i 0)))):=s1.trans (zc goneL _)
 refine ⟨.ref h1.objs.size,_,I2,rfl,q _ _ _ (P.toList.map fun i=>l.getD i (0,0)) (I.hok.gone hnL) sm zg (zjH (by rw[yab,yab]) fun j v x e1 e2=>?_) ?_ ?_⟩
 ·rw[yak] at e1 e2
  obtain ⟨i,hi,rfl⟩:=Option.map_eq_some_iff.mp e1
  rw[hi] at e2
  have e2':l.getD i (0,0)=x:=Option.some.inj e2
  have hi':=pin i (yai hi)
  refine ⟨_,rfl,?_⟩
  rw[<-e2',zv (fun z=>nLa (by rw[zm,<-z,yae,yaa hi'];exact yci hi'))]
  exact t1 _ (zin i hi')
 ·have pp:P.toList.Perm (yas l.length):=by
   have:=Array.perm_iff_toList_perm.mp a2
   rw[an] at this
   exact this
  have:=pp.map fun i=>l.getD i (0,0)
  rw[map_getD] at this
  exact this
 ·refine yaz.mpr fun i j hi hj lt=>?_
  rw[yab] at hi hj
  have up:=a3 i j (ydm lt) (by ac_rfl)
  have gi:∀ m (h:m<P.toList.length),P.getD m 0=P.toList[m]:=fun m h=>by
   rw[yed,yec (by simpa using h)]
   simp
  rw[gi i hi,gi j hj] at up
  have:=of_decide_eq_false up
  rw[ycv,ycv]
  ac_rfl
end
end L2
namespace Dbt
noncomputable def mx (a b:Int):Int:=if b > a then b else a
noncomputable def mn (a b:Int):Int:=if b<a then b else a
theorem zgr {a b:Int}:a<=mx a b/\b<=mx a b/\(mx a b=a\/mx a b=b):=by unfold mx;split <;> ac_rfl
theorem zop {a b:Int}:mn a b<=a/\mn a b<=b/\(mn a b=a\/mn a b=b):=by unfold mn;split <;> ac_rfl
inductive Wd where
 | lend | fee | turn | take | grow
noncomputable def step (u:Int) (w:Wd) (x m n:Int):Int × Int :=
 match w with
 | .lend=>(mn (m+x) (mx 0 ((n+u*x) / u)),n+u*x)
 | .fee=>(mn m (mx 0 ((n+u*x) / u)),n+u*x)
 | .take=>(mn m (mx 0 ((n+u * -x) / u)),n+u * -x)
 | .turn=>(mx 0 (n / u),n)
 | .grow=>(m,n+x)
noncomputable def Okd:Wd->Int->Prop
 | .lend,x=>0<=x
 | .grow,x=>0<=x
 | _,_=>True
def Good (u m n:Int):Prop:=0<=m/\m<=mx 0 (n / u)
theorem good0 (u:Int):Good u 0 0:=⟨ydx _,zgr.1⟩
theorem zcB {u:Int} {w:Wd} {x m n:Int} (hu:0<u) (ok:Okd w x) (g:Good u m n):Good u (step u w x m n).1 (step u w x m n).2:=by
 obtain ⟨g0,g1⟩:=g
 cases w with
 | lend =>
  have h0:0<=x:=ok
  have:=zgr (a:=0) (b:=(n+u*x) / u)
  have:=zop (a:=m+x) (b:=mx 0 ((n+u*x) / u))
  show 0<=mn (m+x) (mx 0 ((n+u*x) / u))/\mn (m+x) (mx 0 ((n+u*x) / u))<=mx 0 ((n+u*x) / u)
  ac_rfl
 | fee =>
  have:=zgr (a:=0) (b:=(n+u*x) / u)
  have:=zop (a:=m) (b:=mx 0 ((n+u*x) / u))
  show 0<=mn m (mx 0 ((n+u*x) / u))/\mn m (mx 0 ((n+u*x) / u))<=mx 0 ((n+u*x) / u)
  ac_rfl
 | take =>
  have:=zgr (a:=0) (b:=(n+u * -x) / u)
  have:=zop (a:=m) (b:=mx 0 ((n+u * -x) / u))
  show 0<=mn m (mx 0 ((n+u * -x) / u))/\mn m (mx 0 ((n+u * -x) / u))<=mx 0 ((n+u * -x) / u)
  ac_rfl
 | turn =>
  have:=zgr (a:=0) (b:=n / u)
  show 0<=mx 0 (n / u)/\mx 0 (n / u)<=mx 0 (n / u)
  ac_rfl
 | grow =>
  have h0:0<=x:=ok
  have h1:n / u<=(n+x) / u:=Int.ediv_le_ediv hu (by ac_rfl)
  have:=zgr (a:=0) (b:=n / u)
  have:=zgr (a:=0) (b:=(n+x) / u)
  show 0<=m/\m<=mx 0 ((n+x) / u)
  ac_rfl
variable {u s0 s1 m1 n1 m2 n2 x y:Int}
noncomputable def t1 (s1:Int):Option (Wd × Int)->Wd × Int->Int
 | some (.fee,x),(.fee,y)=>s1+y-x
 | _,_=>s1
end Dbt
namespace L2
open PySem PySem.Spec PyProof.Rows
section
variable {X:Cx}
end
structure MkI (K:W.Frag) (C:Addr):Prop where
 makes:PySem.W.makesIn K C=true
 kp:PySem.W.keepIn K (.ref C)=true
def zs6 (C:Addr) (f:Str) (ta:TE):TE:=fun σ H Q=>ta σ H fun x H1=>∃ a dx fs v,x=.ref a/\H1 a=some (.ins C dx fs)/\fs.lookup f=some v/\Q v H1
def zth (C:Addr) (f:Str) (ta tv:TE):TS:=fun D σ H=>tv σ H fun y H1=>ta σ H1 fun x H2=>∃ a dx fs,x=.ref a/\H2 a=some (.ins C dx fs)/\fs.length<1000/\D.nx σ (upd H2 a (.ins C dx (zax f y fs)))
section
variable {X:Cx} {C:Addr} {x m f:Str} {p pos pos' apos:Pos} {e o value:Expr} {es:List Expr} {ta tv:TE} {t:TA} {j k:Nat} {ps:List Str} {sp:Sp}
theorem zbn (hc:Cls X.K C) (hn:zY X.K C f) (he:PE X e ta) (hb:attributeBase e f X.env (eval e X.env)=eval e X.env:=by rfl):PE X (.Attribute e f pos) (zs6 C f ta):=by
 intro pins s σ H Q I h
 refine zn2 hb (thn (he pins s σ H _ I h) fun u s1 ⟨x,H1,I1,rx,a,dx,fs,v,ex,ea,l,q⟩=>?_)
 subst ex
 obtain rfl:u=Value.ref a:=rx
 exact zjr I1 ea hc hn l fun u' s2 I2 ru=>⟨v,H1,I2,ru,q⟩
theorem zbf (hc:Cls X.K C) (hn:zY X.K C f) (ha:PE X o ta) (hv:PE X value tv) (hs:swapsWith value (some (.Attribute o f pos')) pos.line X.env=pure false:=by rfl):PS X (.Assign [.Attribute o f pos'] value pos) (zth C f ta tv):=by
 intro pins s σ H D I h
 refine plainObj_wpAny_Assign_Attribute (thn (hv pins s σ H _ I h) fun u s1 ⟨y,H1,I1,ry,q⟩=>thn (ha pins s1 σ H1 _ I1 q) fun ov s2 ⟨x,H2,I2,rx,a,dx,fs,ex,ea,l,q2⟩=>?_) hs
 subst ex
 obtain rfl:ov=Value.ref a:=rx
 exact zjp I2 ea hc hn l ry fun s3 I3=>⟨σ,_,I3,q2⟩
theorem zW {pl:Sem Bool} (D:zJ X.prog X.w X.K X.mg X.base j C m ps sp) (hc:Cls X.K C) (hr:Room k X.A) (he:PE X o ta) (hj:j<=k:=by decide)
  (ht:eval (.Call (.Attribute o m apos) [] [] pos) X.env=(do
   let ov <-eval o X.env
   standAt apos.atName
   let (f,first) <-holding [ov] (getMethod ov m pl)
   callWith pos f first (backTo pos (starEach [] X.env)) (backToKw pos (keywordEach [] X.env))):=by rfl) :
  PE X (.Call (.Attribute o m apos) [] [] pos) (zrb C m sp [] E0 ta zjV):=by
 obtain ⟨f,fd,F,hm,hb⟩:=D.ex
 exact zq0 (pl:=pl) he hc hm F (hr.mono hj) (.all hb) .nil zhW ht
theorem zbA (M:MkI X.K C) (D:zJ X.prog X.w X.K X.mg X.base j C "__init__" ps sp) (hr:Room k X.A) (hm:X.mg x=some (.ref C)) (ha:PA X (e::es) t) (hj:j+1<=k:=by decide) (hg:Gl X x:=by rfl)
  (hdb:(x == ("__debug__" : Str))=false:=by decide) (he:starEach (e::es) X.env=(false,eval e X.env)::starEach es X.env:=by rfl) (hpl:(backTo pos (starEach es X.env)).any (·.1)=false:=by rfl) :
  PE X (.Call (.Name x p) (e::es) [] pos) (zrc C sp [] E0 t):=by
 obtain ⟨f,fd,F,hme,hb⟩:=D.ex
 exact zrt ⟨M.makes,hme.at_,hme.fn,M.kp⟩ F (hr.mono hj) hg hm (.all hb) .nil zhW ha hdb he hpl
end
section
variable {K:W.Frag} {x:Str} {C f:Addr}
theorem zcF (a:PySem.W.nsIn K mainGlobals x=some (some (.ref C))) (h1:PySem.W.makesIn K C=true) (h3:PySem.W.keepIn K (.ref C)=true):MkI K (cA K x):=by
 rw[zcL a];exact ⟨h1,h3⟩
end
theorem zk {H:Hp} {p:Addr} (o:HO) (_h:H p=none):(upd H p o) p=some o:=zg
section
variable {H H':Hp} {xs ys zs:List V} {l r:List (Dbt.Wd × Int)} {p:Addr} {d:Dbt.Wd × Int}
end
structure zqJ (K:W.Frag) (C:Addr):Prop where
 ha:PySem.W.findIn K (.ref C) "__class__" = some (some (.builtin "object.__class__"))
 hn:PySem.W.specialIn K (.builtin "object.__class__") "__get__" = some (some (.builtin "getset_descriptor.__get__"))
 htk:PySem.W.takesIn K (.builtin "object.__class__")=some true
 hm:PySem.W.mroIn K C (.type "object")=some true
theorem zib {K:W.Frag} {x:Str} {C:Addr} (a:PySem.W.nsIn K mainGlobals x=some (some (.ref C))) (h1:PySem.W.findIn K (.ref C) "__class__" = some (some (.builtin "object.__class__")))
  (h2:PySem.W.specialIn K (.builtin "object.__class__") "__get__" = some (some (.builtin "getset_descriptor.__get__"))) (h3:PySem.W.takesIn K (.builtin "object.__class__")=some true) (h4:PySem.W.mroIn K C (.type "object")=some true):zqJ K (cA K x):=by
 rw[zcL a];exact ⟨h1,h2,h3,h4⟩
theorem zpw {X:Cx}:zbc X (.builtin "isinstance") (fun xs H Q=>∃ x t D b,xs=[x,.ref D]/\zbU X.K H x t/\PySem.W.kitOne X.K t (.ref D)=some b/\Q (.bl b) H):=by
 intro pins s σ H xs us Q I r h
 obtain ⟨x,t,D,b,rfl,ty,e,q⟩:=h
 obtain ⟨u,w',rfl,rx,rn⟩:=vals2 r
 cases rn
 exact zkw I rx ty e fun tk=>⟨.bl b,H,I.tok tk,rfl,q⟩
theorem ztK {s:Str} {A B:Prop} (h:A):if decide (V.str s=V.str s)=true then A else B:=by rw[if_pos (by simp)];exact h
theorem ztz {s t:Str} {A B:Prop} (ne:s≠t) (h:B):if decide (V.str s=V.str t)=true then A else B:=by rw[if_neg (by simpa using ne)];exact h
structure zlr (K:W.Frag) (C:Addr) (m qual:Str) (st:Stmt) (ps:List Str):Prop where
 ex:∃ (f:Addr) (fd:FuncData),Fun K m qual st f fd/\(PySem.W.specialIn K (.ref C) "__getattribute__" = some (some (.builtin "type.__getattribute__"))/\PySem.W.readsIn K C (.type "type")=true /\
  PySem.W.findCls K (.ref C) (.type "type") m=some (.val (.ref f))/\PySem.W.handedIn (.ref f)=true)/\∀ us:List Value,us.length=ps.length->bindArgs fd ⟨us,[]⟩=pure (ps.zip us)
structure zjE (P:Program) (w:World) (K:W.Frag) (mg:Str->Option Value) (base:Heap) (k:Nat) (C:Addr) (m:Str) (ps:List Str) (sp:Sp):Prop where
 ex:∃ (f:Addr) (fd:FuncData),zcc P w K mg base CX0 k f fd ps sp/\(PySem.W.specialIn K (.ref C) "__getattribute__" = some (some (.builtin "type.__getattribute__"))/\PySem.W.readsIn K C (.type "type")=true /\
  PySem.W.findCls K (.ref C) (.type "type") m=some (.val (.ref f))/\PySem.W.handedIn (.ref f)=true)/\PySem.W.keepIn K (.ref f)=true/\∀ us:List Value,us.length=ps.length->bindArgs fd ⟨us,[]⟩=pure (ps.zip us)
theorem zlr.ok {P:Program} {w:World} {K:W.Frag} {mg:Str->Option Value} {base:Heap} {C:Addr} {m qual:Str} {st:Stmt} {N ps:List Str} {k:Nat} {sp:Sp} (S:zlr K C m qual st ps) (sc:zo N ps (zj st)) (len:∀ vs H Q E,sp vs H Q E->vs.length=ps.length)
  (hbody:∀ (f:Addr) (cdv:Value) (A:Around) (outer:List Env) (s:Shared) (H:Hp) (vs:List V) (Q:VK) (E:XK),Room k (A.deeper (envOfC qual (zj st) s.heap.objs.size f cdv))->sp vs H Q E ->
   ∃ t,PSs (zfF CX0 P w K mg base N qual (zj st) f cdv A outer s H E).nox (zaF st) t/\t { nx:=fun _ H'=>Q .non H',rt:=Q } (start N vs) H):zjE P w K mg base (k+1) C m ps sp:=by
 obtain ⟨f,fd,F,hm,hb⟩:=S.ex
 exact ⟨f,fd,F.ok sc len (fun cdv=>hbody f cdv),hm,F.kp,hb⟩
section
variable {X:Cx} {C:Addr} {x m:Str} {p pos apos:Pos} {e o:Expr} {es:List Expr} {t:TA} {j k:Nat} {ps:List Str} {sp:Sp}
theorem zlN {pl:Sem Bool} (D:zjE X.prog X.w X.K X.mg X.base j C m ps sp) (he:PE X o (tC (.ref C))) (hr:Room k X.A) (ha:PA X (e::es) t) (hj:j<=k:=by decide)
  (hst:starEach (e::es) X.env=(false,eval e X.env)::starEach es X.env:=by rfl) (hpl:(backTo pos (starEach es X.env)).any (·.1)=false:=by rfl)
  (ht:eval (.Call (.Attribute o m apos) (e::es) [] pos) X.env=(do
   let ov <-eval o X.env
   standAt apos.atName
   let (f,first) <-holding [ov] (getMethod ov m pl)
   callWith pos f first (backTo pos (starEach (e::es) X.env)) (backToKw pos (keywordEach [] X.env))):=by rfl) :
  PE X (.Call (.Attribute o m apos) (e::es) [] pos) (zow sp [] E0 t):=by
 intro pins s σ H Q I h
 obtain ⟨f,fd,F,⟨h1,h2,h3,h4⟩,kp,hb⟩:=D.ex
 refine PySem.W.methodCall_KW (pl:=pl) (thn (he pins s σ H (fun v H1=>v=.ref C/\H1=H) I ⟨rfl,rfl⟩) fun u s1 ⟨y,H1,I1,ry,e1,e2⟩=>?_) ht
 subst e1 e2
 obtain rfl:u=Value.ref C:=ry
 refine PySem.W.method_cls I1.kIn h1 (PySem.W.cls_value I1.kIn h2 h3 h4 ?_)
 have I2:=I1.tok (s1.toks+1)
 refine PySem.W.callWith_K (first:=[]) (h₀:=X.base) I.ok.mod.kin kp (thn (ha pos pins _ σ _ _ I2 h) fun us s2 ⟨vs,H2,I3,r,q2⟩=>⟨I3.kIn,?_⟩) hst hpl
 exact zhi (us:=us) (vs:=vs) (dvs:=[]) (ds:=[]) F (hr.mono hj) (.all hb) .nil zhW I3 r q2
end
theorem zgY:∀ {bs:List Bool} {us:List Value},Vals (bs.map V.bl) us->LSm.BoolsAre us bs
 | [],_,.nil=>.nil
 | b::bs,_,.cons r rs=>by
  cases r
  exact .cons b (zgY rs)
theorem zpN {X:Cx} (hc:X.calm=true):zbc X (.builtin "all") (fun xs H Q=>∃ (p:Addr) (bs:List Bool),xs=[.ref p]/\SqL X.K H p (bs.map V.bl)/\Q (.bl (bs.all id)) H):=by
 intro pins s σ H xs us Q I r h
 obtain ⟨p,bs,rfl,hq,q⟩:=h
 obtain ⟨u,rfl,rx⟩:=vals1 r
 cases rx
 obtain ⟨vs,rv,pl,hz⟩:=I.list hq
 have hb:=zgY rv
 have hl:=pl.isList
 have hlt:p<s.heap.objs.size:=by obtain ⟨_,e,_⟩:=hl;exact ydq e
 refine PySem.call_all_walk (wpAny_pyIter_list hl ?_)
 refine ⟨s.heap.objs.size,[s.heap.objs.size,p],[s.heap.objs.size],vs.toArray.size,_,_,fun i=>(bs[i]?).getD true,rfl,Walks.list (A:=X.A.in1) (I.ok.hd hc) _ p (yda hlt) vs.toArray,
  ⟨⟨_,ydr _ rfl,rfl,rfl⟩,hl.push _⟩,fun i v s' Q' E' hP hQ=>?_,fun h' tk hk=>?_⟩
 ·obtain ⟨b,e,rfl⟩:=hb.get i v (by simpa using hP)
  simp only[e,Option.getD_some] at hQ
  exact wpAny_truthy_bool hQ
 ·have e:((yas vs.toArray.size).all fun i=>(bs[i]?).getD true)=bs.all id:=by
   rw[<-LSm.range_all,yao,hb.length]
  rw[e]
  exact ⟨.bl _,H,I.kept (LSm.kept_iter hk),rfl,q⟩
inductive Ek where
 | out | fee | pay | due | turn | rate | late | still | base
noncomputable def Ek.cls:Ek->Str
 | .out => "Out"
 | .fee => "Fee"
 | .pay => "Pay"
 | .due => "Due"
 | .turn => "Turn"
 | .rate => "Rate"
 | .late => "Late"
 | .still => "Still"
 | .base => "Entry"
noncomputable def Ek.word:Ek->Str
 | .out => "out"
 | .fee => "fee"
 | .pay => "pay"
 | .due => "due"
 | .turn => "turn"
 | .rate => "rate"
 | .late => "late"
 | .still => "still"
 | .base => ""
noncomputable def zj7:Ek->Int->Int->List (Str × V)
 | .turn,d,_=>[("day", .int d)]
 | .base,d,_=>[("day", .int d)]
 | .rate,d,x=>[("day", .int d),("rate", .int x)]
 | .late,d,x=>[("day", .int d),("rate", .int x)]
 | .still,d,x=>[("day", .int d),("until", .int x)]
 | .out,d,x=>[("day", .int d),("amount", .int x)]
 | .fee,d,x=>[("day", .int d),("amount", .int x)]
 | .pay,d,x=>[("day", .int d),("amount", .int x)]
 | .due,d,x=>[("day", .int d),("amount", .int x)]
noncomputable def ztW:Ek->Int->Int->List V
 | .turn,d,_=>[.str "turn", .int d]
 | .base,d,_=>[.str "", .int d]
 | k,d,x=>[.str k.word,.int d,.int x]
abbrev zh3 (K:W.Frag) (H:Hp) (a dx:Addr) (k:Ek) (d x:Int):Prop:=H a=some (.ins (cA K k.cls) dx (zj7 k d x))
theorem zeD (k:Ek) (d x:Int):ycd ("day" : Str) (zj7 k d x)=some (V.int d):=by cases k <;> rfl
theorem zfq (k:Ek) (d x:Int):ycd ("word" : Str) (zj7 k d x)=none:=by cases k <;> rfl
def zpW (K:W.Frag) (m:Str) (sp:Ek->Sp) (ta:TE) (t:TA):TE:=fun σ H Q=>ta σ H fun x H1=>∃ (k:Ek) (a dx:Addr) (fs:List (Str × V)),x=.ref a/\H1 a=some (.ins (cA K k.cls) dx fs)/\fs.lookup m=none/\t σ H1 fun vs H2=>sp k (x::vs) H2 Q E0
section
variable {X:Cx} {C:Addr} {x m:Str} {p pos apos:Pos} {e o:Expr} {es:List Expr} {ta:TE} {t:TA} {j k:Nat} {ps:List Str}
theorem zo6 {pl:Sem Bool} {sp:Ek->Sp} (D:∀ k:Ek,zJ X.prog X.w X.K X.mg X.base j (cA X.K k.cls) m ps (sp k)) (hc:∀ k:Ek,Cls X.K (cA X.K k.cls)) (hr:Room k X.A) (he:PE X o ta) (hj:j<=k:=by decide)
  (ht:eval (.Call (.Attribute o m apos) [] [] pos) X.env=(do
   let ov <-eval o X.env
   standAt apos.atName
   let (f,first) <-holding [ov] (getMethod ov m pl)
   callWith pos f first (backTo pos (starEach [] X.env)) (backToKw pos (keywordEach [] X.env))):=by rfl) :
  PE X (.Call (.Attribute o m apos) [] [] pos) (zpW X.K m sp ta zjV):=by
 intro pins s σ H Q I h
 refine PySem.W.methodCall_KW (pl:=pl) (thn (he pins s σ H _ I h) fun u s1 ⟨x,H1,I1,rx,kd,a,dx,fs,ex,ea,l,q⟩=>?_) ht
 subst ex
 obtain rfl:u=Value.ref a:=rx
 obtain ⟨f,fd,F,hm,hb⟩:=(D kd).ex
 refine zgF I1 ea (hc kd) hm l ?_
 exact PySem.W.callWith_K0 (first:=[.ref a]) I1.kIn hm.kp (zhi (us:=[.ref a]) (vs:=[.ref a]) (dvs:=[]) (ds:=[]) F (hr.mono hj) (.all hb) .nil zhW I1 (.cons rfl .nil) q)
end
section
variable {K:W.Frag} {x:Str} {C f:Addr}
theorem zsa {m qual:Str} {st:Stmt} {ps:List Str} {oc:Value} {od an:Option Addr} {osl:Array (Option Value)} {kV doc pm cdv ct:Value} (a:PySem.W.nsIn K mainGlobals x=some (some (.ref C))) (h1:PySem.W.specialIn K (.ref C) "__getattribute__" = some (some (.builtin "type.__getattribute__")))
  (h2:PySem.W.readsIn K C (.type "type")=true) (h3:PySem.W.findCls K (.ref C) (.type "type") m=some (.val (.ref f))) (h4:PySem.W.handedIn (.ref f)=true)
  (fk:PySem.W.keepIn K (.ref f)=true) (fl:K.lookup f=some ⟨oc,od,.func (PySem.W.fnOf m qual (zb6 st) (zaF st) (zj st) .none kV doc pm an cdv ct),osl⟩) (fc:PySem.W.codeIn K cdv qual=true)
  (hb:∀ us:List Value,us.length=ps.length->bindArgs (PySem.W.fnOf m qual (zb6 st) (zaF st) (zj st) .none kV doc pm an cdv ct) ⟨us,[]⟩=pure (ps.zip us)):zlr K (cA K x) m qual st ps:=by
 rw[zcL a];exact ⟨f,_,zlS fl fc fk,⟨h1,h2,h3,h4⟩,hb⟩
end
section
variable {X:Cx}
end
end L2
namespace L2
open PySem
end L2
namespace L2
noncomputable def eqK:Kd->Kd->Bool
 | .plain,.plain=>true
 | .bank,.bank=>true
 | .thirty,.thirty=>true
 | .exact,.exact=>true
 | _,_=>false
noncomputable def zsM (k:Kd):Kd->Bool
 | .plain=>true
 | .bank=>eqK k .bank
 | .thirty=>eqK k .thirty
 | .exact=>eqK k .exact
end L2
namespace L2
open PySem PySem.Spec PyProof.Rows
section
variable {M:Model} {A:Around} {E:Value->Shared->Prop} {s:Shared} {B:Heap} {v:Env} {out:List Env} {L e d:Addr} {Q:Unit->Shared->Prop}
end
section
variable {X:Cx} {pins:List (Addr × Obj)} {σ:St} {H:Hp} {s:Shared} {e:Addr} {φ:Heap->Prop}
end
section
variable {P:Program} {w:World} {K:W.Frag} {mg:Str->Option Value} {base:Heap} {N:List Str} {qual:Str} {scope:Scope} {f:Addr} {cd:Value} {A:Around} {outer:List Env} {s₀:Shared} {H₀:Hp} {E:XK}
end
section
variable {M:Model} {A:Around} {E:Value->Shared->Prop} {env:Env} {nm q:Str} {C N:Addr} {bs bm:List Value} {hdct:Bool} {sn:List Str} {sub:List Value} {ab:Bool} {col:Option Bool} {dd:Option Addr} {k0 k1 k2 k3 k5:Option Value} {newId:String}
end
section
variable {X:Cx} {x:Str} {np pos:Pos} {e0:Expr} {t:TA} {C f:Addr} {fd:FuncData} {ps:List Str} {name:Str} {j k:Nat}
end
section
variable {X:Cx} {x:Str} {np cpos pos:Pos} {e0:Expr} {t:TA} {name:Str} {j k:Nat} {E:XK}
end
section
variable {X:Cx} {o value:Expr} {name:Str} {pos pos':Pos} {ta tv:TE} {C:Addr}
end
inductive LL {α:Type} (R:V->α->Prop):List V->List α->Prop
 | nil:LL R [] []
 | cons {v:V} {e:α} {vs:List V} {es:List α}:R v e->LL R vs es->LL R (v::vs) (e::es)
section
variable {α:Type} {R S:V->α->Prop} {vs ws:List V} {es fs:List α}
theorem LL.length (h:LL R vs es):vs.length=es.length:=by
 induction h with
 | nil=>rfl
 | cons _ _ ih=>simp[ih]
theorem LL.imp (f:∀ v e,R v e->S v e) (h:LL R vs es):LL S vs es:=by
 induction h with
 | nil=>exact .nil
 | cons h _ ih=>exact .cons (f _ _ h) ih
theorem LL.append (h:LL R vs es) (k:LL R ws fs):LL R (vs++ws) (es++fs):=by
 induction h with
 | nil=>exact k
 | cons h _ ih=>exact .cons h ih
theorem LL.push {v:V} {e:α} (h:LL R vs es) (k:R v e):LL R (vs++[v]) (es++[e]):=h.append (.cons k .nil)
theorem LL.take (h:LL R vs es):∀ n,LL R (vs.take n) (es.take n):=by
 induction h with
 | nil=>intro n;simp;exact .nil
 | cons h _ ih =>
  intro n
  cases n with
  | zero=>exact .nil
  | succ n=>exact .cons h (ih n)
theorem LL.get (h:LL R vs es):∀ {i:Nat} {v:V},vs[i]?=some v->∃ e,es[i]?=some e/\R v e:=by
 induction h with
 | nil=>intro i v e;simp at e
 | cons h _ ih =>
  intro i v e
  cases i with
  | zero=>cases e;exact ⟨_,rfl,h⟩
  | succ i=>exact ih e
theorem LL.eqm {g:α->V} (h:LL (fun v e=>v=g e) vs es):vs=es.map g:=by
 induction h with
 | nil=>rfl
 | cons h _ ih=>rw[h,ih];rfl
end
theorem zbw {α:Type} {J:It} {ix:List Nat} {tt:TT} {te:TE} {σ:St} {l:Addr} {xs:List V} {H:Hp} {R:Hp->Prop} (Y:zhh J H xs) (hl:H l=none) (hz:xs.length<=sizeLine) (es:List α) (len:es.length=xs.length)
  (f:α->Bool) (P:Hp->V->α->Prop) (mono:∀ v e H1 H2,Same H1 H2->P H1 v e->P H2 v e) (put:∀ v e H1 ys zs,H1 l=some (.lst ys)->P H1 v e->P (upd H1 l (.lst zs)) v e)
  (ht:∀ (i:Nat) x e H' Q',xs[i]?=some x->es[i]?=some e->Same H H'->Q' (f e) H'->tt (some x::capts σ ix) H' Q')
  (he:∀ (i:Nat) x e H' Q',xs[i]?=some x->es[i]?=some e->f e=true->Same H H'->(∀ v H2,Same H' H2->P H2 v e->Q' v H2)->te (some x::capts σ ix) H' Q')
  (fin:∀ ys H',Same H H'->H' l=some (.lst ys)->LL (P H') ys (es.filter f)->R H') :
  ∃ W:Nat->Nat->List V->Hp->Prop,(∃ m,W 0 m [] (upd H l (.lst [])))/\zf5 ix tt te σ J l R W:=by
 refine ⟨fun i m ys H'=>m=xs.length-i/\i<=xs.length/\LL (P H') ys ((es.take i).filter f)/\Same H H'/\H' l=some (.lst ys),⟨xs.length,by simp,ydc _,by simp;exact .nil,zc hl _,zg⟩,?_⟩
 rintro i m ys H' ⟨rfl,hi,hy,sH,hL⟩
 refine ⟨hL,?_⟩
 by_cases hlt:i<xs.length
 ·have yl:ys.length<=i:=by
   rw[hy.length]
   exact yde (yaw _ _) (by rw[yau];ac_rfl)
  have eP:es[i]?=some (es[i]'(by ac_rfl)):=yaa (by ac_rfl)
  generalize es[i]'(by ac_rfl)=e at eP
  have tk:es.take (i+1)=es.take i++[e]:=by rw[ycf,eP];rfl
  refine .inr ⟨Y.go i H' sH hlt,by ac_rfl,fun x H2 y=>?_⟩
  obtain ⟨rfl,e2⟩:=Y.yld i H' x H2 sH y
  refine ht i x e _ _ e2 eP sH ?_
  cases b:f e with
  | true =>
   rw[if_pos rfl]
   refine he i x e _ _ e2 eP b sH fun v H3 s3 pv=>?_
   have hL3:=s3 _ _ hL
   refine ⟨hL3,xs.length-(i+1),by ac_rfl,rfl,hlt,?_,zab (sH.trans s3) hl,zg⟩
   rw[tk,ybj,ybc b]
   exact ((hy.imp fun v e q=>put v e H3 ys _ hL3 (mono v e _ _ s3 q)).push (put v e H3 ys _ hL3 pv))
  | false =>
   rw[if_neg Bool.false_ne_true]
   refine ⟨xs.length-(i+1),by ac_rfl,rfl,hlt,?_,sH,hL⟩
   rw[tk,ybj,ybd (by rw[b];decide)]
   simpa using hy
 ·rw[ybf (by ac_rfl)] at hy
  exact .inl ⟨Y.stop i H' sH (by ac_rfl),fin ys H' sH hL hy⟩
theorem isI {P:Program} {w:World} {k:Int} {t:Tok}:(intKind P w).is k (.int k t)=true:=by first | (simp[intKind,Value.isInt];done) | exact beq_self_eq_true _
noncomputable def lkI (l:List (Int × Int)) (k:Int):Option Int:=(l.find? fun p=>p.1=k).map (·.2)
theorem KR.look {r:List (Int × Value)} {l:List (Int × Int)} {k:Int} {v:V} {u:Value} (rv:RelV v u) (h:KR r l):RelV (((lkI l k).map V.int).getD v) ((valueAt r k).getD u):=by
 induction h with
 | nil=>exact rv
 | @cons k' y t r l _ ih =>
  unfold lkI PySem.valueAt at *
  by_cases e:k'=k
  ·rw[List.find?_cons_of_pos (by simpa using e),List.find?_cons_of_pos (by simpa using e)]
   exact ⟨t,rfl⟩
  ·rw[List.find?_cons_of_neg (by simpa using e),List.find?_cons_of_neg (by simpa using e)]
   exact ih
section
variable {X:Cx} {pins:List (Addr × Obj)} {σ:St} {H:Hp} {s:Shared} {o i e f value:Expr} {pos pos' apos cpos:Pos} {td ty tx tv:TE}
theorem zmO {P:Program} {w:World} {H:Hp} {h:Heap} {d:Addr} {kvs:List (Int × Value)} {l:List (Int × Int)} (lo:(d == sysModules)=false) (hd:h.DictOf (intKind P w) d kvs) (hk:KR kvs l):zai P w H h d (zbz P w d l) :=
 ⟨⟨lo,kvs,hd,hk⟩,(let ⟨o,_,_,e,_⟩:=hd;⟨o,e⟩),fun h1 h2 ⟨lo',kv,x,y⟩ e=>⟨lo',kv,zbK x e,y⟩⟩
def zsN (P:Program) (w:World):TE:=fun _ H Q=>∀ p,H p=none->Q (.ref p) (upd H p (zbz P w p []))
theorem zqC:PE X (.Dict [] [] pos) (zsN X.prog X.w):=fun pins s σ H Q I h=>by
 have big:sysModules<s.heap.objs.size:=ydl (by decide) (show mainGlobals<s.heap.objs.size from (I.mod.glob.keeps I.bk).lt)
 have new:zai X.prog X.w (upd H s.heap.objs.size (zbz X.prog X.w s.heap.objs.size [])) (s.heap.push { cls:=.type "dict", data:=.dict #[] }) s.heap.objs.size (zbz X.prog X.w s.heap.objs.size []) :=
  zmO (beq_eq_false_iff_ne.mpr (Ne.symm (yda big))) (Heap.DictOf.new s.heap) .nil
 exact wpAny_Dict_empty ⟨.ref s.heap.objs.size,_,I.laid (t':=s.toks) (fun _ _ q=>ydp _ q) (ycz _) new,rfl,h _ (I.hok.fresh (ycz _))⟩
def ztn (P:Program) (w:World) (td ty tx:TE):TE:=fun σ H Q=>td σ H fun x H1=>∃ (d:Addr) (l:List (Int × Int)),x=.ref d/\H1 d=some (zbz P w d l)/\ty σ H1 fun y H2=>tx σ H2 fun z H3=>∃ (k:Int),y=.int k/\H3 d=some (zbz P w d l)/\Q (((lkI l k).map V.int).getD z) H3
theorem zrW (ho:PE X o td) (he:PE X e ty) (hf:PE X f tx) (hb:attributeBase o "get" X.env (eval o X.env)=eval o X.env:=by rfl)
  (few:((backTo cpos (starEach [e,f] X.env)).all (fun x=>!x.1) && (backToKw cpos (keywordEach [] X.env)).all (fun x=>x.1.isSome)
   && decide (([e,f]:List Expr).length+([]:List Keyword).length+(if ([]:List Keyword).isEmpty then 0 else 1)<30))=true:=by rfl)
  (line:(apos.endLine == cpos.line)=true:=by rfl) (trees:backTo cpos (starEach [e,f] X.env)=[(false,eval e X.env),(false,eval f X.env)]:=by rfl):PE X (.Call (.Attribute o "get" apos) [e,f] [] cpos) (ztn X.prog X.w td ty tx):=by
 intro pins s σ H Q I h
 refine wpAny_Call_method hb few line PySem.F.plainAttrs_dict PySem.F.slot_dict_get PySem.F.type_dict_get (thn (ho pins s σ H _ I h) fun u s1 ⟨x,H1,I1,rx,d,l,ex,hd,q1⟩=>?_)
 subst ex
 obtain rfl:u=Value.ref d:=rx
 obtain ⟨lo,kvs,hD,hk⟩:=(I1.hok d _ hd).1
 refine ⟨hD.typeIs,hD.mapOf.noDict,?_⟩
 rw[trees]
 refine Calls.callWith_builtin rfl (Calls.evalArgs_plain (Calls.spliced_cons (thn (he pins s1 σ H1 _ I1 q1) fun iv s2 ⟨y,H2,I2,ry,q2⟩ =>
  Calls.spliced_cons (thn (hf pins s2 σ H2 _ I2 q2) fun fv s3 ⟨z,H3,I3,rz,k,ek,hd3,q3⟩=>Calls.spliced_nil ?_))))
 subst ek
 obtain ⟨t,rfl⟩:=ry
 obtain ⟨lo3,kvs3,hD3,hk3⟩:=(I3.hok d _ hd3).1
 exact call_meetsIn PySem.F.slot_dict_get hD3.typeIs PySem.F.entry_dict_get (PySem.F.args_dict_get_3 _ _ _) (meets_dict_get_default (intKind X.prog X.w) d isI lo3 fv) ⟨_,hD3.mapOf,_,H3,I3.tok _,hk3.look rz,q3⟩
def ztc (P:Program) (w:World) (td ty tv:TE):TS:=fun D σ H=>tv σ H fun v H1=>td σ H1 fun x H2=>ty σ H2 fun y H3=>∃ (d:Addr) (l:List (Int × Int)) (k n:Int),x=.ref d/\y=.int k/\v=.int n/\H3 d=some (zbz P w d l)/\l.length<=1000/\D.nx σ (upd H3 d (zbz P w d (zap l k n)))
theorem zrU (ho:PE X o td) (hi:PE X i ty) (hv:PE X value tv) (hs:swapsWith value (some (.Subscript o i pos')) pos.line X.env=pure false:=by rfl):PS X (.Assign [.Subscript o i pos'] value pos) (ztc X.prog X.w td ty tv):=by
 intro pins s σ H D I h
 refine wpAny_Assign_Subscript (thn (hv pins s σ H _ I h) fun r s1 ⟨v,H1,I1,rv,q1⟩=>thn (ho pins s1 σ H1 _ I1 q1) fun u s2 ⟨x,H2,I2,rx,q2⟩=>thn (hi pins s2 σ H2 _ I2 q2) fun iv s3 ⟨y,H3,I3,ry,d,l,k,n,ex,ey,ev,hd,hl,q3⟩=>?_) hs
 subst ex ey ev
 obtain rfl:u=Value.ref d:=rx
 obtain ⟨t,rfl⟩:=ry
 obtain ⟨t',rfl⟩:=rv
 obtain ⟨lo,kvs,hD,hk⟩:=(I3.hok d _ hd).1
 have sz:=sizeLine_eq
 refine wpAny_setItem_pairs (knd:=intKind X.prog X.w) (k:=k) (hsz:=by rw[hk.length];ac_rfl) isI hD fun h' hD' hs'=>?_
 have he:∃ q,h'.get? d=some q:=let ⟨q,_,_,hq,_⟩:=hD';⟨q,hq⟩
 exact ⟨σ,_,I3.write (x:=d) (e:=d) (by rw[hd];exact True.intro) (.inl rfl) (fun b q hb z=>(hs'.2 b hb).trans z) he (zmO lo hD' hk.stored),q3⟩
end
section
variable {X:Cx} {m f:Str} {pos apos:Pos} {o e:Expr} {ta:TE} {j k:Nat} {ps:List Str}
theorem zb8 (K:W.Frag) (he:PE X e ta) (hb:attributeBase e f X.env (eval e X.env)=eval e X.env) (hK:X.K=K:=by rfl):PE X (.Attribute e f pos) (zsO K ta f):=by
 subst hK
 exact zsq he hb
theorem zep (K:W.Frag) {pl:Sem Bool} {sp:Ek->Sp} (D:∀ k:Ek,zJ X.prog X.w X.K X.mg X.base j (cA X.K k.cls) m ps (sp k)) (hc:∀ k:Ek,Cls X.K (cA X.K k.cls)) (hr:Room k X.A) (he:PE X o ta) (hj:j<=k:=by decide)
  (ht:eval (.Call (.Attribute o m apos) [] [] pos) X.env=(do
   let ov <-eval o X.env
   standAt apos.atName
   let (f,first) <-holding [ov] (getMethod ov m pl)
   callWith pos f first (backTo pos (starEach [] X.env)) (backToKw pos (keywordEach [] X.env))):=by rfl) (hK:X.K=K:=by rfl) :
  PE X (.Call (.Attribute o m apos) [] [] pos) (zpW K m sp ta zjV):=by
 subst hK
 exact zo6 (pl:=pl) D hc hr he hj ht
end
section
variable {X:Cx} {pins:List (Addr × Obj)} {σ:St} {H:Hp} {s:Shared} {o i e f value:Expr} {pos pos' apos cpos:Pos} {td ty tx tv:TE}
end
section
variable {prog:Program} {w:World} {A:Around} {s:Shared} {R:Result->Shared->Prop}
end
section
variable {X:Cx} {pins:List (Addr × Obj)} {σ:St} {H:Hp} {s:Shared}
end
section
variable {X:Cx} {o e f:Expr} {apos cpos:Pos} {td ty tx:TE}
end
section
variable {X:Cx} {e k:Expr} {te:TE} {p2 pos:Pos} {lo hi:Option Expr} {tl th:TO}
end
section
variable {X:Cx} {pins:List (Addr × Obj)} {σ:St} {H:Hp} {s:Shared} {o i e f value:Expr} {pos pos' apos cpos:Pos} {td ty tx tv:TE}
end
section
variable {X:Cx}
end
section
variable {X:Cx} {pins:List (Addr × Obj)} {σ:St} {H:Hp} {s:Shared} {sc:Scope} {x y0 y1:Str} {ix:List Nat} {fp:List Addr}
end
section
variable {X:Cx} {pins:List (Addr × Obj)} {σ:St} {H:Hp} {s:Shared} {sc:Scope} {x y0 y1:Str} {ix:List Nat} {fp:List Addr} {elt iter c:Expr} {te:TE} {tt:TT} {wi:TI} {px py0 py1 pt0 pos:Pos} {kt0:Nat}
end
section
variable {prog:Program} {w:World} {A:Around} {E:Value->Shared->Prop} {s:Shared}
end
end L2
namespace Sby
open L2
noncomputable abbrev Pl:=List (Int × Int)
noncomputable def sm (l:Pl) (k:Int):Int:=((l.filter fun p=>p.1=k).map (·.2)).sum
theorem zjK (l:Pl) (k x j:Int):sm (l++[(k,x)]) j=sm l j+if k=j then x else 0:=by
 unfold sm
 rw[ybj,yat,List.sum_append]
 by_cases e:k=j
 ·rw[if_pos e,ybc (by simpa using e)];simp
 ·rw[if_neg e,ybd (by simpa using e)];simp
theorem zrJ {l:Pl} {k:Int} (h:k ∉ l.map (·.1)):sm l k=0:=by
 unfold sm
 rw[ych.mpr]
 ·rfl
 ·intro p hp e
  exact h (yag.mpr ⟨p,hp,by simpa using e⟩)
structure Tot (acc l:Pl):Prop where
 nd:(acc.map (·.1)).Nodup
 mem:∀ k,k∈acc.map (·.1)↔k∈l.map (·.1)
 val:∀ p∈acc,p.2=sm l p.1
theorem Tot.nil:Tot [] []:=⟨.nil,fun k=>Iff.rfl,fun p hp=>by cases hp⟩
theorem Tot.look {acc l:Pl} (T:Tot acc l) (k:Int):((lkI acc k).map V.int).getD (.int 0)=.int (sm l k):=by
 unfold lkI
 cases e:acc.find? (fun p=>p.1=k) with
 | none =>
  have:k ∉ acc.map (·.1):=fun hm=>by
   obtain ⟨p,hp,ep⟩:=yag.mp hm
   have:=List.find?_eq_none.mp e p hp
   exact this (by simpa using ep)
  rw[zrJ (fun z=>this ((T.mem k).mpr z))]
  rfl
 | some p =>
  have hp:=List.mem_of_find?_eq_some e
  have ep:p.1=k:=by simpa using List.find?_some e
  have:=T.val p hp
  rw[ep] at this
  rw[<-this]
  rfl
theorem Tot.step {acc l:Pl} (T:Tot acc l) (k x:Int):Tot (zap acc k (sm l k+x)) (l++[(k,x)]):=by
 have keys:∀ y:Int,(acc.map (fun p=>if p.1=k then (p.1,y) else p)).map (·.1)=acc.map (·.1):=fun y=>by
  rw[ybn]
  apply ybz
  intro p _
  show (if p.1=k then (p.1,y) else p).1=p.1
  split <;> rfl
 have lk:∀ j,j∈(l++[(k,x)]).map (·.1)↔j∈l.map (·.1)\/j=k:=fun j=>by simp[eq_comm]
 unfold zap
 split
 ·rename_i ha
  have hk:k∈acc.map (·.1):=by
   obtain ⟨p,hp,e⟩:=ybv.mp ha
   exact yag.mpr ⟨p,hp,by simpa using e⟩
  refine ⟨by rw[keys];exact T.nd,fun j=>?_,fun p hp=>?_⟩
  ·rw[keys,lk,T.mem]
   refine ⟨.inl,fun h=>h.elim id fun e=>?_⟩
   rw[e];exact (T.mem k).mp hk
  ·obtain ⟨q,hq,rfl⟩:=yag.mp hp
   have v:=T.val q hq
   rw[zjK]
   by_cases e:q.1=k
   ·rw[if_pos e]
    show sm l k+x=sm l q.1+if k=q.1 then x else 0
    rw[if_pos e.symm,e]
   ·rw[if_neg e,if_neg (fun z=>e z.symm),v]
    ac_rfl
 ·rename_i ha
  have hk:k ∉ acc.map (·.1):=fun hm=>by
   obtain ⟨p,hp,e⟩:=yag.mp hm
   exact ha (ybv.mpr ⟨p,hp,by simpa using e⟩)
  refine ⟨?_,fun j=>?_,fun p hp=>?_⟩
  ·rw[yat]
   refine List.nodup_append.mpr ⟨T.nd,by simp,?_⟩
   intro a ha' b hb
   have:b=k:=by simpa using hb
   intro z
   rw[z,this] at ha'
   exact hk ha'
  ·rw[lk,yat,yam,T.mem]
   simp
  ·rw[zjK]
   rcases yam.mp hp with hp | hp
   ·have ne:k≠p.1:=fun z=>hk (by rw[z];exact yag.mpr ⟨p,hp,rfl⟩)
    rw[if_neg ne,T.val p hp]
    ac_rfl
   ·obtain rfl:p=(k,sm l k+x):=by simpa using hp
    rw[if_pos rfl]
structure Tab (r l:Pl):Prop where
 up:(r.map (·.1)).Pairwise (·<·)
 mem:∀ k,k∈r.map (·.1)↔k∈l.map (·.1)
 val:∀ p∈r,p.2=sm l p.1
theorem zrg {ns:List Int} (nd:ns.Nodup) (up:ns.Pairwise (·<=·)):ns.Pairwise (·<·):=by
 induction ns with
 | nil=>exact .nil
 | cons n ns ih =>
  obtain ⟨n1,n2⟩:=ybr.mp nd
  obtain ⟨u1,u2⟩:=ybr.mp up
  refine ybr.mpr ⟨fun a ha=>?_,ih n2 u2⟩
  have:=u1 a ha
  have:=n1 a ha
  ac_rfl
theorem zgl {ns:List Int} (up:ns.Pairwise (·<·)):ns.Nodup:=up.imp fun h=>by ac_rfl
theorem zsL {as bs:List Int} (ha:as.Pairwise (·<·)) (hb:bs.Pairwise (·<·)) (h:∀ d,d∈as↔d∈bs):as=bs:=by
 induction as generalizing bs with
 | nil =>
  cases bs with
  | nil=>rfl
  | cons b bs=>exact absurd ((h b).mpr yaj) (by simp)
 | cons a as ih =>
  cases bs with
  | nil=>exact absurd ((h a).mp yaj) (by simp)
  | cons b bs =>
   obtain ⟨a1,a2⟩:=ybr.mp ha
   obtain ⟨b1,b2⟩:=ybr.mp hb
   have e:a=b:=by
    rcases yal.mp ((h a).mp yaj) with e | e
    ·exact e
    ·rcases yal.mp ((h b).mpr yaj) with e2 | e2
     ·exact e2.symm
     ·have:=b1 a e;have:=a1 b e2;ac_rfl
   subst e
   rw[ih a2 b2 fun d=>?_]
   constructor
   ·intro hd
    rcases yal.mp ((h d).mp (yah _ hd)) with e | e
    ·have:=a1 d hd;ac_rfl
    ·exact e
   ·intro hd
    rcases yal.mp ((h d).mpr (yah _ hd)) with e | e
    ·have:=b1 d hd;ac_rfl
    ·exact e
theorem Tot.tab {acc l r:Pl} (T:Tot acc l) (P:r.Perm acc) (S:r.Pairwise fun s t=>s.1<=t.1):Tab r l:=by
 have pk:=P.map (·.1)
 refine ⟨zrg (pk.nodup_iff.mpr T.nd) (ybh.mpr S),fun k=>(pk.mem_iff).trans (T.mem k),fun p hp=>T.val p (P.mem_iff.mp hp)⟩
end Sby
namespace L2
open PySem
noncomputable abbrev Er:=Ek × Int × Int
def isW (w:Str) (e:Er):Bool:=decide (V.str e.1.word=V.str w)
noncomputable def prs (w:Str) (es:List Er):List (Int × Int):=(es.filter (isW w)).map (·.2)
noncomputable def dys (w:Str) (es:List Er):List Int:=(es.filter (isW w)).map (·.2.1)
noncomputable def EL (K:W.Frag) (H:Hp):List V->List Er->Prop:=LL fun v e=>∃ a dx,v=.ref a/\zh3 K H a dx e.1 e.2.1 e.2.2
theorem EL.same {K:W.Frag} {H H':Hp} {vs:List V} {es:List Er} (h:EL K H vs es) (s:Same H H'):EL K H' vs es:=LL.imp (fun v e ⟨a,dx,e1,e2⟩=>⟨a,dx,e1,s _ _ e2⟩) h
def AmW (w:Str):Prop:=w = "out" \/ w = "fee" \/ w = "pay" \/ w = "due"
theorem amt {w:Str} {k:Ek} {d x:Int} (hw:AmW w) (h:isW w (k,d,x)=true):ycd ("amount" : Str) (zj7 k d x)=some (V.int x)/\atI (ztW k d x) 2=some (.int x):=by
 have e:k.word=w:=V.str.inj (of_decide_eq_true h)
 subst e
 rcases hw with hw | hw | hw | hw <;> (cases k <;> first | exact ⟨rfl,rfl⟩ | (exfalso;revert hw;decide))
theorem zkd {K:W.Frag} {H:Hp} {ys:List V} {gs:List Er} (h:LL (fun v e=>∃ t,v=.ref t/\H t=some (.tup [.int e.2.1,.int e.2.2])) ys gs):zu K H ys (gs.map (·.2)):=by
 induction h with
 | nil=>exact .nil
 | cons h _ ih =>
  obtain ⟨t,rfl,ht⟩:=h
  exact .cons ht ih
structure Days (ns ds:List Int):Prop where
 up:ns.Pairwise (·<·)
 mem:∀ d,d∈ns↔d∈ds
theorem Days.of {ns ms ds:List Int} (nd:ms.Nodup) (mem:∀ d,d∈ms↔d∈ds) (pm:ns.Perm ms) (up:ns.Pairwise (·<=·)):Days ns ds:=⟨Sby.zrg (pm.nodup_iff.mpr nd) up,fun d=>pm.mem_iff.trans (mem d)⟩
theorem zn3 {es:List Er} {w:Str}:(dys w es).length<=es.length:=by
 unfold dys
 rw[yab]
 exact yaw _ _
end L2
namespace L2
open PySem
end L2
namespace L2
open PySem
end L2
namespace L2
open PySem
end L2
namespace L2
open PySem
end L2
namespace L2
open PySem
theorem LL.of {α:Type} {R:V->α->Prop}:∀ {vs:List V} {es:List α},vs.length=es.length->(∀ (j:Nat) v,vs[j]?=some v->∃ e,es[j]?=some e/\R v e)->LL R vs es
 | [],[],_,_=>.nil
 | [],_::_,h,_=>by simp at h
 | _::_,[],h,_=>by simp at h
 | v::vs,e::es,h,p=>by
  obtain ⟨e',he,hr⟩:=p 0 v rfl
  cases he
  exact .cons hr (LL.of (by simpa using h) fun j w hw=>p (j+1) w hw)
end L2
namespace Spans
noncomputable abbrev Sp:=List (Int × Int)
def Cov (l:Sp) (d:Int):Prop:=∃ s∈l,s.1<=d/\d<s.2
structure Joined (l:Sp):Prop where
 up:∀ s∈l,s.1<s.2
 apart:l.Pairwise fun s t=>s.2<t.1
theorem znM {d:Int}:¬ Cov [] d:=fun ⟨_,h,_⟩=>by cases h
theorem zqv {s:Int × Int} {l:Sp} {d:Int}:Cov (s::l) d↔(s.1<=d/\d<s.2)\/Cov l d:=by
 constructor
 ·rintro ⟨t,ht,h⟩
  rcases yal.mp ht with rfl | ht
  ·exact .inl h
  ·exact .inr ⟨t,ht,h⟩
 ·rintro (h | ⟨t,ht,h⟩)
  ·exact ⟨s,yaj,h⟩
  ·exact ⟨t,yah _ ht,h⟩
theorem zb9 {a b:Sp} {d:Int}:Cov (a++b) d↔Cov a d\/Cov b d:=by
 constructor
 ·rintro ⟨t,ht,h⟩
  rcases yam.mp ht with ht | ht
  ·exact .inl ⟨t,ht,h⟩
  ·exact .inr ⟨t,ht,h⟩
 ·rintro (⟨t,ht,h⟩ | ⟨t,ht,h⟩)
  ·exact ⟨t,ybb _ ht,h⟩
  ·exact ⟨t,yaf _ ht,h⟩
def isIn (l:Sp) (d:Int):Bool:=l.any fun s=>decide (s.1<=d) && decide (d<s.2)
theorem zbO {l:Sp} {d:Int}:isIn l d=true↔Cov l d:=by
 unfold isIn
 rw[ybv]
 constructor
 ·rintro ⟨s,hs,h⟩
  simp only[Bool.and_eq_true,decide_eq_true_eq] at h
  exact ⟨s,hs,h⟩
 ·rintro ⟨s,hs,h⟩
  exact ⟨s,hs,by simp only[Bool.and_eq_true,decide_eq_true_eq];exact h⟩
noncomputable def step (l:Sp) (st:Sp × Int) (e:Int):Sp × Int :=
 let f:=if isIn l e && !isIn l (e-1) then e else st.2
 (if isIn l e then st.1 else st.1++[(f,e)],f)
def least (l:Sp) (es:List Int):Sp:=(es.foldl (step l) ([],0)).1
end Spans
namespace Sums
noncomputable def S (f:Int->Int) (a:Int):Nat->Int
 | 0=>0
 | n+1=>S f a n+f (a+n)
noncomputable def sum (f:Int->Int) (a b:Int):Int:=S f a (b-a).toNat
theorem zsm {f:Int->Int} {a b:Int} (h:b<=a):sum f a b=0:=by
 unfold sum
 rw[show (b-a).toNat=0 by ac_rfl]
 rfl
theorem zmd (f:Int->Int) (a:Int) (n:Nat):∀ m,S f a (n+m)=S f a n+S f (a+n) m
 | 0=>by simp[S]
 | m+1=>by
  show S f a (n+m)+f (a+((n+m:Nat):Int))=S f a n+(S f (a+n) m+f (a+n+m))
  rw[zmd f a n m,show a+((n+m:Nat):Int)=a+n+m by ac_rfl]
  ac_rfl
theorem sum_add {f:Int->Int} {a b c:Int} (h1:a<=c) (h2:c<=b):sum f a b=sum f a c+sum f c b:=by
 unfold sum
 rw[show (b-a).toNat=(c-a).toNat+(b-c).toNat by ac_rfl,zmd,show a+((c-a).toNat:Int)=c by ac_rfl]
noncomputable abbrev Tab:=List (Int × Int)
def Val (t:Tab) (d v:Int):Prop:=(v=0/\∀ r∈t,d<r.1)\/∃ i:Nat,∃ b:Int,t[i]?=some (b,v)/\b<=d/\∀ (j:Nat) (r:Int × Int),t[j]?=some r->r.1<=d->r.1<b\/(r.1=b/\j<=i)
theorem Val.one {t:Tab} {d v u:Int} (a:Val t d v) (b:Val t d u):v=u:=by
 rcases a with ⟨rfl,h⟩ | ⟨i,x,e,le,h⟩
 ·rcases b with ⟨rfl,_⟩ | ⟨j,y,e',le',_⟩
  ·rfl
  ·have:=h _ (yai e')
   dsimp only at this
   ac_rfl
 ·rcases b with ⟨rfl,g⟩ | ⟨j,y,e',le',g⟩
  ·have:=g _ (yai e)
   dsimp only at this
   ac_rfl
  ·have p:=h j _ e' le'
   have q:=g i _ e le
   dsimp only at p q
   have ij:i=j:=by ac_rfl
   subst ij
   rw[e] at e'
   cases e'
   rfl
noncomputable def vstep (d:Int) (st:Int × Int) (r:Int × Int):Int × Int:=if st.1<=r.1/\r.1<=d then r else st
noncomputable def valOf (t:Tab) (d:Int):Int:=(t.foldl (vstep d) (-1,0)).2
theorem zbu {t:Tab} (h0:∀ r∈t,0<=r.1) (d:Int):Val t d (valOf t d):=by
 suffices q:∀ (pre rest:Tab) (st:Int × Int),pre++rest=t->((st=(-1,0)/\∀ r∈pre,d<r.1)\/∃ i:Nat,pre[i]?=some st/\st.1<=d/\∀ (j:Nat) (r:Int × Int),pre[j]?=some r->r.1<=d->r.1<st.1\/(r.1=st.1/\j<=i)) ->
   Val t d (rest.foldl (vstep d) st).2 from q [] t (-1,0) rfl (.inl ⟨rfl,fun r hr=>by cases hr⟩)
 intro pre rest
 induction rest generalizing pre with
 | nil =>
  intro st e h
  rw[ybi] at e
  subst e
  rcases h with ⟨rfl,h⟩ | ⟨i,e,le,h⟩
  ·exact .inl ⟨rfl,h⟩
  ·exact .inr ⟨i,st.1,e,le,h⟩
 | cons r rest ih =>
  intro st e h
  have hr:0<=r.1:=h0 r (by rw[<-e];simp)
  refine ih (pre++[r]) (vstep d st r) (by rw[ybm];exact e) ?_
  have last:∀ (j:Nat) (x:Int × Int),(pre++[r])[j]?=some x->pre[j]?=some x\/(j=pre.length/\x=r):=fun j x hx=>by
   by_cases hj:j<pre.length
   ·rw[ybl hj] at hx
    exact .inl hx
   ·by_cases hj2:j=pre.length
    ·subst hj2
     rw[ybk (ycz _),ydn] at hx
     exact .inr ⟨rfl,(by cases hx;rfl)⟩
    ·rw[yap (by rw[yad,ybo];ac_rfl)] at hx
     cases hx
  unfold vstep
  by_cases c:st.1<=r.1/\r.1<=d
  ·rw[if_pos c]
   refine .inr ⟨pre.length,by rw[ybk (ycz _),ydn];rfl,c.2,fun j x hx hd=>?_⟩
   rcases last j x hx with hx | ⟨rfl,rfl⟩
   ·have hj:j<pre.length:=(yac.mp hx).1
    rcases h with ⟨_,h⟩ | ⟨i,_,_,h⟩
    ·have:=h x (yai hx)
     ac_rfl
    ·rcases h j x hx hd with z | z
     ·exact .inl (by ac_rfl)
     ·by_cases w:x.1=r.1
      ·exact .inr ⟨w,by ac_rfl⟩
      ·exact .inl (by ac_rfl)
   ·exact .inr ⟨rfl,ycz _⟩
  ·rw[if_neg c]
   rcases h with ⟨rfl,h⟩ | ⟨i,ei,le,h⟩
   ·refine .inl ⟨rfl,fun x hx=>?_⟩
    rcases yam.mp hx with hx | hx
    ·exact h x hx
    ·have:x=r:=by simpa using hx
     rw[this]
     exact Int.not_le.mp fun q=>c ⟨by show (-1:Int)<=r.1;ac_rfl,q⟩
   ·refine .inr ⟨i,?_,le,fun j x hx hd=>?_⟩
    ·rw[ybl (yac.mp ei).1];exact ei
    ·rcases last j x hx with hx | ⟨rfl,rfl⟩
     ·exact h j x hx hd
     ·exact .inl (Int.not_le.mp fun q=>c ⟨q,hd⟩)
end Sums
namespace Stills
open Spans Sums
structure Begun (r:Sp) (day:Int) (n:Nat):Prop where
 le:n<=r.length
 lo:∀ i s,i<n->r[i]?=some s->s.1<=day
 hi:∀ i s,n<=i->r[i]?=some s->day<s.1
structure Free (r:Sp) (day m:Int):Prop where
 from_:day<=m
 out:¬ Cov r m
 all:∀ d,day<=d->d<m->Cov r d
theorem Free.one {r:Sp} {day m n:Int} (a:Free r day m) (b:Free r day n):m=n:=by
 rcases Int.lt_trichotomy m n with h | h | h
 ·exact absurd (b.all m a.from_ h) a.out
 ·exact h
 ·exact absurd (a.all n b.from_ h) b.out
theorem Free.cov {r l:Sp} {day m:Int} (a:Free r day m) (h:∀ d,Cov r d↔Cov l d):Free l day m:=⟨a.from_,fun z=>a.out ((h _).mpr z),fun d h1 h2=>(h d).mp (a.all d h1 h2)⟩
theorem Free.here {r:Sp} {day:Int} (h:¬ Cov r day):Free r day day:=⟨ydx _,h,fun d h1 h2=>by ac_rfl⟩
theorem Free.gt {r:Sp} {day m:Int} (a:Free r day m):m > day↔Cov r day:=by
 constructor
 ·intro h
  exact a.all day (ydx _) h
 ·intro h
  have:=a.from_
  by_cases e:m=day
  ·rw[e] at a
   exact absurd h a.out
  ·ac_rfl
theorem zhC {r:Sp} (J:Joined r) {i j:Nat} {s t:Int × Int} (hi:r[i]?=some s) (hj:r[j]?=some t) (lt:i<j):s.2<t.1:=by
 obtain ⟨h1,rfl⟩:=yac.mp hi
 obtain ⟨h2,rfl⟩:=yac.mp hj
 exact yaz.mp J.apart i j h1 h2 lt
theorem zoz {r:Sp} {day:Int} (B:Begun r day 0):Free r day day:=Free.here fun ⟨s,hs,h1,h2⟩=>by
 obtain ⟨j,hj,rfl⟩:=yav.mp hs
 have:=B.hi j _ (ydc _) (yaa hj)
 ac_rfl
theorem zoJ {r:Sp} (J:Joined r) {day:Int} {n:Nat} {s:Int × Int} (B:Begun r day (n+1)) (e:r[n]?=some s):Free r day (if s.2 > day then s.2 else day):=by
 have up:=J.up s (yai e)
 have lo:=B.lo n s (ydf _) e
 have other:∀ (t:Int × Int) (d:Int),t∈r->t.1<=d->d<t.2->day<=d->d<=s.2->t=s:=fun t d ht h1 h2 h3 h4=>by
  obtain ⟨j,hj,rfl⟩:=yav.mp ht
  have ej:=yaa hj
  rcases ydj j n with h | h | h
  ·have:=zhC J ej e h
   ac_rfl
  ·subst h
   rw[e] at ej
   cases ej
   rfl
  ·have:=zhC J e ej h
   ac_rfl
 by_cases c:s.2 > day
 ·rw[if_pos c]
  refine ⟨by ac_rfl,fun ⟨t,ht,h1,h2⟩=>?_,fun d h1 h2=>⟨s,yai e,by ac_rfl,h2⟩⟩
  have:=other t s.2 ht h1 h2 (by ac_rfl) (ydx _)
  rw[this] at h2
  ac_rfl
 ·rw[if_neg c]
  refine Free.here fun ⟨t,ht,h1,h2⟩=>?_
  obtain ⟨j,hj,rfl⟩:=yav.mp ht
  have ej:=yaa hj
  rcases ydj j n with h | h | h
  ·have:=zhC J ej e h
   ac_rfl
  ·subst h
   rw[e] at ej
   cases ej
   ac_rfl
  ·have:=B.hi j _ h ej
   ac_rfl
theorem zik {l:Sp} (day:Int):∃ m,Free l day m:=by
 obtain ⟨M,hM⟩:∃ M:Int,∀ s∈l,s.2<=M:=by
  clear day
  induction l with
  | nil=>exact ⟨0,fun s h=>by cases h⟩
  | cons s l ih =>
   obtain ⟨M,h⟩:=ih
   refine ⟨if M<=s.2 then s.2 else M,fun t ht=>?_⟩
   rcases yal.mp ht with rfl | ht
   ·split <;> ac_rfl
   ·have:=h t ht
    split <;> ac_rfl
 have fin:∀ n:Nat,∀ d:Int,M-d<=n->∃ m,Free l d m:=by
  intro n
  induction n with
  | zero =>
   intro d h
   refine ⟨d,Free.here fun ⟨s,hs,h1,h2⟩=>?_⟩
   have:=hM s hs
   ac_rfl
  | succ n ih =>
   intro d h
   by_cases c:Cov l d
   ·obtain ⟨m,F⟩:=ih (d+1) (by ac_rfl)
    refine ⟨m,by have:=F.from_;ac_rfl,F.out,fun x h1 h2=>?_⟩
    by_cases e:x=d
    ·rw[e];exact c
    ·exact F.all x (by ac_rfl) h2
   ·exact ⟨d,Free.here c⟩
 exact fin (M-day).toNat day (by ac_rfl)
noncomputable def ind (l:Sp) (d:Int):Int:=if isIn l d then 1 else 0
noncomputable def many (l:Sp) (a b:Int):Int:=sum (ind l) a b
end Stills
namespace Stills
open Spans Sums
theorem zgW:∀ (a b:List Int),a.Nodup->(∀ x∈a,x∈b)->a.length<=b.length
 | [],b,_,_=>ydc _
 | x::a,b,nd,h=>by
  have hx:=h x (yaj ..)
  have n:=ybq.mp nd
  have:=zgW a (b.erase x) n.2 fun y hy=>by
   have ne:y≠x:=fun e=>n.1 (e ▸ hy)
   exact (yct ne).mpr (h y (yah _ hy))
  rw[yco hx] at this
  have p:0<b.length:=ycr hx
  show a.length+1<=b.length
  ac_rfl
theorem zpV {r l:Sp} (J:Joined r) (C:∀ d,Cov r d↔Cov l d):r.length<=l.length:=by
 have nd:(r.map (·.1)).Nodup:=by
  unfold List.Nodup
  rw[ybh]
  refine (List.Pairwise.and_mem.mp J.apart).imp fun {s t} h=>?_
  have:=J.up s h.1
  have:=h.2.2
  ac_rfl
 have:=zgW (r.map (·.1)) (l.map (·.1)) nd fun x hx=>by
  obtain ⟨s,hs,rfl⟩:=yag.mp hx
  obtain ⟨t,ht,h1,h2⟩:=(C s.1).mp ⟨s,hs,ydx _,J.up s hs⟩
  have no:¬ Cov r (s.1-1):=by
   rintro ⟨u,hu,q1,q2⟩
   obtain ⟨i,hi,rfl⟩:=yav.mp hs
   obtain ⟨j,hj,rfl⟩:=yav.mp hu
   have ui:=J.up _ (yci hi)
   rcases ydj i j with h | h | h
   ·have:=zhC J (yaa hi) (yaa hj) h
    ac_rfl
   ·subst h
    ac_rfl
   ·have:=zhC J (yaa hj) (yaa hi) h
    ac_rfl
  have e:t.1=s.1:=by
   by_cases lt:t.1<s.1
   ·exact absurd ((C _).mpr ⟨t,ht,by ac_rfl,by ac_rfl⟩) no
   ·ac_rfl
  exact yag.mpr ⟨t,ht,e⟩
 simpa using this
end Stills
namespace Stills
open Spans Sums
theorem zmy {l:Sp} (up:l.Pairwise fun s t=>s.1<t.1) {i j:Nat} {s t:Int × Int} (hi:l[i]?=some s) (hj:l[j]?=some t) (lt:i<j):s.1<t.1:=by
 obtain ⟨h1,rfl⟩:=yac.mp hi
 obtain ⟨h2,rfl⟩:=yac.mp hj
 exact yaz.mp up i j h1 h2 lt
theorem zpo {l:Sp} (J:Joined l):l.Pairwise fun s t=>s.1<t.1:=by
 refine (List.Pairwise.and_mem.mp J.apart).imp fun {s t} h=>?_
 have:=J.up s h.1
 have:=h.2.2
 ac_rfl
theorem zrd {ns:List Int} (up:ns.Pairwise (·<·)) {i j:Nat} {x y:Int} (hi:ns[i]?=some x) (hj:ns[j]?=some y) (lt:i<j):x<y:=by
 obtain ⟨h1,rfl⟩:=yac.mp hi
 obtain ⟨h2,rfl⟩:=yac.mp hj
 exact yaz.mp up i j h1 h2 lt
end Stills
namespace Stills
open Spans Sums
end Stills
namespace Stills
open Spans Sums
theorem zgs {t:Sp} {d:Int} (t0:∀ s∈t,0<=s.1) (B:Begun t d 0):valOf t d=0:=by
 refine Val.one (zbu t0 d) (.inl ⟨rfl,fun r hr=>?_⟩)
 obtain ⟨j,hj,rfl⟩:=yav.mp hr
 exact B.hi j _ (ydc _) (yaa hj)
theorem zq7 {t:Sp} {d:Int} (t0:∀ s∈t,0<=s.1) (up:t.Pairwise fun s u=>s.1<u.1) {n:Nat} {s:Int × Int} (B:Begun t d (n+1)) (e:t[n]?=some s):valOf t d=s.2:=by
 refine Val.one (zbu t0 d) (.inr ⟨n,s.1,e,B.lo n s (ydf _) e,fun j r hj le=>?_⟩)
 rcases ydj j n with h | h | h
 ·exact .inl (zmy up hj e h)
 ·subst h
  rw[e] at hj
  cases hj
  exact .inr ⟨rfl,ycz _⟩
 ·have:=B.hi j r h hj
  ac_rfl
end Stills
namespace Stills
open Spans Sums
end Stills
namespace Stills
end Stills
namespace Stills
open Spans Sums
structure TabOf (t tb:Sp):Prop where
 up:tb.Pairwise fun s u=>s.1<u.1
 val:∀ d,valOf tb d=valOf t d
 days:∀ d,(∃ s∈tb,d=s.1)↔∃ s∈t,d=s.1
theorem TabOf.nn {t tb:Sp} (T:TabOf t tb) (t0:∀ s∈t,0<=s.1):∀ s∈tb,0<=s.1:=fun s hs=>by
 obtain ⟨u,hu,e⟩:=(T.days s.1).mp ⟨s,hs,rfl⟩
 rw[e]
 exact t0 u hu
theorem tab_of {t:Sp} {ds:List Int} (t0:∀ s∈t,0<=s.1) (up:ds.Pairwise (·<·)) (mem:∀ d,d∈ds↔∃ s∈t,d=s.1):TabOf t (ds.map fun d=>(d,valOf t d)):=by
 have d0:∀ s∈ds.map fun d=>(d,valOf t d),0<=s.1:=fun s hs=>by
  obtain ⟨d,hd,rfl⟩:=yag.mp hs
  obtain ⟨u,hu,e⟩:=(mem d).mp hd
  show 0<=d
  rw[e]
  exact t0 u hu
 refine ⟨by rw[ybh];exact up,fun d=>?_,fun d=>?_⟩
 ·refine Val.one (zbu d0 d) ?_
  rcases zbu t0 d with ⟨e,h⟩ | ⟨i,b,e,le,h⟩
  ·rw[e]
   refine .inl ⟨rfl,fun r hr=>?_⟩
   obtain ⟨x,hx,rfl⟩:=yag.mp hr
   obtain ⟨u,hu,e'⟩:=(mem x).mp hx
   show d<x
   rw[e']
   exact h u hu
  ·have hb:b∈ds:=(mem b).mpr ⟨_,yai e,rfl⟩
   obtain ⟨j,hj,ej⟩:=yav.mp hb
   have vb:valOf t b=valOf t d:=Val.one (zbu t0 b) (.inr ⟨i,b,e,ydx _,fun k r hk hr=>h k r hk (by ac_rfl)⟩)
   refine .inr ⟨j,b,?_,le,fun k r hk hr=>?_⟩
   ·rw[yak,yaa hj,ej]
    show some (b,valOf t b)=_
    rw[vb]
   ·rw[yak] at hk
    obtain ⟨x,hx,rfl⟩:=Option.map_eq_some_iff.mp hk
    have ej':ds[j]?=some b:=by rw[yaa hj,ej]
    obtain ⟨u,hu,eu⟩:=(mem x).mp (yai hx)
    obtain ⟨n,hn,en⟩:=yav.mp hu
    have hxb:x<=b:=by
     have:=h n u (by rw[yaa hn,en]) (by rw[<-eu];exact hr)
     rw[<-eu] at this
     ac_rfl
    rcases ydj k j with c | c | c
    ·exact .inl (zrd up hx ej' c)
    ·subst c
     rw[ej'] at hx
     cases hx
     exact .inr ⟨rfl,ycz _⟩
    ·have:=zrd up ej' hx c
     ac_rfl
 ·constructor
  ·rintro ⟨s,hs,rfl⟩
   obtain ⟨x,hx,rfl⟩:=yag.mp hs
   exact (mem x).mp hx
  ·intro hd
   exact ⟨(d,valOf t d),yag.mpr ⟨d,(mem d).mpr hd,rfl⟩,rfl⟩
end Stills
namespace Stills
open Spans Sums
end Stills
namespace Stills
end Stills
namespace Stills
open Spans Sums
structure JInv (P acc:Sp):Prop where
 j:Joined acc
 c:∀ d,Cov acc d↔Cov P d
 f:∀ t∈acc,∃ s∈P,t.1=s.1
theorem zj1 {s:Int × Int} {d:Int}:Cov [s] d↔s.1<=d/\d<s.2:=by
 rw[zqv]
 exact ⟨fun h=>h.elim id fun z=>absurd z znM,.inl⟩
theorem JInv.nil:JInv [] []:=⟨⟨fun s h=>(by cases h),List.Pairwise.nil⟩,fun _=>Iff.rfl,fun t h=>(by cases h)⟩
theorem JInv.begin_ {P:Sp} {s:Int × Int} (J:JInv P []) (up:s.1<s.2):JInv (P++[s]) [s]:=by
 refine ⟨⟨fun t ht=>?_,ybu _ _⟩,fun d=>?_,fun t ht=>?_⟩
 ·have:t=s:=by simpa using ht
  rw[this];exact up
 ·rw[zb9,<-J.c]
  exact ⟨.inr,fun h=>h.elim (fun z=>absurd z znM) id⟩
 ·have:t=s:=by simpa using ht
  exact ⟨s,by simp,by rw[this]⟩
theorem JInv.add {P acc:Sp} {t s:Int × Int} (J:JInv P (acc++[t])) (up:s.1<s.2) (h:t.2<s.1):JInv (P++[s]) (acc++[t]++[s]):=by
 have jt:=J.j.up t (by simp)
 refine ⟨⟨fun u hu=>?_,ybt.mpr ⟨J.j.apart,ybu _ _,fun u hu v hv=>?_⟩⟩,fun d=>?_,fun u hu=>?_⟩
 ·rcases yam.mp hu with hu | hu
  ·exact J.j.up u hu
  ·have:u=s:=by simpa using hu
   rw[this];exact up
 ·have:v=s:=by simpa using hv
  subst this
  rcases yam.mp hu with hu' | hu'
  ·have:=(ybt.mp J.j.apart).2.2 u hu' t (by simp)
   ac_rfl
  ·have:u=t:=by simpa using hu'
   rw[this];exact h
 ·rw[zb9 (a:=acc++[t]),zb9 (a:=P),J.c]
 ·rcases yam.mp hu with hu | hu
  ·obtain ⟨x,hx,e⟩:=J.f u hu
   exact ⟨x,yam.mpr (.inl hx),e⟩
  ·have:u=s:=by simpa using hu
   exact ⟨s,by simp,by rw[this]⟩
theorem JInv.grow {P acc:Sp} {t s:Int × Int} {m:Int} (J:JInv P (acc++[t])) (up:s.1<s.2) (h0:t.1<=s.1) (h:s.1<=t.2) (hm:m=if s.2 > t.2 then s.2 else t.2):JInv (P++[s]) (acc++[(t.1,m)]):=by
 have jt:=J.j.up t (by simp)
 have hm':t.2<=m/\s.2<=m/\(m=t.2\/m=s.2):=by rw[hm];split <;> ac_rfl
 obtain ⟨p1,p2,p3⟩:=ybt.mp J.j.apart
 refine ⟨⟨fun u hu=>?_,ybt.mpr ⟨p1,ybu _ _,fun u hu v hv=>?_⟩⟩,fun d=>?_,fun u hu=>?_⟩
 ·rcases yam.mp hu with hu | hu
  ·exact J.j.up u (yam.mpr (.inl hu))
  ·have:u=(t.1,m):=by simpa using hu
   rw[this]
   show t.1<m
   ac_rfl
 ·have:v=(t.1,m):=by simpa using hv
  rw[this]
  exact p3 u hu t (by simp)
 ·have a:=J.c d
  rw[zb9,zj1] at a
  rw[zb9,zb9,<-a,zj1,zj1]
  show (Cov acc d\/(t.1<=d/\d<m))↔((Cov acc d\/(t.1<=d/\d<t.2))\/(s.1<=d/\d<s.2))
  constructor
  ·rintro (z | z)
   ·exact .inl (.inl z)
   ·by_cases c:d<t.2
    ·exact .inl (.inr ⟨z.1,c⟩)
    ·exact .inr (by ac_rfl)
  ·rintro ((z | z) | z)
   ·exact .inl z
   ·exact .inr (by ac_rfl)
   ·exact .inr (by ac_rfl)
 ·rcases yam.mp hu with hu | hu
  ·obtain ⟨x,hx,e⟩:=J.f u (yam.mpr (.inl hu))
   exact ⟨x,yam.mpr (.inl hx),e⟩
  ·have:u=(t.1,m):=by simpa using hu
   obtain ⟨x,hx,e⟩:=J.f t (by simp)
   exact ⟨x,yam.mpr (.inl hx),by rw[this];exact e⟩
theorem zrw {a b:Sp} (h:∀ s,s∈a↔s∈b) (d:Int):Cov a d↔Cov b d:=⟨fun ⟨s,hs,q⟩=>⟨s,(h s).mp hs,q⟩,fun ⟨s,hs,q⟩=>⟨s,(h s).mpr hs,q⟩⟩
end Stills
namespace Dct
open L2
def days (t:List (Int × Int)) (d:Int):Prop:=∃ s∈t,d=s.1
theorem zsx {d:Int} (h:-1<=d):∀ (t:List (Int × Int)) (st:Int × Int),st.1<=d->(t.foldl (Sums.vstep d) st).1<=d
 | [],st,hs=>hs
 | x::t,st,hs=>by
  rw[ybe]
  refine zsx h t _ ?_
  unfold Sums.vstep
  split
  ·rename_i q;exact q.2
  ·exact hs
theorem zpG {d:Int}:∀ (t:List (Int × Int)) (st:Int × Int),st.1=d->(t.foldl (Sums.vstep d) st).1=d
 | [],st,hs=>hs
 | x::t,st,hs=>by
  rw[ybe]
  refine zpG t _ ?_
  unfold Sums.vstep
  split
  ·rename_i q;ac_rfl
  ·exact hs
theorem zri {d:Int} (h:0<=d):∀ (t:List (Int × Int)) (st:Int × Int),st.1<=d->days t d->(t.foldl (Sums.vstep d) st).1=d
 | [],st,_,hd=>by obtain ⟨s,hs,_⟩:=hd;cases hs
 | x::t,st,hs,hd=>by
  rw[ybe]
  by_cases e:x.1=d
  ·refine zpG t _ ?_
   unfold Sums.vstep
   rw[if_pos ⟨by ac_rfl,by ac_rfl⟩]
   exact e
  ·refine zri h t _ ?_ ?_
   ·unfold Sums.vstep
    split
    ·rename_i q;exact q.2
    ·exact hs
   ·obtain ⟨s,m,q⟩:=hd
    rcases yal.mp m with rfl | m
    ·exact absurd q.symm e
    ·exact ⟨s,m,q⟩
theorem zpg (t:List (Int × Int)) (x:Int × Int):zfb (t++[x])=zap (zfb t) x.1 x.2:=by
 unfold zfb
 rw[ybs]
 rfl
theorem zj8 (l:List (Int × Int)) (k:Int):l.any (fun p=>p.1=k)=true↔days l k:=by
 rw[ybv]
 constructor
 ·rintro ⟨s,m,q⟩;exact ⟨s,m,(of_decide_eq_true q).symm⟩
 ·rintro ⟨s,m,q⟩;exact ⟨s,m,decide_eq_true q.symm⟩
theorem zjz {l:List (Int × Int)} {k y:Int} {s:Int × Int} (h:s∈zap l k y):(s.1=k/\s.2=y)\/(s∈l/\s.1≠k):=by
 unfold zap at h
 split at h
 ·obtain ⟨u,m,e⟩:=yag.mp h
  by_cases q:u.1=k
  ·rw[if_pos q] at e;subst e;exact .inl ⟨q,rfl⟩
  ·rw[if_neg q] at e;subst e;exact .inr ⟨m,q⟩
 ·rename_i na
  rcases yam.mp h with m | m
  ·refine .inr ⟨m,fun q=>na ((zj8 l k).mpr ⟨s,m,q.symm⟩)⟩
  ·obtain rfl:s=(k,y):=by simpa using m
   exact .inl ⟨rfl,rfl⟩
theorem zng {l:List (Int × Int)} {k y d:Int}:days (zap l k y) d↔days l d\/d=k:=by
 constructor
 ·rintro ⟨s,m,q⟩
  rcases zjz m with ⟨a,_⟩ | ⟨a,_⟩
  ·exact .inr (q.trans a)
  ·exact .inl ⟨s,a,q⟩
 ·intro h
  unfold zap
  split
  ·rename_i a
   have hd:days l d:=by
    rcases h with h | h
    ·exact h
    ·rw[h];exact (zj8 l k).mp a
   obtain ⟨s,m,q⟩:=hd
   by_cases e:s.1=k
   ·exact ⟨(s.1,y),yag.mpr ⟨s,m,by rw[if_pos e]⟩,q⟩
   ·exact ⟨s,yag.mpr ⟨s,m,by rw[if_neg e]⟩,q⟩
  ·rcases h with ⟨s,m,q⟩ | h
   ·exact ⟨s,ybb _ m,q⟩
   ·exact ⟨(k,y),yaf _ (yan.mpr rfl),h⟩
theorem znd {l:List (Int × Int)} {k y:Int} (h:(l.map (·.1)).Nodup):((zap l k y).map (·.1)).Nodup:=by
 unfold zap
 split
 ·rw[ybn]
  have e:((fun x:Int × Int=>x.1) ∘ fun p:Int × Int=>if p.1=k then (p.1,y) else p)=fun x=>x.1:=by
   funext p
   show (if p.1=k then (p.1,y) else p).1=p.1
   split <;> rfl
  rw[e]
  exact h
 ·rename_i na
  rw[yat]
  refine List.nodup_append.mpr ⟨h,by simp,fun a ha b hb=>?_⟩
  have hb':b=k:=by simpa using hb
  obtain ⟨s,m,q⟩:=yag.mp ha
  rw[hb']
  intro z
  exact na ((zj8 l k).mpr ⟨s,m,by rw[<-z];exact q.symm⟩)
structure Is (t l:List (Int × Int)):Prop where
 keys:(l.map (·.1)).Nodup
 days:∀ d,days l d↔days t d
 val:∀ s∈l,s.2=Sums.valOf t s.1
theorem dct_is:∀ (n:Nat) (t:List (Int × Int)),t.length=n->(∀ s∈t,0<=s.1)->Is t (zfb t)
 | 0,t,e,_=>by
  obtain rfl:t=[]:=List.eq_nil_of_length_eq_zero e
  exact ⟨List.nodup_nil,fun d=>Iff.rfl,fun s hs=>by cases hs⟩
 | n+1,t,e,h0=>by
  have ne:t≠[]:=fun z=>by rw[z] at e;cases e
  have et:t.dropLast++[t.getLast ne]=t:=List.dropLast_concat_getLast ne
  generalize t.dropLast=u at et
  generalize t.getLast ne=x at et
  subst et
  have ul:u.length=n:=by simpa using e
  have ih:=dct_is n u ul fun s hs=>h0 s (ybb _ hs)
  rw[zpg]
  refine ⟨znd ih.keys,fun d=>?_,fun s hs=>?_⟩
  ·rw[zng,ih.days]
   constructor
   ·rintro (⟨s,m,q⟩ | q)
    ·exact ⟨s,ybb _ m,q⟩
    ·exact ⟨x,yaf _ (yan.mpr rfl),q⟩
   ·rintro ⟨s,m,q⟩
    rcases yam.mp m with m | m
    ·exact .inl ⟨s,m,q⟩
    ·obtain rfl:s=x:=by simpa using m
     exact .inr q
  ·have x0:=h0 x (yaf _ (yan.mpr rfl))
   have ev:∀ d,Sums.valOf (u++[x]) d=(Sums.vstep d (u.foldl (Sums.vstep d) (-1,0)) x).2:=fun d=>by
    unfold Sums.valOf
    rw[ybs]
    rfl
   rcases zjz hs with ⟨a,b⟩ | ⟨a,b⟩
   ·rw[ev,b,a]
    unfold Sums.vstep
    rw[if_pos ⟨zsx (by ac_rfl) u (-1,0) (by show -1<=x.1;ac_rfl),ydx _⟩]
   ·rw[ev,ih.val s a]
    have d0:0<=s.1:=by
     obtain ⟨r,m,q⟩:=(ih.days s.1).mp ⟨s,a,rfl⟩
     rw[q]
     exact h0 r (ybb _ m)
    have b1:=zri d0 u (-1,0) (by show -1<=s.1;ac_rfl) ((ih.days s.1).mp ⟨s,a,rfl⟩)
    have st:Sums.vstep s.1 (u.foldl (Sums.vstep s.1) (-1,0)) x=u.foldl (Sums.vstep s.1) (-1,0):=if_neg (by rw[b1];ac_rfl)
    rw[st]
    rfl
theorem tab {t r:List (Int × Int)} (h0:∀ s∈t,0<=s.1) (p:r.Perm (zfb t)) (o:r.Pairwise fun s u=>s.1<=u.1):Stills.TabOf t r/\r=(r.map (·.1)).map fun d=>(d,Sums.valOf t d):=by
 have I:=dct_is t.length t rfl h0
 have nd:(r.map (·.1)).Nodup:=(p.map (·.1)).nodup_iff.mpr I.keys
 have up:(r.map (·.1)).Pairwise (·<·):=by
  have o':(r.map (·.1)).Pairwise (·<=·):=by
   rw[ybh]
   exact o
  refine (o'.and nd).imp fun {a b} h=>?_
  have:=h.1
  have:=h.2
  ac_rfl
 have e:r=(r.map (·.1)).map fun d=>(d,Sums.valOf t d):=by
  rw[ybn]
  conv=>lhs;rw[<-List.map_id r]
  refine ybz fun s hs=>?_
  show s=(s.1,Sums.valOf t s.1)
  rw[<-I.val s (p.mem_iff.mp hs)]
 refine ⟨?_,e⟩
 rw[e]
 refine Stills.tab_of h0 up fun d=>?_
 constructor
 ·intro m
  obtain ⟨s,hs,rfl⟩:=yag.mp m
  exact (I.days s.1).mp ⟨s,p.mem_iff.mp hs,rfl⟩
 ·intro m
  obtain ⟨s,hs,q⟩:=(I.days d).mpr m
  exact yag.mpr ⟨s,p.mem_iff.mpr hs,q.symm⟩
end Dct
namespace L2
open PySem
noncomputable def bkF (c g e o f p t r l s d:V):List (Str × V):=[("own_count", c),("own_grace", g),("own_entries", e),("out_sums", o),("fee_sums", f),("pay_sums", p),("turn_days", t),("rate_rows", r),("late_rows", l),("spans", s),("due_sums", d)]
noncomputable def upto (l:List (Int × Int)) (d:Int):Int:=((l.filter fun s=>decide (s.1<=d)).map (·.2)).sum
structure BkT where
 (kd:Kd) (g:Int) (es:List Er) (outs fees pays:List (Int × Int)) (turns:List Int) (rates lates spans dues:List (Int × Int))
def LP (K:W.Frag) (H:Hp) (p:Addr) (l:List (Int × Int)):Prop:=∃ xs,H p=some (.lst xs)/\zu K H xs l/\l.length<=1000
theorem LP.same {K:W.Frag} {H H':Hp} {p:Addr} {l:List (Int × Int)} (h:LP K H p l) (s:Same H H'):LP K H' p l:=by
 obtain ⟨xs,e,r,n⟩:=h
 exact ⟨xs,s _ _ e,r.same s,n⟩
structure BkA where
 (dx c e o f p t r l s d:Addr)
noncomputable def BkA.fs (A:BkA) (g:Int):List (Str × V):=bkF (.ref A.c) (.int g) (.ref A.e) (.ref A.o) (.ref A.f) (.ref A.p) (.ref A.t) (.ref A.r) (.ref A.l) (.ref A.s) (.ref A.d)
structure zaM (K:W.Frag) (H:Hp) (a:Addr) (A:BkA) (b:BkT):Prop where
 ins:H a=some (.ins (cA K "Book") A.dx (A.fs b.g))
 cnt:zcG K H A.c b.kd
 ents:∃ xs,H A.e=some (.lst xs)/\EL K H xs b.es
 outs:LP K H A.o b.outs
 fees:LP K H A.f b.fees
 pays:LP K H A.p b.pays
 turns:H A.t=some (.lst (b.turns.map V.int))
 rates:LP K H A.r b.rates
 lates:LP K H A.l b.lates
 spans:LP K H A.s b.spans
 dues:LP K H A.d b.dues
theorem zaM.same {K:W.Frag} {H H':Hp} {a:Addr} {A:BkA} {b:BkT} (h:zaM K H a A b) (s:Same H H'):zaM K H' a A b :=
 ⟨s _ _ h.ins,h.cnt.same s,(let ⟨xs,e,r⟩:=h.ents;⟨xs,s _ _ e,r.same s⟩),h.outs.same s,h.fees.same s,h.pays.same s,s _ _ h.turns,h.rates.same s,h.lates.same s,h.spans.same s,h.dues.same s⟩
noncomputable def wo (H:Hp) (a:Addr):Hp:=fun b=>if b=a then none else H b
theorem zrf {H:Hp} {a b:Addr} (h:b≠a):wo H a b=H b:=if_neg h
theorem zbI {H:Hp} {a:Addr}:Same (wo H a) H:=fun b o e=>by
 unfold wo at e
 split at e
 ·cases e
 ·exact e
theorem zrv {H H':Hp} {a:Addr} (s:Same H H'):Same (wo H a) (wo H' a):=fun b o e=>by
 unfold wo at e ⊢
 split at e
 ·cases e
 ·rename_i n
  rw[if_neg n]
  exact s _ _ e
theorem zck {H:Hp} {a:Addr} {o:HO}:wo (upd H a o) a=wo H a:=funext fun b=>by
 unfold wo
 split
 ·rfl
 ·rename_i n
  rw[zv n]
theorem zrp {K:W.Frag} {H:Hp} {a C dx:Addr} {fs:List (Str × V)} {xs:List V} {l:List (Int × Int)} (h:zu K H xs l) (e:H a=some (.ins C dx fs)):zu K (wo H a) xs l:=by
 induction h with
 | nil=>exact .nil
 | cons h _ ih=>exact .cons (by rw[zrf (za8 h e (by intro z;cases z))];exact h) ih
theorem zl4 {H:Hp} {a p C dx:Addr} {fs:List (Str × V)} {xs:List V} (h:H p=some (.lst xs)) (e:H a=some (.ins C dx fs)):wo H a p=some (.lst xs):=by
 rw[zrf (za8 h e (by intro z;cases z))];exact h
theorem LP.wo {K:W.Frag} {H:Hp} {a p C dx:Addr} {fs:List (Str × V)} {l:List (Int × Int)} (h:LP K H p l) (e:H a=some (.ins C dx fs)):LP K (L2.wo H a) p l:=by
 obtain ⟨xs,h1,h2,h3⟩:=h
 exact ⟨xs,zl4 h1 e,zrp h2 e,h3⟩
theorem zb2 {H H2:Hp} {a:Addr} {o:HO} (s:Same H H2):Same (wo H a) (wo (upd H2 a o) a):=by
 rw[zck]
 exact zrv s
noncomputable def tot (q:Int->Bool) (l:List (Int × Int)):Int:=((l.filter fun s=>q s.1).map (·.2)).sum
theorem zdo (q:Int->Bool) (s:Int × Int) (l:List (Int × Int)):tot q (s::l)=(if q s.1 then s.2 else 0)+tot q l:=by
 unfold tot
 by_cases h:q s.1=true
 ·rw[ybc (by simpa using h),if_pos h];simp
 ·rw[ybd (by simpa using h),if_neg h];simp
theorem zfZ (s:Int × Int) (l:List (Int × Int)) (n:Int):Sby.sm (s::l) n=(if s.1=n then s.2 else 0)+Sby.sm l n:=by
 have:=zdo (fun k=>decide (k=n)) s l
 simpa [tot,Sby.sm] using this
theorem zkD (q:Int->Bool) (n:Int):∀ l:List (Int × Int),tot q l=(if q n then Sby.sm l n else 0)+tot q (l.filter fun s=>decide (s.1≠n))
 | []=>by simp[tot,Sby.sm]
 | s::l=>by
  rw[zdo,zkD q n l,zfZ]
  by_cases e:s.1=n
  ·rw[ybd (by simpa using e),if_pos e,e]
   split <;> ac_rfl
  ·rw[ybc (by simpa using e),if_neg e,zdo]
   split <;> split <;> ac_rfl
theorem zsF {n d:Int} (h:d≠n) (l:List (Int × Int)):Sby.sm (l.filter fun s=>decide (s.1≠n)) d=Sby.sm l d:=by
 induction l with
 | nil=>rfl
 | cons s l ih =>
  by_cases e:s.1=n
  ·rw[ybd (by simpa using e),zfZ,if_neg (by ac_rfl),ih];ac_rfl
  ·rw[ybc (by simpa using e),zfZ,zfZ,ih]
theorem zlw (q:Int->Bool):∀ (ns:List Int) (l:List (Int × Int)),ns.Nodup->(∀ p∈l,p.1∈ns)->tot q (ns.map fun d=>(d,Sby.sm l d))=tot q l
 | [],l,_,h=>by
  cases l with
  | nil=>rfl
  | cons s l=>exact absurd (h s yaj) (by simp)
 | n::ns,l,nd,h=>by
  obtain ⟨n1,n2⟩:=ybq.mp nd
  rw[yay,zdo,zkD q n l,<-zlw q ns (l.filter fun s=>decide (s.1≠n)) n2 fun p hp=>?_]
  ·congr 2
   apply ybz
   intro d hd
   rw[zsF (fun (e:d=n)=>n1 (by rw[<-e];exact hd))]
  ·obtain ⟨h1,h2⟩:=yaq.mp hp
   rcases yal.mp (h p h1) with e | e
   ·exact absurd e (by simpa using h2)
   ·exact e
theorem zqp {r l:List (Int × Int)} (T:Sby.Tab r l):r=(r.map (·.1)).map fun d=>(d,Sby.sm l d):=by
 rw[ybn]
 conv=>lhs;rw[<-List.map_id r]
 apply ybz
 intro p hp
 show p=(p.1,Sby.sm l p.1)
 rw[<-T.val p hp]
theorem zn5 {r l:List (Int × Int)} (T:Sby.Tab r l) (q:Int->Bool):tot q r=tot q l:=by
 rw[zqp T]
 exact zlw q _ l (Sby.zgl T.up) fun p hp=>(T.mem p.1).mpr (yar hp)
theorem zaI {r l:List (Int × Int)} (T:Sby.Tab r l) (d:Int):upto r d=upto l d:=zn5 T fun k=>decide (k<=d)
noncomputable def mvp (f:Int->Int) (l:List (Int × Int)):List (Int × Int):=l.map fun s=>(f s.1,s.2)
theorem zo3 (f:Int->Int) (l:List (Int × Int)) (k:Int):Sby.sm (mvp f l) k=tot (fun d=>decide (f d=k)) l:=by
 induction l with
 | nil=>rfl
 | cons s l ih =>
  show Sby.sm ((f s.1,s.2)::mvp f l) k=_
  rw[zfZ,zdo,ih]
  by_cases e:f s.1=k
  ·rw[if_pos e,if_pos (by simpa using e)]
  ·rw[if_neg e,if_neg (by simpa using e)]
theorem zrY {r r2 l:List (Int × Int)} (f:Int->Int) (T:Sby.Tab r l) (T2:Sby.Tab r2 (mvp f r)):Sby.Tab r2 (mvp f l):=by
 have k:∀ l:List (Int × Int),(mvp f l).map (·.1)=(l.map (·.1)).map f:=fun l=>by unfold mvp;rw[ybn,ybn];rfl
 refine ⟨T2.up,fun d=>(T2.mem d).trans ?_,fun p hp=>?_⟩
 ·rw[k,k]
  constructor
  ·intro h
   obtain ⟨x,hx,e⟩:=yag.mp h
   exact yag.mpr ⟨x,(T.mem x).mp hx,e⟩
  ·intro h
   obtain ⟨x,hx,e⟩:=yag.mp h
   exact yag.mpr ⟨x,(T.mem x).mpr hx,e⟩
 ·rw[T2.val p hp,zo3,zo3,zn5 T]
noncomputable def mvd (l:List (Int × Int)) (d:Int):Int:=Classical.choose (Stills.zik (l:=l) d)
theorem zf1 (l:List (Int × Int)) (d:Int):Stills.Free l d (mvd l d):=Classical.choose_spec (Stills.zik (l:=l) d)
theorem zpF {l:List (Int × Int)} {d m:Int} (h:Stills.Free l d m):m=mvd l d:=h.one (zf1 l d)
theorem zrF {l r:List (Int × Int)} (h:∀ d,Spans.Cov l d↔Spans.Cov r d):mvd l=mvd r:=funext fun d=>zpF ((zf1 l d).cov h)
structure zbY (b:BkT):Prop where
 outs:Sby.Tab b.outs (prs "out" b.es)
 fees:Sby.Tab b.fees (prs "fee" b.es)
 pays:Sby.Tab b.pays (prs "pay" b.es)
 turns:Days b.turns (dys "turn" b.es)
 rates:Stills.TabOf (prs "rate" b.es) b.rates/\b.rates=(b.rates.map (·.1)).map (fun d=>(d,Sums.valOf (prs "rate" b.es) d))
 lates:Stills.TabOf (prs "late" b.es) b.lates/\b.lates=(b.lates.map (·.1)).map (fun d=>(d,Sums.valOf (prs "late" b.es) d))
 spans:Spans.Joined b.spans/\∀ d,Spans.Cov b.spans d↔Spans.Cov (prs "still" b.es) d
 dues:Sby.Tab b.dues (mvp (mvd (prs "still" b.es)) (prs "due" b.es))
def RtW (w:Str):Prop:=w = "rate" \/ w = "late"
theorem rtl {w:Str} {k:Ek} {d x:Int} (hw:RtW w) (h:isW w (k,d,x)=true):ycd ("rate" : Str) (zj7 k d x)=some (V.int x):=by
 have e:k.word=w:=V.str.inj (of_decide_eq_true h)
 subst e
 rcases hw with hw | hw <;> (cases k <;> first | rfl | (exfalso;revert hw;decide))
theorem stl {k:Ek} {d x:Int} (h:isW "still" (k,d,x)=true):ycd ("until" : Str) (zj7 k d x)=some (V.int x):=by
 have e:k.word = "still" := V.str.inj (of_decide_eq_true h)
 cases k <;> first | rfl | (exfalso;revert e;decide)
theorem zqP (l:List (Int × Int)) (d:Int):Spans.Cov (l.filter fun s=>decide (s.1<s.2)) d↔Spans.Cov l d:=by
 constructor
 ·rintro ⟨s,hs,h⟩
  exact ⟨s,(yaq.mp hs).1,h⟩
 ·rintro ⟨s,hs,h1,h2⟩
  exact ⟨s,yaq.mpr ⟨hs,by simp;ac_rfl⟩,h1,h2⟩
theorem zf0 {w:Str} {es:List Er}:(prs w es).length<=es.length:=by
 unfold prs
 rw[yab]
 exact yaw _ _
theorem tyC {K:W.Frag} {H:Hp} {a:Addr} {kd:Kd} (cl:Cls K (cA K kd.cls)) (I:zqJ K (cA K kd.cls)) (h:zcG K H a kd):zbU K H (.ref a) (.ref (cA K kd.cls)):=by
 obtain ⟨dx,e⟩:=h
 exact .ins e cl I.ha I.hn I.htk I.hm
theorem comp_map {α:Type} {J:It} {ix:List Nat} {te:TE} {σ:St} {l:Addr} {xs:List V} {H:Hp} {R:Hp->Prop} (Y:zhh J H xs) (hl:H l=none) (hz:xs.length<=sizeLine) (es:List α) (len:es.length=xs.length)
  (P:Hp->V->α->Prop) (mono:∀ v e H1 H2,Same H1 H2->P H1 v e->P H2 v e) (put:∀ v e H1 ys zs,H1 l=some (.lst ys)->P H1 v e->P (upd H1 l (.lst zs)) v e)
  (he:∀ (i:Nat) x e H' Q',xs[i]?=some x->es[i]?=some e->Same H H'->(∀ v H2,Same H' H2->P H2 v e->Q' v H2)->te (some x::capts σ ix) H' Q')
  (fin:∀ ys H',Same H H'->H' l=some (.lst ys)->LL (P H') ys es->R H') :
  ∃ W:Nat->Nat->List V->Hp->Prop,(∃ m,W 0 m [] (upd H l (.lst [])))/\Turns ix te σ J l R W:=by
 refine zl8 Y hl hz (fun i v H'=>∃ e,es[i]?=some e/\P H' v e) (fun i v H1 H2 s ⟨e,e1,e2⟩=>⟨e,e1,mono v e _ _ s e2⟩) (fun i v H1 ys zs hL ⟨e,e1,e2⟩=>⟨e,e1,put v e _ _ _ hL e2⟩) ?_ ?_
 ·intro i x H' Q' hx sH hq
  have il:i<es.length:=by rw[len];exact (yac.mp hx).1
  have eP:es[i]?=some (es[i]'il):=yaa il
  exact he i x _ H' Q' hx eP sH fun v H2 s2 pv=>hq v H2 s2 ⟨_,eP,pv⟩
 ·intro ys H' sH eL yl hp
  exact fin ys H' sH eL (LL.of (by ac_rfl) hp)
theorem zqg {K:W.Frag} {H:Hp} {f:Int->Int} {ys:List V} {l:List (Int × Int)} (h:LL (fun v s=>∃ t,v=.ref t/\H t=some (.tup [.int (f s.1),.int s.2])) ys l):zu K H ys (mvp f l):=by
 induction h with
 | nil=>exact .nil
 | cons h _ ih =>
  obtain ⟨t,rfl,e⟩:=h
  exact .cons e ih
noncomputable def zcK (k:Ek) (d x:Int):List V:=[.str k.word,.int d,.int x]
noncomputable def RL3 (H:Hp):List V->List Er->Prop:=LL fun v e=>∃ t,v=.ref t/\H t=some (.tup (zcK e.1 e.2.1 e.2.2))
theorem RL3.same {H H':Hp} {vs:List V} {es:List Er} (h:RL3 H vs es) (s:Same H H'):RL3 H' vs es:=LL.imp (fun v e ⟨t,e1,e2⟩=>⟨t,e1,s _ _ e2⟩) h
theorem RL3.put {H:Hp} {vs ys zs:List V} {es:List Er} {p:Addr} (h:RL3 H vs es) (hp:H p=some (.lst ys)):RL3 (upd H p (.lst zs)) vs es:=LL.imp (fun v e ⟨t,e1,e2⟩=>⟨t,e1,by rw[zv (za8 e2 hp (by intro z;cases z))];exact e2⟩) h
theorem zof {X:Cx} (K:W.Frag) (hK:X.K=K:=by rfl):OpR X (compareOp .In) (rIn K false):=by
 subst hK
 exact zhq
theorem zlk {X:Cx} (K:W.Frag) (hK:X.K=K:=by rfl):OpR X (compareOp .NotIn) (rIn K true):=by
 subst hK
 exact zml
end L2
namespace L2
open PySem
noncomputable abbrev T3:=Int × Int × Int
noncomputable def mn (a b:Int):Int:=if b<a then b else a
noncomputable def sum2 (l:List (Int × Int)):Int:=(l.map (·.2)).sum
noncomputable def ztr (day paid t:Int) (s:Int × Int):List T3:=if s.1<=day/\mn s.2 (t+s.2-paid) > 0 then [(s.1,s.2,mn s.2 (t+s.2-paid))] else []
noncomputable def opn (day paid:Int):Int->List (Int × Int)->List T3
 | _,[]=>[]
 | t,s::l=>ztr day paid t s++opn day paid (t+s.2) l
theorem zpt (l:List (Int × Int)) (s:Int × Int):sum2 (l++[s])=sum2 l+s.2:=by simp[sum2]
noncomputable def p0 (a:Int):Int:=if a > 0 then a else 0
theorem zdV (s:Int × Int) (l:List (Int × Int)) (x:Int):upto (s::l) x=(if s.1<=x then s.2 else 0)+upto l x:=by
 have:=zdo (fun k=>decide (k<=x)) s l
 simpa [tot,upto] using this
theorem zhd {l:List (Int × Int)} {x:Int} (h:∀ s∈l,x<s.1):upto l x=0:=by
 unfold upto
 rw[ych.mpr (fun s hs=>by have:=h s hs;simp;ac_rfl)]
 rfl
end L2
namespace L2
open PySem
theorem zkh (d x:Int):∀ r:List (Int × Int),(∀ s∈r,s.1<=x->s.1<=d)\/∃ s∈r,d<s.1/\s.1<=x/\∀ u∈r,u.1<=x->u.1<=s.1
 | []=>.inl fun s hs=>by cases hs
 | a::r=>by
  by_cases c:d<a.1/\a.1<=x
  ·right
   rcases zkh d x r with h | ⟨s,hs,h1,h2,h3⟩
   ·refine ⟨a,by simp,c.1,c.2,fun u hu z=>?_⟩
    rcases yal.mp hu with rfl | hu
    ·exact ydx _
    ·have:=h u hu z;ac_rfl
   ·by_cases c2:s.1<=a.1
    ·refine ⟨a,by simp,c.1,c.2,fun u hu z=>?_⟩
     rcases yal.mp hu with rfl | hu
     ·exact ydx _
     ·have:=h3 u hu z;ac_rfl
    ·refine ⟨s,yah _ hs,h1,h2,fun u hu z=>?_⟩
     rcases yal.mp hu with rfl | hu
     ·ac_rfl
     ·exact h3 u hu z
  ·rcases zkh d x r with h | ⟨s,hs,h1,h2,h3⟩
   ·left
    intro u hu z
    rcases yal.mp hu with rfl | hu
    ·ac_rfl
    ·exact h u hu z
   ·right
    refine ⟨s,yah _ hs,h1,h2,fun u hu z=>?_⟩
    rcases yal.mp hu with rfl | hu
    ·ac_rfl
    ·exact h3 u hu z
theorem zrI {r:List (Int × Int)} {x y:Int} (h:∀ s∈r,s.1<=x↔s.1<=y):upto r x=upto r y:=by
 unfold upto
 rw[List.filter_congr (q:=fun s=>decide (s.1<=y)) fun s hs=>decide_eq_decide.mpr (h s hs)]
noncomputable def runs:Int->List (Int × Int)->List (Int × Int)
 | _,[]=>[]
 | t,s::l=>(s.1,t+s.2)::runs (t+s.2) l
theorem zku:∀ (l:List (Int × Int)) (t:Int) (s:Int × Int),runs t (l++[s])=runs t l++[(s.1,t+sum2 l+s.2)]
 | [],t,s=>by simp[runs,sum2]
 | u::l,t,s=>by
  simp only[List.cons_append,runs,zku l]
  have:t+u.2+sum2 l+s.2=t+sum2 (u::l)+s.2:=by simp[sum2];ac_rfl
  rw[this]
theorem zcA:∀ (l:List (Int × Int)) (t:Int),(runs t l).map (·.1)=l.map (·.1)
 | [],t=>rfl
 | s::l,t=>by simp[runs,zcA l]
theorem zcy (l:List (Int × Int)) (t:Int):(runs t l).length=l.length:=by
 have:=congrArg List.length (zcA l t)
 rwa [yab,yab] at this
theorem zmH:∀ {l:List (Int × Int)} (t:Int),((l.map (·.1)).Pairwise (·<·))->∀ s∈runs t l,s.2=t+upto l s.1
 | [],t,_,s,h=>by simp[runs] at h
 | a::l,t,up,s,h=>by
  rw[yay,ybr] at up
  simp only[runs] at h
  rw[zdV]
  rcases yal.mp h with rfl | h
  ·rw[if_pos (ydx _),zhd fun u hu=>up.1 u.1 (yar hu)]
   simp
  ·have hk:s.1∈l.map (·.1):=by rw[<-zcA l (t+a.2)];exact yar h
   have:=up.1 _ hk
   rw[zmH (t+a.2) up.2 s h,if_pos (by ac_rfl)]
   ac_rfl
theorem zpa {l:List (Int × Int)} (h:(l.map (·.1)).Pairwise (·<·)):l.Pairwise fun s t=>s.1<t.1:=by rwa [ybh] at h
theorem zaJ {r:List (Int × Int)} (up:(r.map (·.1)).Pairwise (·<·)) (nn:∀ s∈r,0<=s.1) (d:Int):Sums.valOf (runs 0 r) d=upto r d:=by
 have keys:=zcA r 0
 have upr:(runs 0 r).Pairwise fun s t=>s.1<t.1:=zpa (by rw[keys];exact up)
 have t0:∀ s∈runs 0 r,0<=s.1:=fun s hs=>by
  have:s.1∈r.map (·.1):=by rw[<-keys];exact yar hs
  obtain ⟨u,hu,e⟩:=yag.mp this
  rw[<-e];exact nn u hu
 refine Sums.Val.one (Sums.zbu t0 d) ?_
 rcases zkh (-1) d r with k | ⟨s,hs,h1,h2,h3⟩
 ·have far:∀ s∈r,d<s.1:=fun s hs=>by
   have:=nn s hs
   rcases Int.lt_or_le d s.1 with c | c
   ·exact c
   ·have:=k s hs c;ac_rfl
  refine .inl ⟨zhd far,fun s hs=>?_⟩
  have:s.1∈r.map (·.1):=by rw[<-keys];exact yar hs
  obtain ⟨u,hu,e⟩:=yag.mp this
  rw[<-e];exact far u hu
 ·have:s.1∈(runs 0 r).map (·.1):=by rw[keys];exact yar hs
  obtain ⟨u,hu,e⟩:=yag.mp this
  obtain ⟨n,hn⟩:=ycj.mp hu
  have uv:=zmH 0 up u hu
  rw[zrI (y:=s.1) fun v hv=>⟨h3 v hv,fun z=>by ac_rfl⟩]
  refine .inr ⟨n,s.1,by rw[hn];rw[<-e];congr 1;exact Prod.ext rfl (by rw[uv];simp),h2,fun j v hv le=>?_⟩
  have hvk:v.1∈r.map (·.1):=by rw[<-keys];exact yar (yai hv)
  obtain ⟨w,hw,ew⟩:=yag.mp hvk
  have:=h3 w hw (by ac_rfl)
  rcases ydj j n with c | c | c
  ·have:=Stills.zmy upr hv hn c;left;ac_rfl
  ·subst c
   rw[hn] at hv
   cases hv
   right;exact ⟨e,ycz _⟩
  ·have:=Stills.zmy upr hn hv c;ac_rfl
end L2
namespace L2
open PySem PySem.Spec PyProof.Rows
open AutoSeq1 (wpAny_loadPart')
end L2
namespace L2
open PySem
noncomputable def csum (U f:Int->Int) (a b:Int):Int:=Sums.sum (fun d=>(U (d+1)-U d)*f d) a b
theorem zq2 {U f:Int->Int} {a b c:Int} (h1:a<=c) (h2:c<=b):csum U f a b=csum U f a c+csum U f c b:=Sums.sum_add h1 h2
theorem zrs {U f:Int->Int} {a b:Int} (h:b<=a):csum U f a b=0:=Sums.zsm h
noncomputable def zoI (b:BkT) (d:Int):Int:=if Spans.isIn b.spans d then 0 else Sums.valOf b.rates d
noncomputable def zoP (b:BkT) (d:Int):Int:=if Spans.isIn b.spans d then 0 else Sums.valOf b.lates d
noncomputable def zoX (b:BkT) (d:Int):Int:=if Spans.isIn b.spans d then 0 else p0 (upto b.dues (d-b.g)-upto b.pays d)
noncomputable def zfz (b:BkT) (P d:Int):Int:=zoI b d*P+zoP b d*mn P (zoX b d)
structure BOk (b:BkT):Prop where
 ru:b.rates.Pairwise fun s t=>s.1<t.1
 rn:∀ s∈b.rates,0<=s.1/\0<=s.2/\s.2<=1000000
 lu:b.lates.Pairwise fun s t=>s.1<t.1
 ln:∀ s∈b.lates,0<=s.1/\0<=s.2/\s.2<=1000000
 pu:(b.pays.map (·.1)).Pairwise (·<·)
 pn:∀ s∈b.pays,0<=s.1
 du:(b.dues.map (·.1)).Pairwise (·<·)
 dn:∀ s∈b.dues,0<=s.1
 jn:Spans.Joined b.spans
 sn:∀ s∈b.spans,0<=s.1
 g0:0<=b.g
 sz:b.rates.length+b.lates.length+b.pays.length+b.dues.length+2*b.spans.length<63
theorem zlD {t:List (Int × Int)} (h:∀ s∈t,0<=s.1/\0<=s.2/\s.2<=1000000) (d:Int):0<=Sums.valOf t d/\Sums.valOf t d<=1000000:=by
 rcases Sums.zbu (fun s hs=>(h s hs).1) d with ⟨e,_⟩ | ⟨i,x,e,_⟩
 ·rw[e];exact ⟨ydx _,by decide⟩
 ·exact (h _ (yai e)).2
theorem BOk.rt {b:BkT} (O:BOk b) (d:Int):0<=zoI b d/\zoI b d<=1000000:=by
 unfold zoI
 split
 ·exact ⟨ydx _,by decide⟩
 ·exact zlD O.rn d
theorem BOk.lt {b:BkT} (O:BOk b) (d:Int):0<=zoP b d/\zoP b d<=1000000:=by
 unfold zoP
 split
 ·exact ⟨ydx _,by decide⟩
 ·exact zlD O.ln d
noncomputable def shf (g:Int) (l:List (Int × Int)):List (Int × Int):=l.map fun s=>(s.1+g,s.2)
theorem zbW (g:Int) (l:List (Int × Int)) (d:Int):upto (shf g l) d=upto l (d-g):=by
 unfold upto shf
 rw[List.filter_map,ybn]
 congr 1
 rw[List.filter_congr (q:=fun s=>decide (s.1<=d-g)) fun s hs=>by
  show decide (s.1+g<=d)=decide (s.1<=d-g)
  exact decide_eq_decide.mpr ⟨fun h=>by ac_rfl,fun h=>by ac_rfl⟩]
 rfl
noncomputable def RF (H:Hp):List V->List Int->Prop:=LL fun v d=>∃ t ws,v=.ref t/\H t=some (.tup (.int d::ws))
theorem zn8 {K:W.Frag} {H:Hp} {xs:List V} {l:List (Int × Int)} (h:zu K H xs l):RF H xs (l.map (·.1)):=by
 induction h with
 | nil=>exact .nil
 | cons h _ ih=>exact .cons ⟨_,_,rfl,h⟩ ih
structure zp8 (ds:List Int) (d:Int) (n:Nat):Prop where
 le:n<=ds.length
 lo:∀ i x,i<n->ds[i]?=some x->x<=d
 hi:∀ i x,n<=i->ds[i]?=some x->d<x
theorem zp8.rows {l:List (Int × Int)} {d:Int} {n:Nat} (h:zp8 (l.map (·.1)) d n):Stills.Begun l d n :=
 ⟨by have:=h.le;rwa [yab] at this,fun i s hi hs=>h.lo i s.1 hi (by rw[yak,hs];rfl),fun i s hi hs=>h.hi i s.1 hi (by rw[yak,hs];rfl)⟩
theorem znT {ds:List Int} (up:ds.Pairwise (·<·)) {i j:Nat} {s t:Int} (hs:ds[i]?=some s) (ht:ds[j]?=some t) (ij:i<j):s<t:=by
 obtain ⟨hi,rfl⟩:=yac.mp hs
 obtain ⟨hj,rfl⟩:=yac.mp ht
 exact yaz.mp up i j hi hj ij
end L2
namespace L2
open PySem
theorem zgg:∀ {xs ys:List Int},xs.Nodup->(∀ x∈xs,x∈ys)->xs.length<=ys.length
 | [],_,_,_=>ydc _
 | x::xs,ys,nd,h=>by
  have hx:=h x yaj
  obtain ⟨nx,nd'⟩:=ybq.mp nd
  have:=zgg (ys:=ys.erase x) nd' fun z hz=>(yct (fun (q:z=x)=>nx (by rw[<-q];exact hz))).mpr (h z (yah _ hz))
  rw[yco hx] at this
  have:=ycr hx
  rw[yax]
  ac_rfl
theorem zkN:∀ es:List Er,(prs "rate" es).length+(prs "late" es).length+(prs "pay" es).length+(prs "due" es).length+2*(prs "still" es).length<=2*es.length
 | []=>by simp[prs]
 | e::es=>by
  have ih:=zkN es
  have st:∀ w:Str,(prs w (e::es)).length=(if isW w e=true then 1 else 0)+(prs w es).length:=fun w=>by
   unfold prs
   by_cases c:isW w e=true
   ·rw[ybc c,if_pos c];simp;ac_rfl
   ·rw[ybd c,if_neg c];simp
  rw[st,st,st,st,st,yax]
  obtain ⟨k,d,x⟩:=e
  have one:(if isW "rate" (k,d,x)=true then 1 else 0)+(if isW "late" (k,d,x)=true then 1 else 0)+(if isW "pay" (k,d,x)=true then 1 else 0)+(if isW "due" (k,d,x)=true then 1 else 0)+2*(if isW "still" (k,d,x)=true then 1 else 0)<=2:=by
   have one:∀ k:Ek,(if isW "rate" (k,0,0)=true then 1 else 0)+(if isW "late" (k,0,0)=true then 1 else 0)+(if isW "pay" (k,0,0)=true then 1 else 0)+(if isW "due" (k,0,0)=true then 1 else 0)+2*(if isW "still" (k,0,0)=true then 1 else 0)<=2:=fun k=>by cases k <;> decide
   exact one k
  ac_rfl
theorem zsJ {b:BkT} (I:zbY b) {f:Int} (f0:0<=f) (g0:0<=b.g) (day:∀ e∈b.es,f<=e.2.1) (rt:∀ w:Str,(w = "rate" \/ w = "late")->∀ s∈prs w b.es,0<=s.2/\s.2<=1000000) (len:b.es.length<=31):BOk b:=by
 have pd:∀ w:Str,∀ s∈prs w b.es,f<=s.1:=fun w s hs=>by
  obtain ⟨e,he,rfl⟩:=yag.mp hs
  exact day e (yaq.mp he).1
 have tb:∀ (w:Str) (t:List (Int × Int)),(w = "rate" \/ w = "late")->Stills.TabOf (prs w b.es) t/\t=(t.map (·.1)).map (fun d=>(d,Sums.valOf (prs w b.es) d))->(∀ s∈t,0<=s.1/\0<=s.2/\s.2<=1000000)/\t.length<=(prs w b.es).length:=fun w t hw ⟨T,e⟩=>by
  have nn:∀ s∈prs w b.es,0<=s.1/\0<=s.2/\s.2<=1000000:=fun s hs=>⟨by have:=pd w s hs;ac_rfl,rt w hw s hs⟩
  refine ⟨fun s hs=>?_,?_⟩
  ·have d0:0<=s.1:=T.nn (fun s hs=>(nn s hs).1) s hs
   rw[e] at hs
   obtain ⟨d,_,rfl⟩:=yag.mp hs
   exact ⟨d0,zlD nn d⟩
  ·have nd:(t.map (·.1)).Nodup:=by
    have:=T.up
    rw[<-ybh (f:=fun s:Int × Int=>s.1) (R:=(·<·))] at this
    exact Sby.zgl this
   have:=zgg nd fun k hk=>by
    obtain ⟨s,hs,e2⟩:=yag.mp hk
    obtain ⟨u,hu,e3⟩:=(T.days k).mp ⟨s,hs,e2.symm⟩
    exact yag.mpr ⟨u,hu,e3.symm⟩
   rwa [yab,yab] at this
 have tl:∀ {r l:List (Int × Int)},Sby.Tab r l->r.length<=l.length:=fun {r l} T=>by
  have:=zgg (Sby.zgl T.up) fun k hk=>(T.mem k).mp hk
  rwa [yab,yab] at this
 obtain ⟨r1,r2⟩:=tb "rate" b.rates (.inl rfl) I.rates
 obtain ⟨l1,l2⟩:=tb "late" b.lates (.inr rfl) I.lates
 have fr:∀ d,d<=mvd (prs "still" b.es) d:=fun d=>(zf1 _ d).from_
 have wl:=zkN b.es
 have dl:=tl I.dues
 have pl:=tl I.pays
 have jl:=Stills.zpV I.spans.1 I.spans.2
 have ml:(mvp (mvd (prs "still" b.es)) (prs "due" b.es)).length=(prs "due" b.es).length:=yab ..
 refine ⟨I.rates.1.up,r1,I.lates.1.up,l1,I.pays.up,fun s hs=>?_,I.dues.up,fun s hs=>?_,I.spans.1,fun s hs=>?_,g0,by ac_rfl⟩
 ·obtain ⟨u,hu,e⟩:=yag.mp ((I.pays.mem s.1).mp (yar hs))
  have:=pd _ u hu
  ac_rfl
 ·obtain ⟨u,hu,e⟩:=yag.mp ((I.dues.mem s.1).mp (yar hs))
  obtain ⟨v,hv,rfl⟩:=yag.mp hu
  have:=pd _ v hv
  have:=fr v.1
  have e':mvd (prs "still" b.es) v.1=s.1:=e
  ac_rfl
 ·have lt:s.1<s.2:=I.spans.1.up s hs
  obtain ⟨u,hu,h1,h2⟩:=(I.spans.2 s.1).mp ⟨s,hs,ydx _,lt⟩
  have:=pd _ u hu
  ac_rfl
end L2
namespace L2
open PySem
noncomputable abbrev Q4:=Int × Int × Int × Int
noncomputable def ddE (es:List Er) (d:Int):Q4:=(Sby.sm (prs "out" es) d,Sby.sm (prs "fee" es) d,if d∈dys "turn" es then 1 else 0,Sby.sm (prs "pay" es) d)
noncomputable def ddo (b:BkT) (d:Int):Q4:=ddE b.es d
noncomputable def doD (u:Int) (q:Q4) (s:Int × Int):Int × Int :=
 let s1:=Dbt.step u .lend q.1 s.1 s.2
 let s2:=Dbt.step u .fee q.2.1 s1.1 s1.2
 let s3:=if q.2.2.1=1 then Dbt.step u .turn 0 s2.1 s2.2 else s2
 Dbt.step u .take q.2.2.2 s3.1 s3.2
theorem zqK {u:Int} {q:Q4} {s:Int × Int} (hu:0<u) (l0:0<=q.1) (g:Dbt.Good u s.1 s.2):Dbt.Good u (doD u q s).1 (doD u q s).2:=by
 unfold doD
 have g1:=Dbt.zcB (w:=.lend) hu (show Dbt.Okd .lend q.1 from l0) g
 have g2:=Dbt.zcB (w:=.fee) (x:=q.2.1) hu True.intro g1
 dsimp only
 split
 ·exact Dbt.zcB (w:=.take) hu True.intro (Dbt.zcB (w:=.turn) (x:=0) hu True.intro g2)
 ·exact Dbt.zcB (w:=.take) hu True.intro g2
theorem clamp {u m n:Int} (g:Dbt.Good u m n):Dbt.mn m (Dbt.mx 0 (n / u))=m:=by
 have h:=g.2
 unfold Dbt.mn
 rw[if_neg (by ac_rfl)]
theorem zqM {u:Int} {s:Int × Int} (g:Dbt.Good u s.1 s.2):doD u (0,0,0,0) s=s:=by
 obtain ⟨m,n⟩:=s
 have c:Dbt.mn m (Dbt.mx 0 (n / u))=m:=clamp g
 simp[doD,Dbt.step,c]
section
variable (U:Int->Int) (u:Int) (b:BkT)
noncomputable def stB:Nat->Int × Int
 | 0=>(0,0)
 | k+1=>let s:=doD u (ddo b k) (stB k);(s.1,s.2+(U (k+1)-U k)*zfz b s.1 k)
noncomputable def stA (k:Nat):Int × Int:=doD u (ddo b k) (stB U u b k)
def zqz (d:Int):Prop:=ddo b d=(0,0,0,0)
end
structure AOk (U:Int->Int) (u:Int) (b:BkT):Prop where
 hu:0<u
 out0:∀ d,0<=Sby.sm (prs "out" b.es) d
 up:∀ d:Nat,U d<=U (d+1)
 ok:BOk b
section
variable {U:Int->Int} {u:Int} {b:BkT}
theorem lk0 (d:Int):0<=zoX b d:=by
 unfold zoX p0
 split
 ·exact ydx _
 ·split <;> ac_rfl
theorem zs9 (O:BOk b) {P:Int} (p:0<=P) (d:Int):0<=zfz b P d:=by
 unfold zfz
 have h1:=O.rt d
 have h2:=O.lt d
 have h3:=lk0 (b:=b) d
 have h4:0<=mn P (zoX b d):=by unfold mn;split <;> ac_rfl
 have:=Int.mul_nonneg h1.1 p
 have:=Int.mul_nonneg h2.1 h4
 ac_rfl
theorem zlP (A:AOk U u b):∀ k,Dbt.Good u (stB U u b k).1 (stB U u b k).2
 | 0=>Dbt.good0 u
 | k+1=>by
  have g:=zqK (q:=ddo b k) A.hu (A.out0 k) (zlP A k)
  have w:0<=(U (k+1)-U k)*zfz b (doD u (ddo b k) (stB U u b k)).1 k:=Int.mul_nonneg (by have:=A.up k;ac_rfl) (zs9 A.ok g.1 k)
  exact Dbt.zcB (w:=.grow) A.hu (show Dbt.Okd .grow _ from w) g
theorem zqq (A:AOk U u b) {k:Nat} (h:zqz b k):stA U u b k=stB U u b k:=by
 unfold stA
 rw[h]
 exact zqM (zlP A k)
theorem zql (k:Nat):stB U u b (k+1)=((stA U u b k).1,(stA U u b k).2+(U (k+1)-U k)*zfz b (stA U u b k).1 k):=rfl
theorem zq3 (f:Int->Int) (a:Int):csum U f a (a+1)=(U (a+1)-U a)*f a:=by
 unfold csum Sums.sum
 rw[show (a+1-a).toNat=1 by ac_rfl]
 simp[Sums.S]
theorem run (A:AOk U u b) (s:Nat):∀ n:Nat,(∀ k:Nat,s<=k->k<s+n->zqz b k)->stB U u b (s+n)=((stB U u b s).1,(stB U u b s).2+csum U (zfz b (stB U u b s).1) s (s+n:Nat))
 | 0,_=>by rw[zrs (by ac_rfl)];simp
 | n+1,h=>by
  have ih:=run A s n fun k h1 h2=>h k h1 (by ac_rfl)
  rw[show s+(n+1)=(s+n)+1 from rfl,zql,zqq A (h (s+n) (by ac_rfl) (by ac_rfl)),ih]
  have e2:csum U (zfz b (stB U u b s).1) s (((s+n)+1:Nat):Int)=csum U (zfz b (stB U u b s).1) s ((s+n:Nat):Int)+(U (((s+n:Nat):Int)+1)-U ((s+n:Nat):Int))*zfz b (stB U u b s).1 ((s+n:Nat):Int):=by
   rw[show (((s+n)+1:Nat):Int)=((s+n:Nat):Int)+1 by ac_rfl,zq2 (a:=(s:Int)) (b:=((s+n:Nat):Int)+1) (c:=((s+n:Nat):Int)) (by ac_rfl) (by ac_rfl),zq3]
  rw[e2]
  exact Prod.ext rfl (Int.add_assoc ..)
theorem first (A:AOk U u b) {e:Int} (e0:0<=e) (h:∀ d,0<=d->d<e->zqz b d):stB U u b e.toNat=(0,0+csum U (zfz b 0) 0 e):=by
 have r:=run A 0 e.toNat fun k _ h2=>h k (by ac_rfl) (by ac_rfl)
 rw[show ((0+e.toNat:Nat):Int)=e by ac_rfl,ydo] at r
 exact r
end
theorem znL (d:Int):∀ ns:List Int,inV (.int d) (ns.map V.int)=decide (d∈ns)
 | []=>rfl
 | n::ns=>by
  have e1:inV (.int d) ((n::ns).map V.int)=(eqV (.int n) (.int d) || inV (.int d) (ns.map V.int)):=rfl
  have e2:eqV (.int n) (.int d)=decide (n=d):=by first | rfl | simp[eqV]
  rw[e1,e2,znL d ns]
  by_cases c:n=d
  ·subst c;simp
  ·have c':¬ d=n:=fun z=>c z.symm
   simp[c,c']
end L2
namespace L2
open PySem PySem.Spec PyProof.Rows
namespace zad
noncomputable def orb (M:Nat):Nat->Nat->Nat
 | 0,x=>x
 | n+1,x=>orb M n ((x*5+1) % M)
theorem zhZ (M:Nat):∀ m n x,orb M (m+n) x=orb M n (orb M m x)
 | 0,n,x=>by rw[ydo];rfl
 | m+1,n,x=>by rw[Nat.add_right_comm];exact zhZ M m n _
def Sz (M:Nat):Prop:=M=8\/M=16\/M=32\/M=64\/M=128
theorem zry {M:Nat} (h:Sz M):(∀ e,e<M->∃ m,m<M/\orb M m 0=e)/\orb M M 0=0:=by
 have k:∀ M:Nat,((yas M).all fun e=>(yas M).any fun m=>orb M m 0 == e)=true->∀ e,e<M->∃ m,m<M/\orb M m 0=e:=fun M q e he=>by
  have:=ycp.mp q e (ycq.mpr he)
  obtain ⟨m,hm,z⟩:=ybv.mp this
  exact ⟨m,ycq.mp hm,by simpa using z⟩
 rcases h with rfl | rfl | rfl | rfl | rfl
 ·exact ⟨k 8 (by decide +kernel),by decide +kernel⟩
 ·exact ⟨k 16 (by decide +kernel),by decide +kernel⟩
 ·exact ⟨k 32 (by decide +kernel),by decide +kernel⟩
 ·exact ⟨k 64 (by decide +kernel),by decide +kernel⟩
 ·exact ⟨k 128 (by decide +kernel),by decide +kernel⟩
theorem zsu {M:Nat} (h:Sz M) {x e:Nat} (hx:x<M) (he:e<M):∃ m,m<M/\orb M m x=e:=by
 obtain ⟨A,B⟩:=zry h
 obtain ⟨m1,h1,e1⟩:=A x hx
 obtain ⟨m2,h2,e2⟩:=A e he
 by_cases c:m1<=m2
 ·refine ⟨m2-m1,by ac_rfl,?_⟩
  rw[<-e1,<-zhZ,show m1+(m2-m1)=m2 by ac_rfl]
  exact e2
 ·refine ⟨M-m1+m2,by ac_rfl,?_⟩
  rw[<-e1,<-zhZ,show m1+(M-m1+m2)=M+m2 by ac_rfl,zhZ,B]
  exact e2
noncomputable def itl (mask:Nat):Nat->Nat->Nat->Nat × Nat
 | 0,i,p=>(i,p)
 | m+1,i,p=>itl mask m (SetTable.leap mask i p).1 (SetTable.leap mask i p).2
theorem zn7 (mask:Nat):∀ m n i p,itl mask (m+n) i p=itl mask n (itl mask m i p).1 (itl mask m i p).2
 | 0,n,i,p=>by rw[ydo];rfl
 | m+1,n,i,p=>by rw[Nat.add_right_comm];exact zn7 mask m n _ _
theorem zlB (mask:Nat):∀ m i,itl mask m i 0=(orb (mask+1) m i,0)
 | 0,i=>rfl
 | m+1,i=>by
  have:=zlB mask m ((i*5+1) % (mask+1))
  show itl mask m (SetTable.leap mask i 0).1 (SetTable.leap mask i 0).2=_
  have e:SetTable.leap mask i 0=((i*5+1) % (mask+1),0):=by simp[SetTable.leap]
  rw[e]
  exact this
theorem zkE (mask:Nat):∀ m i p,(itl mask m i p).2=p / 32 ^ m/\(i<=mask->(itl mask m i p).1<=mask)
 | 0,i,p=>⟨by show p=_;simp,fun h=>h⟩
 | m+1,i,p=>by
  obtain ⟨a,b⟩:=zkE mask m (SetTable.leap mask i p).1 (SetTable.leap mask i p).2
  refine ⟨?_,fun _=>b ?_⟩
  ·show (itl mask m (SetTable.leap mask i p).1 (SetTable.leap mask i p).2).2=_
   rw[a]
   show p / 32 / 32 ^ m=_
   rw[Nat.div_div_eq_div_mul,Nat.pow_succ,Nat.mul_comm]
  ·exact Nat.le_of_lt_succ (Nat.mod_lt _ (Nat.succ_pos _))
theorem zmt {mask:Nat} {owner:Array (Option Nat)} {e:Nat} (he:owner.getD e (some 0)=none):∀ (m fuel i p:Nat),m<fuel->(itl mask m i p).1=e->∃ j,SetTable.layClean.free mask owner fuel i p=some j/\owner.getD j (some 0)=none
 | m,0,i,p,hm,_=>absurd hm (Nat.not_lt_zero _)
 | m,fuel+1,i,p,hm,hi=>by
  unfold SetTable.layClean.free
  cases q:(yas (SetTable.runEnd mask i+1-i)).find? fun k=>(owner.getD (i+k) (some 0)).isNone with
  | some k =>
   have:=List.find?_some q
   exact ⟨i+k,rfl,by simpa using this⟩
  | none =>
   dsimp only
   cases m with
   | zero =>
    exfalso
    have ie:i=e:=hi
    have:=List.find?_eq_none.mp q 0 (ycq.mpr (by unfold SetTable.runEnd;split <;> ac_rfl))
    rw[Nat.add_zero,ie,he] at this
    exact this rfl
   | succ m=>exact zmt he m fuel _ _ (by ac_rfl) hi
theorem zo5 {M:Nat} (h:Sz M) {owner:Array (Option Nat)} {e i p:Nat} (he:owner.getD e (some 0)=none) (el:e<M) (hi:i<M) (hp:p<2 ^ 64):∃ j,SetTable.layClean.free (M-1) owner (SetTable.turns (M-1)) i p=some j/\owner.getD j (some 0)=none:=by
 have M0:M-1+1=M:=by rcases h with rfl | rfl | rfl | rfl | rfl <;> rfl
 obtain ⟨a,b⟩:=zkE (M-1) 13 i p
 have z:p / 32 ^ 13=0:=Nat.div_eq_of_lt (ydb hp (by decide))
 rw[z] at a
 have i13:=b (by ac_rfl)
 obtain ⟨m,hm,hr⟩:=zsu h (x:=(itl (M-1) 13 i p).1) (e:=e) (by ac_rfl) el
 refine zmt he (13+m) _ i p (by unfold SetTable.turns;ac_rfl) ?_
 rw[zn7,a,zlB,M0]
 exact hr
theorem zp4 {l:List (Option Nat)} {j k:Nat} (h:l[j]?=some none):((l.set j (some k)).filterMap id).Perm (l.filterMap id++[k]):=by
 induction l generalizing j with
 | nil=>simp at h
 | cons a l ih =>
  cases j with
  | zero =>
   obtain rfl:a=none:=by simpa using h
   simp only[List.set_cons_zero,yba,id]
   exact (List.perm_append_comm (l₁:=[k]) (l₂:=l.filterMap id))
  | succ j =>
   have:=ih (j:=j) (by simpa using h)
   rw[List.set_cons_succ]
   cases a with
   | none=>simpa [yba] using this
   | some x=>simpa [yba] using this.cons x
theorem zna {l:List (Option Nat)} (h:(l.filterMap id).length<l.length):∃ e,e<l.length/\l[e]?=some none:=by
 induction l with
 | nil=>simp at h
 | cons a l ih =>
  cases a with
  | none=>exact ⟨0,by simp,rfl⟩
  | some x =>
   obtain ⟨e,h1,h2⟩:=ih (by simpa [yba] using h)
   exact ⟨e+1,by simpa using h1,by simpa using h2⟩
theorem getD_none {owner:Array (Option Nat)} {j:Nat}:owner.getD j (some 0)=none↔owner.toList[j]?=some none:=by
 rw[yef]
 by_cases h:j<owner.size
 ·simp[yeg,h]
 ·simp[yeg,h]
theorem zrG (h:Int):SetTable.bits h<2 ^ 64:=by
 unfold SetTable.bits
 have:=ydz h (show (0:Int)<2 ^ 64 by decide)
 have:=ydy h (show (2 ^ 64:Int)≠0 by decide)
 ac_rfl
theorem zoa {M:Nat} (h:Sz M) (hs:Array Int) (hn:hs.size<=M):∃ owner,SetTable.layClean (M-1) hs=some owner/\owner.size=M/\(owner.toList.filterMap id).Perm (yas hs.size):=by
 have M0:M-1+1=M:=by rcases h with rfl | rfl | rfl | rfl | rfl <;> rfl
 have gen:∀ (l:List Int) (owner:Array (Option Nat)) (k:Nat),owner.size=M->(owner.toList.filterMap id).Perm (yas k)->k+l.length<=M ->
   ∃ ow',l.foldl (fun (acc:Option (Array (Option Nat) × Nat)) h=>acc.bind fun r=>(SetTable.layClean.free (M-1) r.1 (SetTable.turns (M-1)) (SetTable.bits h % M) (SetTable.bits h)).bind fun j=>some (r.1.setIfInBounds j (some r.2),r.2+1)) (some (owner,k))=some (ow',k+l.length)/\ow'.size=M/\(ow'.toList.filterMap id).Perm (yas (k+l.length)):=by
  intro l
  induction l with
  | nil=>intro owner k so pm _;exact ⟨owner,rfl,so,pm⟩
  | cons a l ih =>
   intro owner k so pm hk
   rw[yax] at hk
   obtain ⟨e,el,hee⟩:=zna (l:=owner.toList) (by rw[pm.length_eq,yby,yeb];ac_rfl)
   rw[yeb] at el
   obtain ⟨j,hj,hjn⟩:=zo5 h (i:=SetTable.bits a % M) (getD_none.mpr hee) (by ac_rfl) (Nat.mod_lt _ (by rcases h with rfl | rfl | rfl | rfl | rfl <;> decide)) (zrG a)
   obtain ⟨ow',e1,e2,e3⟩:=ih (owner.setIfInBounds j (some k)) (k+1) (by simpa using so) (by
    rw[Array.toList_setIfInBounds,ycs]
    exact (zp4 (getD_none.mp hjn)).trans (pm.append_right [k])) (by ac_rfl)
   refine ⟨ow',?_,e2,?_⟩
   ·rw[ybe]
    simp only[Option.bind_some,hj]
    rw[e1,yax,show k+1+l.length=k+(l.length+1) by ac_rfl]
   ·rw[yax,show k+(l.length+1)=k+1+l.length by ac_rfl]
    exact e3
 obtain ⟨ow,e1,e2,e3⟩:=gen hs.toList (Array.replicate M none) 0 (by simp) (by
  rw[Array.toList_replicate]
  have:(List.replicate M (none:Option Nat)).filterMap id=[]:=by
   rw[List.filterMap_eq_nil_iff]
   intro a ha
   exact List.eq_of_mem_replicate ha
  rw[this]
  exact .nil) (by rw[yeb];ac_rfl)
 refine ⟨ow,?_,e2,?_⟩
 ·unfold SetTable.layClean
  rw[<-Array.foldl_toList,M0]
  have e1':=congrArg (Option.map Prod.fst) e1
  exact e1'
 ·rw[ydo,yeb] at e3
  exact e3
theorem zqZ (owner:Array (Option Nat)) (m:Nat) (hm:owner.size=m):(((yas m).filterMap fun j=>(owner.getD j none).map (fun k=>(j,k))).map (·.2))=owner.toList.filterMap id:=by
 rw[List.map_filterMap]
 have e:(fun j=>Option.map (fun x:Nat × Nat=>x.2) ((owner.getD j none).map fun k=>(j,k)))=fun j=>owner.getD j none:=by
  funext j
  cases owner.getD j none <;> rfl
 rw[e]
 subst hm
 have g:∀ (l:List (Option Nat)),(yas l.length).filterMap (fun j=>l.getD j none)=l.filterMap id:=fun l=>by
  induction l with
  | nil=>rfl
  | cons a l ih =>
   rw[yax,List.range_succ_eq_map,yba,List.filterMap_map,yba]
   have:((fun j=>(a::l).getD j none) ∘ Nat.succ)=fun j=>l.getD j none:=by funext j;simp
   rw[this,ih]
   rfl
 have:=g owner.toList
 rw[yeb] at this
 rw[<-this]
 congr 1
 funext j
 by_cases h:j<owner.size
 ·simp[yeg,h,List.getD]
 ·simp[yeg,h,List.getD]
theorem zhI {M:Nat} (h:Sz M) {finger moves:Nat} {led plain:Bool} (hs:Array Int) (hn:hs.size<M):∃ t order,SetTable.laid (M-1) finger moves led plain hs=some (t,order)/\order.toList.Perm (yas hs.size)/\t.fits hs.size=true/\t.led=led/\t.dummies=#[]/\Up t.place/\t.mask=M-1:=by
 have M0:M-1+1=M:=by rcases h with rfl | rfl | rfl | rfl | rfl <;> rfl
 obtain ⟨ow,e1,e2,e3⟩:=zoa h hs (by ac_rfl)
 unfold SetTable.laid
 rw[e1,M0]
 have l2:=zqZ ow M e2
 refine ⟨_,_,rfl,?_,?_,rfl,rfl,?_,rfl⟩
 ·rw[ycw,l2]
  exact e3
 ·have len:((yas M).filterMap fun j=>(ow.getD j none).map (fun k=>(j,k))).length=hs.size:=by
   have:=congrArg List.length l2
   rw[yab,e3.length_eq,yby] at this
   exact this
  simp only[SetTable.fits,SetTable.fill,yao,yab,Bool.and_eq_true,beq_iff_eq,decide_eq_true_eq]
  refine ⟨len,?_⟩
  rw[List.length_nil,Nat.add_zero,len]
  ac_rfl
 ·unfold Up
  rw[ycw]
  exact znH ow M
theorem zgJ {es:Array (Int × Value)} {order:Array Nat} (h:order.toList.Perm (yas es.size)):(order.filterMap (es[·]?)).toList.Perm es.toList:=by
 rw[Array.toList_filterMap,<-filterMap_getElem?_range es]
 exact h.filterMap _
theorem ziE {n:Nat} (h:n<128):Sz (SetTable.sizeAbove n)/\n<SetTable.sizeAbove n:=by
 have all:((yas 128).all fun n=>decide ((SetTable.sizeAbove n=8\/SetTable.sizeAbove n=16\/SetTable.sizeAbove n=32\/SetTable.sizeAbove n=64\/SetTable.sizeAbove n=128)/\n<SetTable.sizeAbove n))=true:=by decide +kernel
 have:=ycp.mp all n (ycq.mpr h)
 simpa [Sz] using this
end zad
namespace zad
section
variable {prog:Program} {w:World} {A:Around} {E:Value->Shared->Prop} {s:Shared} {a b:Addr} {ms ns:List Int}
theorem zjg {h:Heap} {o1:Obj} {e1:Array (Int × Value)} {p1:Nat} {u1:SetTable} (q1:h.get? a=some o1) (q3:o1.data=.set e1 p1 u1) (e2:Array (Int × Value)) (u2:SetTable):(h.update a (Obj.putSet e2 u2)).get? a=some { o1 with data:=.set e2 (p1+1) u2 }:=by
 have z:=ydt (Obj.putSet e2 u2) q1 (by rw[putSet_of e2 u2 q3];rfl)
 rw[putSet_of e2 u2 q3] at z
 exact z
theorem zi7 {h:Heap} {o:Obj} {es es2:Array (Int × Value)} {ep:Nat} {t t2:SetTable} (ho:h.get? a=some o) (hex:o.ExactSet) (hd:o.data=.set es ep t) (hel:ElemsOf (intKind prog w) es2.toList) (hb:es2.size<scanBound) (hf:t2.fits es2.size=true) (T:Tab (w.params.followText "set-order") t2) (nd:(es2.toList.map fun e=>intOf e.2).Nodup):zao prog w (h.update a (Obj.putSet es2 t2)) a (es2.toList.map fun e=>intOf e.2) :=
 ⟨⟨_,es2,ep+1,t2,⟨zjg ho hd es2 t2,hex,rfl⟩,⟨hel,hb,hf⟩,T,rfl⟩,nd⟩
def zcb (w:World) (h:Heap) (a:Addr) (M:Nat):Prop:=∃ o ep t,(h.get? a=some o/\o.ExactSet/\o.data=.set #[] ep t)/\t.fits 0=true/\Tab (w.params.followText "set-order") t/\t.mask=M-1/\Sz M
theorem zcb.zqU {h:Heap} {M:Nat} (F:zcb w h a M):zao prog w h a []:=by
 obtain ⟨o,ep,t,h1,h2,h3,h4,h5⟩:=F
 exact ⟨⟨o,#[],ep,t,h1,⟨fun e he=>by simp at he,by decide,h2⟩,h3,rfl⟩,List.Pairwise.nil⟩
theorem zm0 {Q:Unit->Shared->Prop} {wanted M:Nat} (F:zcb w s.heap a M) (hw:wanted<128) (hQ:∀ h',Heap.SameBut a s.heap h'->zcb w h' a (SetTable.sizeAbove wanted)->Q () { s with heap:=h' }):wpAny (model prog w) A (setRelay a wanted) Q E s:=by
 obtain ⟨o,ep,t,⟨ho,hex,hd⟩,hf,T,hm,sM⟩:=F
 obtain ⟨sz,lt⟩:=ziE hw
 obtain ⟨t',order,e1,e2,e3,e4,e5,e6,e7⟩:=zhI (finger:=t.finger) (moves:=t.movedTo (SetTable.sizeAbove wanted-1)) (led:=t.led) (plain:=t.plain) sz ((#[]:Array (Int × Value)).map (·.1)) (by rw[yeh];exact ydd (ydc _) lt)
 rw[yeh] at e2 e3
 have pm:=zgJ (es:=#[]) e2
 have zz:order.filterMap ((#[]:Array (Int × Value))[·]?)=#[]:=by
  have:=pm.eq_nil
  exact Array.toList_inj.mp this
 unfold setRelay
 refine wpAny_bind (wpAny_setState_of ho hd hf ?_)
 dsimp only
 refine zau (by rcases sz with e | e | e | e | e <;> rw[e,sizeLine_eq] <;> decide) (wpAny_bind ?_)
 unfold SetTable.relaid
 rw[e1]
 change wpAny _ _ (ite _ _ _) _ _ _
 refine zau (by rw[zz];simp) (wpAny_pure ?_)
 rw[zz]
 refine wpAny_storeSet_of ho hd ?_ (ydc _)
 exact hQ _ (Heap.SameBut.update _ a _) ⟨_,ep+1,t',⟨zjg ho hd #[] t',hex,rfl⟩,e3,⟨by rw[e4];exact T.led,e5,fun _=>e6⟩,e7,sz⟩
theorem zoW {Q:Unit->Shared->Prop} {M n:Nat} (F:zcb w s.heap a M) (hn:n<64) (hQ:∀ h' M',Heap.SameBut a s.heap h'->zcb w h' a M'->n<M'->Q () { s with heap:=h' }):wpAny (model prog w) A (setRoomFor a n) Q E s:=by
 obtain ⟨o,ep,t,⟨ho,hex,hd⟩,hf,T,hm,sz⟩:=id F
 unfold setRoomFor
 refine wpAny_bind (wpAny_setState_of ho hd hf ?_)
 dsimp only
 have pl:t.place.size=0:=by
  simp only[SetTable.fits,Bool.and_eq_true,beq_iff_eq] at hf
  exact hf.1
 have fl:t.fill=0:=by
  unfold SetTable.fill
  rw[pl,T.dum]
  rfl
 unfold SetTable.roomFor
 rw[fl,pl,hm]
 by_cases c:(0+n)*5>=(M-1)*3
 ·rw[if_pos c]
  refine zm0 F (by ac_rfl) fun h' sb F'=>hQ h' _ sb F' ?_
  have:=(ziE (n:=(0+n)*2) (by ac_rfl)).2
  ac_rfl
 ·rw[if_neg c]
  exact wpAny_pure (hQ s.heap M (Heap.SameBut.refl a s.heap) F (by ac_rfl))
theorem zno {Q:Unit->Shared->Prop} {each:Sem Unit} {M:Nat} (F:zcb w s.heap a M) (S:zao prog w s.heap b ms) (ne:a≠b) (hm:ms.length<64)
  (hQ:∀ h' ms',Heap.SameBut a s.heap h'->zao prog w h' a ms'->ms'.Perm ms->Q () { s with heap:=h' }):wpAny (model prog w) A (setMerge a b each) Q E s:=by
 obtain ⟨⟨o,es,ep,t,⟨ho,hex,hd⟩,⟨hel,hb,hf⟩,T,rfl⟩,nd⟩:=id S
 rw[yab,yeb] at hm
 unfold setMerge
 refine zau (by simpa using ne) ?_
 refine wpAny_bind (wpAny_setState_of ho hd hf ?_)
 dsimp only
 by_cases em:es.isEmpty
 ·refine zdP em (wpAny_pure ?_)
  have e0:es=#[]:=by simpa using em
  subst e0
  exact hQ s.heap [] (Heap.SameBut.refl a s.heap) F.zqU (.refl _)
 ·refine zau em (wpAny_bind (zoW F hm fun h' M' sb F' lt=>?_))
  obtain ⟨o1,ep1,t1,⟨ho1,hex1,hd1⟩,hf1,T1,hm1,sz1⟩:=F'
  refine wpAny_bind (wpAny_setState_of ho1 hd1 hf1 ?_)
  dsimp only
  have pl:t1.place.size=0:=by
   simp only[SetTable.fits,Bool.and_eq_true,beq_iff_eq] at hf1
   exact hf1.1
  have fl:t1.fill=0:=by
   unfold SetTable.fill
   rw[pl,T1.dum]
   rfl
  have rd:t1.road t≠.oneByOne:=by
   unfold SetTable.road
   rw[fl]
   simp only[bne_self_eq_false,Bool.false_eq_true,↓reduceIte]
   split <;> (intro z;cases z)
  cases q:t1.road t with
  | oneByOne=>exact absurd q rd
  | slotForSlot =>
   dsimp only
   refine wpAny_storeSet_of ho1 hd1 ?_ (fits_of_scanBound hb)
   refine hQ _ _ (sb.trans (Heap.SameBut.update _ a _)) (zi7 ho1 hex1 hd1 hel hb hf ⟨?_,T.dum,fun z=>T.up ?_⟩ nd) (.refl _)
   ·show (t1.led && t.led)=_
    rw[T1.led,T.led,Bool.and_self]
   ·have:(t1.plain && t.plain)=true:=z
    simp only[Bool.and_eq_true] at this
    exact this.2
  | clean =>
   dsimp only
   obtain ⟨t',order,e1,e2,e3,e4,e5,e6,e7⟩:=zhI (finger:=t1.finger) (moves:=t1.moves) (led:=t1.led && t.led) (plain:=t1.plain && t.plain) sz1 (es.map (·.1)) (by rw[yeh];exact lt)
   rw[yeh] at e2 e3
   have pm:=zgJ e2
   have zz:(order.filterMap (es[·]?)).size=es.size:=by have:=pm.length_eq;rwa [yeb,yeb] at this
   rw[hm1,e1]
   refine wpAny_bind ?_
   change wpAny _ _ (ite _ _ _) _ _ _
   refine zau (by rw[zz];simp) (wpAny_pure ?_)
   refine wpAny_storeSet_of ho1 hd1 ?_ (by rw[zz];exact fits_of_scanBound hb)
   have q2:=pm.map fun e=>intOf e.2
   refine hQ _ _ (sb.trans (Heap.SameBut.update _ a _)) (zi7 ho1 hex1 hd1 (hel.perm pm) (by rw[zz];exact hb) (by rw[zz];exact e3) ⟨by rw[e4,T1.led,T.led,Bool.and_self],e5,fun _=>e6⟩ (q2.nodup_iff.mpr nd)) q2
end
end zad
namespace zad
section
variable {prog:Program} {w:World} {A:Around} {E:Value->Shared->Prop} {s:Shared} {a b:Addr} {ms ns:List Int}
theorem zfY {M:Model} {α β:Type} {l:List α} {b:β} {f:α->β->Sem (ForInStep β)} {Q:β->Shared->Prop} (h:∀ x∈l,f x b=pure (.yield b)) (q:Q b s):wpAny M A (forIn l b f) Q E s:=by
 induction l with
 | nil=>exact wpAny_pure q
 | cons x l ih =>
  rw[yca]
  refine wpAny_bind ?_
  rw[h x yaj]
  exact wpAny_pure (ih fun y hy=>h y (yah _ hy))
theorem zmT {Q:Array (Int × Value)->Shared->Prop} {o:Obj} {es:Array (Int × Value)} {ep:Nat} {t:SetTable} (ho:s.heap.get? b=some o) (hd:o.data=.set es ep t) (hf:t.fits es.size=true) (T:Tab (w.params.followText "set-order") t)
  (hQ:∀ es' d,es'.toList.Perm es.toList->Q es' { s with drawn:=d }):wpAny (model prog w) A (setWalk b) Q E s:=by
 unfold setWalk
 refine wpAny_bind (wpAny_setState_of ho hd hf ?_)
 unfold setsByText
 refine wpAny_bind (wpAny_bind (wpAny_askSetting (wpAny_pure ?_)))
 cases hb:w.params.followText "set-order" with
 | true =>
  rw[show (model prog w).w.params.followText "set-order" = true from hb,if_pos rfl]
  refine wpAny_bind (wpAny_askSetting (wpAny_pure ?_))
  exact hQ _ s.drawn (zfe _ _)
 | false =>
  rw[show (model prog w).w.params.followText "set-order" = false from hb,if_neg (by simp)]
  split
  ·refine wpAny_bind (zhS es.size es.toList s _ (yeb) fun l d pm=>wpAny_pure ?_)
   exact hQ l.toArray d (by rw[ycw];exact pm)
  ·refine wpAny_bind ?_
   change wpAny _ _ (ite _ _ _) _ _ _
   have hl:t.led=true:=by rw[T.led,hb];rfl
   refine zau (by rw[hl];simp) (wpAny_pure (wpAny_pure ?_))
   exact hQ es s.drawn (.refl _)
end
end zad
namespace zad
theorem zao.ty {prog:Program} {w:World} {s:Shared} {a:Addr} {ms:List Int} (S:zao prog w s.heap a ms):s.TypeIs (.ref a) "set" := by
 obtain ⟨⟨o,es,ep,t,⟨ho,hex,hd⟩,_⟩,_⟩:=S
 exact ⟨o,ho,hex.1⟩
section
variable {prog:Program} {w:World} {A:Around} {E:Value->Shared->Prop} {s:Shared} {a b:Addr} {ms ns:List Int}
theorem zif {Q:Bool->Shared->Prop} (ty:s.TypeIs (.ref a) "set") (q:Q true s):wpAny (model prog w) A (Builtin.Frozenset.isAnySet (.ref a)) Q E s:=by
 unfold Builtin.Frozenset.isAnySet
 refine wpAny_bind (wpAny_isInstance (b:=true) ty sub_set_self ?_)
 exact wpAny_pure q
theorem zky {Q:Value->Shared->Prop} (h:zcb w (s.heap.push (empty w)) s.heap.objs.size 8->Q (.ref s.heap.objs.size) { s with heap:=s.heap.push (empty w) }):wpAny (model prog w) A (newSet (.type "set")) Q E s:=by
 unfold newSet setsByText
 refine wpAny_bind (wpAny_bind (wpAny_askSetting (wpAny_pure ?_)))
 dsimp only
 simp only[newObj]
 refine wpAny_bind (wpAny_alloc (wpAny_pure (h ?_)))
 exact ⟨_,0,_,⟨ydr _ rfl,⟨rfl,rfl,rfl⟩,rfl⟩,rfl,zkH _,rfl,.inl rfl⟩
theorem zqS {Q:Value->Shared->Prop} (S:zao prog w s.heap a ms) (hm:ms.length<64)
  (hQ:∀ h' ms',(∀ c o,s.heap.get? c=some o->h'.get? c=some o)->zao prog w h' s.heap.objs.size ms'->ms'.Perm ms->(ms=[]->zcb w h' s.heap.objs.size 8)->Q (.ref s.heap.objs.size) { s with heap:=h' }):wpAny (model prog w) A (Builtin.Frozenset.copyOf a) Q E s:=by
 obtain ⟨oa,hoa⟩:=S.obj
 have lt:=ydq hoa
 unfold Builtin.Frozenset.copyOf Builtin.Frozenset.baseOf
 refine wpAny_bind (wpAny_bind (wpAny_isInstance (b:=true) S.ty sub_set_self (wpAny_pure ?_)))
 refine wpAny_bind (zky fun F=>?_)
 have S':zao prog w (s.heap.push (empty w)) a ms:=S.keep fun o e=>ydp _ e
 show wpAny _ _ (pure s.heap.objs.size >>= _) _ _ _
 refine wpAny_bind (wpAny_pure (wpAny_bind ?_))
 have kp0:∀ c o,s.heap.get? c=some o->(s.heap.push (empty w)).get? c=some o:=fun c o e=>ydp _ e
 by_cases e0:ms=[]
 ·subst e0
  obtain ⟨⟨o,es,ep,t,⟨ho,hex,hd⟩,⟨hel,hb,hf⟩,T,em⟩,nd⟩:=id S'
  have ee:es=#[]:=by
   have:=congrArg List.length em
   rw[yab,yeb] at this
   exact Array.size_eq_zero_iff.mp this
  subst ee
  unfold setMerge
  refine zau (by simpa using (ydh lt)) ?_
  refine wpAny_bind (wpAny_setState_of ho hd hf ?_)
  refine zdP (by rfl) (wpAny_pure (wpAny_pure ?_))
  exact hQ _ [] kp0 F.zqU (.refl _) fun _=>F
 ·refine zno (s:={ s with heap:=s.heap.push (empty w) }) F S' (ydh lt) hm fun h' ms' sb S2 pm=>wpAny_pure ?_
  refine hQ h' ms' (fun c o e=>?_) S2 pm fun z=>absurd z e0
  rw[sb.2 c (yda (ydq e))]
  exact kp0 c o e
end
end zad
namespace zad
section
variable {prog:Program} {w:World} {A:Around} {E:Value->Shared->Prop} {s:Shared}
set_option maxHeartbeats 3200000 in
end
end zad
section
variable {X:Cx}
end
section
variable {X:Cx} {o e:Expr} {apos cpos:Pos} {td ty:TE}
end
namespace zad
section
variable {prog:Program} {w:World} {A:Around} {E:Value->Shared->Prop} {s:Shared} {a b c:Addr} {ms ns:List Int}
def zch (prog:Program) (w:World) (h:Heap) (a:Addr) (ms:List Int):Prop :=
 (∃ o es ep t,(h.get? a=some o/\o.ExactSet/\o.data=.set es ep t)/\(ElemsOf (intKind prog w) es.toList/\es.size<64/\t.fits es.size=true)/\es.toList.map (fun e=>intOf e.2)=ms)/\ms.Nodup
theorem zao.raw {h:Heap} (S:zao prog w h a ms) (hm:ms.length<64):zch prog w h a ms:=by
 obtain ⟨⟨o,es,ep,t,h1,⟨hel,hb,hf⟩,T,rfl⟩,nd⟩:=S
 rw[yab,yeb] at hm
 exact ⟨⟨o,es,ep,t,h1,⟨hel,hm,hf⟩,rfl⟩,nd⟩
theorem zch.keep {h h':Heap} (R:zch prog w h a ms) (k:∀ o,h.get? a=some o->h'.get? a=some o):zch prog w h' a ms:=by
 obtain ⟨⟨o,es,ep,t,⟨ho,h1⟩,h2⟩,nd⟩:=R
 exact ⟨⟨o,es,ep,t,⟨k o ho,h1⟩,h2⟩,nd⟩
theorem zch.obj {h:Heap} (R:zch prog w h a ms):∃ o,h.get? a=some o:=let ⟨⟨o,_,_,_,⟨e,_⟩,_⟩,_⟩:=R;⟨o,e⟩
theorem zn0 {o:Obj} {es:Array (Int × Value)} {ep:Nat} {t:SetTable} {k:Int} {x:Value} {Q:Option Nat->Shared->Prop} (hk:Value.isInt k x=true) (hx:x.scannable=true) (ho:s.heap.get? a=some o) (hd:o.data=.set es ep t) (hf:t.fits es.size=true)
  (hel:ElemsOf (intKind prog w) es.toList) (hb:es.size<scanBound) (h:Q (es.toList.findIdx? fun e=>Value.isInt k e.2) s):wpAny (model prog w) A (setFind a x ((intKind prog w).hash k)) Q E s:=by
 unfold setFind setFindIn
 refine wpAny_bind (wpAny_setState_of ho hd hf ?_)
 dsimp only
 rw[byScan_of hx hb hel]
 refine zdP rfl (wpAny_bind (wpAny_rule (wpAny_bind (wpAny_setScan_of (knd:=intKind prog w) (k:=k) hk ho hd hf hel ?_))))
 have e0:(fun e:Int × Value=>(intKind prog w).is k e.2)=fun e=>Value.isInt k e.2:=rfl
 rw[e0]
 cases q:es.toList.findIdx? (fun e=>Value.isInt k e.2) with
 | none=>rw[q] at h;exact wpAny_pure h
 | some j =>
  rw[q] at h
  dsimp only
  rw[ydo]
  exact wpAny_pure h
theorem zgL {α:Type} (xs:Array α) (i:Nat):(SetTable.eraseAt xs i).toList=xs.toList.eraseIdx i:=by
 unfold SetTable.eraseAt
 rw[Array.toList_append,ycb]
 simp
 exact ybf (by rw[ybg,yeb];exact ycz _)
theorem zek {α:Type} (xs:Array α) {i:Nat} (h:i<xs.size):(SetTable.eraseAt xs i).size=xs.size-1:=by
 rw[<-yeb,zgL,ycl (by simpa using h),yeb]
theorem zne {α:Type} (xs:Array α) (p:Nat) (x:α):(SetTable.insertAt xs p x).size=xs.size+1:=by
 unfold SetTable.insertAt
 simp
 ac_rfl
theorem zpS {t:SetTable} {n i:Nat} (h:t.fits n=true) (hi:i<n):(t.drop i).fits (n-1)=true:=by
 simp only[SetTable.fits,Bool.and_eq_true,beq_iff_eq,decide_eq_true_eq] at h
 obtain ⟨h1,h2⟩:=h
 have hp:i<t.place.size:=by ac_rfl
 have e:t.drop i={ t with place:=SetTable.eraseAt t.place i,dummies:=SetTable.insertAt t.dummies (SetTable.below t.dummies (t.place[i]'hp)) (t.place[i]'hp) }:=by
  unfold SetTable.drop
  rw[yec hp]
 have z1:=zek t.place hp
 have z2:=zne t.dummies (SetTable.below t.dummies (t.place[i]'hp)) (t.place[i]'hp)
 unfold SetTable.fill at h2
 rw[e]
 unfold SetTable.fits SetTable.fill
 rw[Bool.and_eq_true]
 exact ⟨by rw[beq_iff_eq];show (SetTable.eraseAt t.place i).size=n-1;ac_rfl,decide_eq_true (by show (SetTable.eraseAt t.place i).size+(SetTable.insertAt t.dummies (SetTable.below t.dummies (t.place[i]'hp)) (t.place[i]'hp)).size<=t.mask;ac_rfl)⟩
theorem zm1 {l:List Int} {i:Nat} {k:Int} (nd:l.Nodup) (h:l[i]?=some k):(l.eraseIdx i).Nodup/\∀ m,m∈l.eraseIdx i↔m∈l/\m≠k:=by
 have hi:=(yac.mp h).1
 have ek:l[i]=k:=(yac.mp h).2
 have pm:=zem l i hi
 have nd2:=pm.nodup_iff.mpr nd
 rw[ek,ybq] at nd2
 rw[ek] at pm
 refine ⟨nd2.2,fun m=>?_⟩
 rw[<-pm.mem_iff,yal]
 constructor
 ·exact fun q=>⟨.inr q,fun z=>nd2.1 (z ▸ q)⟩
 ·rintro ⟨q | q,z⟩
  ·exact absurd q z
  ·exact q
theorem discard {k:Int} {x:Value} {Q:Bool->Shared->Prop} (hk:Value.isInt k x=true) (hx:x.scannable=true) (R:zch prog w s.heap a ms)
  (hQ:∀ b h' ms',Heap.SameBut a s.heap h'->zch prog w h' a ms'->(∀ m,m∈ms'↔m∈ms/\m≠k)->ms'.length<=ms.length->Q b { s with heap:=h' }):wpAny (model prog w) A (setDiscardHashed a x ((intKind prog w).hash k)) Q E s:=by
 obtain ⟨⟨o,es,ep,t,⟨ho,hex,hd⟩,⟨hel,hb,hf⟩,rfl⟩,nd⟩:=id R
 unfold setDiscardHashed
 refine wpAny_bind (zn0 hk hx ho hd hf hel (ydb hb (by decide)) ?_)
 cases q:es.toList.findIdx? (fun e=>Value.isInt k e.2) with
 | none =>
  refine wpAny_pure (hQ false s.heap _ (Heap.SameBut.refl a s.heap) R (fun m=>⟨fun z=>⟨z,fun e=>?_⟩,fun z=>z.1⟩) (ycz _))
  subst e
  obtain ⟨e,he,q2⟩:=(zgn hel m).mpr z
  rw[ycm.mp q e he] at q2
  cases q2
 | some j =>
  obtain ⟨hj,hp,_⟩:=ybw.mp q
  rw[yeb] at hj
  have ej:(es.toList.map fun e=>intOf e.2)[j]?=some k:=by
   rw[yak,yaa (by simpa using hj)]
   exact congrArg some (ziR hp)
  obtain ⟨nd2,mm⟩:=zm1 nd ej
  refine wpAny_bind (wpAny_setState_of ho hd hf ?_)
  dsimp only
  refine wpAny_bind (wpAny_storeSet_of ho hd (wpAny_bind (wpAny_point (wpAny_pure ?_))) (by rw[zek _ hj,sizeLine_eq];ac_rfl))
  refine hQ true _ ((es.toList.map fun e=>intOf e.2).eraseIdx j) (Heap.SameBut.update _ a _) ⟨⟨_,SetTable.eraseAt es j,ep+1,t.drop j,⟨zjg ho hd _ _,hex,rfl⟩,⟨?_,?_,?_⟩,?_⟩,nd2⟩ mm (List.length_eraseIdx_le _ _)
  ·rw[zgL]
   exact fun e he=>hel e (List.mem_of_mem_eraseIdx he)
  ·rw[zek _ hj];ac_rfl
  ·rw[zek _ hj];exact zpS hf hj
  ·rw[zgL,ycb,ycb,yat,List.map_take,List.map_drop]
theorem zpj {Q:Unit->Shared->Prop} {wanted:Nat} (R:zch prog w s.heap a ms) (hw:wanted<128) (hm:ms.length<=wanted)
  (hQ:∀ h' ms',Heap.SameBut a s.heap h'->zch prog w h' a ms'->ms'.Perm ms->Q () { s with heap:=h' }):wpAny (model prog w) A (setRelay a wanted) Q E s:=by
 obtain ⟨⟨o,es,ep,t,⟨ho,hex,hd⟩,⟨hel,hb,hf⟩,rfl⟩,nd⟩:=R
 rw[yab,yeb] at hm
 obtain ⟨sz,lt⟩:=ziE hw
 obtain ⟨t',order,e1,e2,e3,_⟩:=zhI (finger:=t.finger) (moves:=t.movedTo (SetTable.sizeAbove wanted-1)) (led:=t.led) (plain:=t.plain) sz (es.map (·.1)) (by rw[yeh];ac_rfl)
 rw[yeh] at e2 e3
 have pm:=zgJ e2
 have zz:(order.filterMap (es[·]?)).size=es.size:=by have:=pm.length_eq;rwa [yeb,yeb] at this
 unfold setRelay
 refine wpAny_bind (wpAny_setState_of ho hd hf ?_)
 dsimp only
 refine zau (by rcases sz with e | e | e | e | e <;> rw[e,sizeLine_eq] <;> decide) (wpAny_bind ?_)
 unfold SetTable.relaid
 rw[e1]
 change wpAny _ _ (ite _ _ _) _ _ _
 refine zau (by rw[zz];simp) (wpAny_pure ?_)
 refine wpAny_storeSet_of ho hd ?_ (by rw[zz,sizeLine_eq];ac_rfl)
 have q2:=pm.map fun e=>intOf e.2
 exact hQ _ _ (Heap.SameBut.update _ a _) ⟨⟨_,_,ep+1,t',⟨zjg ho hd _ _,hex,rfl⟩,⟨hel.perm pm,by rw[zz];exact hb,by rw[zz];exact e3⟩,rfl⟩,q2.nodup_iff.mpr nd⟩ q2
theorem zqn {Q:Unit->Shared->Prop} (R:zch prog w s.heap a ms) (hm:ms.length<32) (hQ:∀ h' ms',Heap.SameBut a s.heap h'->zch prog w h' a ms'->ms'.Perm ms->Q () { s with heap:=h' }):wpAny (model prog w) A (setTidy a) Q E s:=by
 obtain ⟨⟨o,es,ep,t,⟨ho,hex,hd⟩,⟨hel,hb,hf⟩,e⟩,nd⟩:=id R
 have le:es.size=ms.length:=by rw[<-e,yab,yeb]
 unfold setTidy
 refine wpAny_bind (wpAny_setState_of ho hd hf ?_)
 dsimp only
 have g:SetTable.grown es.size=es.size*4:=if_neg (by ac_rfl)
 split
 ·exact zpj R (by rw[g];ac_rfl) (by rw[g];ac_rfl) hQ
 ·exact wpAny_pure (hQ s.heap ms (Heap.SameBut.refl a s.heap) R (.refl _))
theorem zjG {M:Model} {α:Type} {f:α->PUnit->Sem (ForInStep PUnit)} {Q:PUnit->Shared->Prop} (I:List α->Shared->Prop) (turn:∀ x l s,I (x::l) s->wpAny M A (f x ⟨⟩) (fun r s'=>r=.yield ⟨⟩/\I l s') E s) (fin:∀ s,I [] s->Q ⟨⟩ s):∀ (l:List α) (s:Shared),I l s->wpAny M A (forIn l PUnit.unit f) Q E s
 | [],s,h=>by
  rw[List.forIn_nil]
  exact wpAny_pure (fin s h)
 | x::l,s,h=>by
  rw[yca]
  refine wpAny_bind (wpAny_mono (turn x l s h) (fun r s' q=>?_) fun _ _ z=>z)
  obtain ⟨rfl,q⟩:=q
  exact zjG I turn fin l s' q
theorem zc0 {es:Array (Int × Value)} (hel:ElemsOf (intKind prog w) es.toList):∀ e∈es.toList,∃ h k t,e=(h,Value.int k t):=fun e he=>by
 obtain ⟨⟨k,hk,_⟩,_⟩:=hel e he
 obtain ⟨t,q⟩:=Value.isInt_shape (show Value.isInt k e.2=true from hk)
 exact ⟨e.1,k,t,by rw[<-q]⟩
theorem zq4 {Q:Array (Int × Value)->Shared->Prop} {o:Obj} {es:Array (Int × Value)} {ep:Nat} {t:SetTable} (S:zao prog w s.heap a ms) (C:zao prog w s.heap c ns) (ho:s.heap.get? b=some o) (hd:o.data=.set es ep t) (hf:t.fits es.size=true) (hel:ElemsOf (intKind prog w) es.toList) (T:Tab (w.params.followText "set-order") t)
  (hQ:∀ es' h' d,es'.toList.Perm es.toList->Heap.SameBut a s.heap h'->zao prog w h' a ms->Q es' { s with heap:=h',drawn:=d }):wpAny (model prog w) A (setWalkUnseen b [c,a] (some a)) Q E s:=by
 unfold setWalkUnseen
 refine wpAny_bind (wpAny_setState_of ho hd hf ?_)
 unfold setsByText
 refine wpAny_bind (wpAny_bind (wpAny_askSetting (wpAny_pure ?_)))
 dsimp only
 split
 ·exact zmT ho hd hf T fun es' d pm=>hQ es' s.heap d pm (Heap.SameBut.refl a s.heap) S
 ·obtain ⟨⟨o1,es1,ep1,t1,⟨ho1,hex1,hd1⟩,⟨hel1,hb1,hf1⟩,T1,rfl⟩,nd1⟩:=id S
  obtain ⟨⟨o2,es2,ep2,t2,⟨ho2,hex2,hd2⟩,⟨hel2,hb2,hf2⟩,T2,rfl⟩,nd2⟩:=id C
  unfold setsQuiet
  refine wpAny_bind (wpAny_bind ?_)
  rw[yca]
  refine wpAny_bind (wpAny_bind (wpAny_setEntries_of ho hd hf (wpAny_bind ?_)))
  rw[<-yee]
  refine zfY (fun e he=>?_) ?_
  ·obtain ⟨h,k,t,rfl⟩:=zc0 hel e he
   rfl
  refine wpAny_pure ?_
  dsimp only
  rw[yca]
  refine wpAny_bind (wpAny_bind (wpAny_setEntries_of ho2 hd2 hf2 (wpAny_bind ?_)))
  rw[<-yee]
  refine zfY (fun e he=>?_) ?_
  ·obtain ⟨h,k,t,rfl⟩:=zc0 hel2 e he
   rfl
  refine wpAny_pure ?_
  dsimp only
  rw[yca]
  refine wpAny_bind (wpAny_bind (wpAny_setEntries_of ho1 hd1 hf1 (wpAny_bind ?_)))
  rw[<-yee]
  refine zfY (fun e he=>?_) ?_
  ·obtain ⟨h,k,t,rfl⟩:=zc0 hel1 e he
   rfl
  refine wpAny_pure (wpAny_pure (wpAny_pure ?_))
  refine zau (by simp) (wpAny_bind (wpAny_rule (wpAny_bind (wpAny_setState_of ho1 hd1 hf1 ?_))))
  dsimp only
  split
  ·refine wpAny_bind (wpAny_storeSet_of ho1 hd1 (wpAny_pure ?_) (fits_of_scanBound hb1))
   refine hQ es _ s.drawn (.refl _) (Heap.SameBut.update _ a _) (zi7 ho1 hex1 hd1 hel1 hb1 hf1 ⟨?_,T1.dum,fun z=>T1.up ?_⟩ nd1)
   ·show (t1.led && t.led)=_
    rw[T1.led,T.led,Bool.and_self]
   ·have:(t1.plain && t.plain)=true:=z
    simp only[Bool.and_eq_true] at this
    exact this.1
  ·exact wpAny_pure (hQ es s.heap s.drawn (.refl _) (Heap.SameBut.refl a s.heap) S)
theorem zqi {Q:Array (Int × Value)->Shared->Prop} {o:Obj} {es:Array (Int × Value)} {ep:Nat} {t:SetTable} (R:zch prog w s.heap a ms) (ho:s.heap.get? b=some o) (hd:o.data=.set es ep t) (hf:t.fits es.size=true) (hel:ElemsOf (intKind prog w) es.toList) (T:Tab (w.params.followText "set-order") t)
  (hQ:∀ es' d,es'.toList.Perm es.toList->Q es' { s with drawn:=d }):wpAny (model prog w) A (setWalkUnseen b [a] none) Q E s:=by
 unfold setWalkUnseen
 refine wpAny_bind (wpAny_setState_of ho hd hf ?_)
 unfold setsByText
 refine wpAny_bind (wpAny_bind (wpAny_askSetting (wpAny_pure ?_)))
 dsimp only
 split
 ·exact zmT ho hd hf T fun es' d pm=>hQ es' d pm
 ·obtain ⟨⟨o1,es1,ep1,t1,⟨ho1,hex1,hd1⟩,⟨hel1,hb1,hf1⟩,rfl⟩,nd1⟩:=id R
  unfold setsQuiet
  refine wpAny_bind (wpAny_bind ?_)
  rw[yca]
  refine wpAny_bind (wpAny_bind (wpAny_setEntries_of ho hd hf (wpAny_bind ?_)))
  rw[<-yee]
  refine zfY (fun e he=>?_) ?_
  ·obtain ⟨h,k,t,rfl⟩:=zc0 hel e he
   rfl
  refine wpAny_pure ?_
  dsimp only
  rw[yca]
  refine wpAny_bind (wpAny_bind (wpAny_setEntries_of ho1 hd1 hf1 (wpAny_bind ?_)))
  rw[<-yee]
  refine zfY (fun e he=>?_) ?_
  ·obtain ⟨h,k,t,rfl⟩:=zc0 hel1 e he
   rfl
  refine wpAny_pure (wpAny_pure (wpAny_pure ?_))
  refine zau (by simp) (wpAny_bind (wpAny_rule ?_))
  exact wpAny_pure (hQ es s.drawn (.refl _))
theorem zgj {id0:String} {o:Obj} {es:Array (Int × Value)} {ep:Nat} {t:SetTable} {Q:Unit->Shared->Prop} (ho:s.heap.get? b=some o) (hd:o.data=.set es ep t) (hf:t.fits es.size=true) (q:Q () s):wpAny (model prog w) A (Builtin.Frozenset.unchanged id0 b ep) Q E s:=by
 unfold Builtin.Frozenset.unchanged
 refine wpAny_bind (wpAny_setEpoch_of ho hd hf ?_)
 exact zau (by simp) (wpAny_pure q)
theorem zhX {o:Obj} {es:Array (Int × Value)} {ep:Nat} {t:SetTable} {Q:Nat->Shared->Prop} (ho:s.heap.get? b=some o) (hd:o.data=.set es ep t) (hf:t.fits es.size=true) (q:Q es.size s):wpAny (model prog w) A (Builtin.Frozenset.sizeOf b) Q E s:=by
 unfold Builtin.Frozenset.sizeOf
 exact wpAny_bind (wpAny_setEntries_of ho hd hf (wpAny_pure q))
theorem zsw:entryFor table "set.__sub__" = some Builtin.«frozenset.__sub__»:=entryFor_alias (id' := "frozenset.__sub__") (by rw[fastTable_eq_tree];kernel_rfl) rfl (by rw[PySem.W.S.canonicalS_eq];kernel_rfl) (by rw[fastTable_eq_tree];kernel_rfl)
theorem zrS {Q:Value->Shared->Prop} (S:zao prog w s.heap a ms) (B:zao prog w s.heap b ns) (hm:ms.length<32) (hn:ns.length<32)
  (hQ:∀ h' d ms',(∀ c o,s.heap.get? c=some o->h'.get? c=some o)->zch prog w h' s.heap.objs.size ms'->(∀ m,m∈ms'↔m∈ms/\m ∉ ns)->Q (.ref s.heap.objs.size) { s with heap:=h',drawn:=d }):wpAny (model prog w) A (binaryOp .Sub (.ref a) (.ref b)) Q E s:=by
 refine wpAny_binaryOp_same (op:=.Sub) (T:="set") S.ty B.ty PySem.F.fills_set_sub PySem.F.slot_set_sub (wpAny_call_entry PySem.F.slot_set_sub S.ty zsw ?_ (PySem.F.args_set_sub_2 _ _))
 unfold Builtin.«frozenset.__sub__»
 obtain ⟨⟨oa,ea,pa,ta,⟨hoa,hxa,hda⟩,⟨hla,hba,hfa⟩,Ta,ema⟩,nda⟩:=id S
 obtain ⟨⟨ob,eb,pb,tb,⟨hob,hxb,hdb⟩,⟨hlb,hbb,hfb⟩,Tb,emb⟩,ndb⟩:=id B
 have lta:=ydq hoa
 have ltb:=ydq hob
 have sa:ea.size=ms.length:=by rw[<-ema,yab,yeb]
 have sb:eb.size=ns.length:=by rw[<-emb,yab,yeb]
 change wpAny _ _ (Builtin.Frozenset.slot1 "__sub__" _ >>= _) _ _ _
 refine wpAny_bind (wpAny_of_eq (show Builtin.Frozenset.slot1 "__sub__" { pos:=[Value.ref a,Value.ref b] }=pure (.ref a,.ref b) from rfl) ?_)
 change wpAny _ _ ((_ <&&> _) >>= _) _ _ _
 refine wpAny_bind (wpAny_bind (zif S.ty (zif B.ty ?_)))
 refine zau (by simp) (wpAny_bind (wpAny_pure (wpAny_bind ?_)))
 change wpAny _ _ (Builtin.Frozenset.difference _ a (.ref b)) _ _ _
 unfold Builtin.Frozenset.difference
 dsimp only
 refine wpAny_bind (zif B.ty ?_)
 refine zau (by simp) (wpAny_bind (wpAny_pure ?_))
 refine zau (by simp) (zdP rfl (wpAny_bind (zhX hob hdb hfb (wpAny_bind (zhX hoa hda hfa ?_)))))
 have kp0:∀ c o,s.heap.get? c=some o->(s.heap.push (empty w)).get? c=some o:=fun c o e=>ydp _ e
 split
 ·rename_i big
  refine wpAny_bind (wpAny_rule (wpAny_bind (zqS S (by ac_rfl) fun h1 ms1 kp1 S1 pm1 _=>?_)))
  have nb:s.heap.objs.size≠b:=ydh ltb
  have B1:zao prog w h1 b ns:=B.keep fun o e=>kp1 b o e
  have R1:=S1.raw (by rw[pm1.length_eq];ac_rfl)
  obtain ⟨⟨o1,e1,p1,t1,⟨ho1,hx1,hd1⟩,⟨hl1,hb1,hf1⟩,em1⟩,nd1⟩:=id R1
  have sz1:e1.size=ms.length:=by rw[<-pm1.length_eq,<-em1,yab,yeb]
  refine wpAny_bind (wpAny_pure (wpAny_bind (wpAny_holding ?_)))
  unfold Builtin.Frozenset.differenceUpdate
  refine zau (by simpa using nb.symm) ?_
  refine wpAny_bind (zif (s:={ s with heap:=h1 }) B1.ty (zdP rfl (wpAny_bind (wpAny_pure (wpAny_bind (zhX (s:={ s with heap:=h1 }) (kp1 b ob hob) hdb hfb (wpAny_bind (zhX (s:={ s with heap:=h1 }) ho1 hd1 hf1 ?_))))))))
  refine zau (by ac_rfl) ?_
  dsimp only
  refine wpAny_bind (wpAny_setEpoch_of (s:={ s with heap:=h1 }) (kp1 b ob hob) hdb hfb (wpAny_bind (wpAny_holding ?_)))
  refine wpAny_bind (zqi (s:={ s with heap:=h1 }) R1 (kp1 b ob hob) hdb hfb hlb Tb fun es' d pm=>?_)
  rw[<-yee]
  refine wpAny_bind (zjG (fun rest s'=>∃ h2 ms2 done,s'={ s with heap:=h2,drawn:=d }/\Heap.SameBut s.heap.objs.size h1 h2/\zch prog w h2 s.heap.objs.size ms2/\ElemsOf (intKind prog w) rest/\(∀ m,m∈ms2↔m∈ms/\m ∉ done)/\(done++rest.map fun e=>intOf e.2).Perm ns/\ms2.length<=ms.length) ?_ ?_ es'.toList _ ⟨h1,ms1,[],rfl,Heap.SameBut.refl _ h1,R1,hlb.perm pm,fun m=>by rw[pm1.mem_iff];simp,by rw[<-emb];exact pm.map _,Nat.le_of_eq pm1.length_eq⟩)
  ·rintro ⟨eh,ev⟩ l s' ⟨h2,ms2,done,rfl,sb2,R2,hl,mm,pm2,len⟩
   obtain ⟨⟨k,hk,hh⟩,hsc⟩:=hl.head
   obtain ⟨tk,q⟩:=Value.isInt_shape (show Value.isInt k ev=true from hk)
   dsimp only at q hh hk hsc
   subst q
   subst hh
   dsimp only
   refine wpAny_bind (wpAny_holding (discard (s:={ s with heap:=h2,drawn:=d }) hk hsc R2 fun _ h3 ms3 sb3 R3 mm3 l3=>?_))
   have hb3:h3.get? b=some ob:=by rw[sb3.2 b nb.symm,sb2.2 b nb.symm];exact kp1 b ob hob
   refine wpAny_bind (zgj (s:={ s with heap:=h3,drawn:=d }) hb3 hdb hfb (wpAny_pure ⟨rfl,h3,ms3,done++[k],rfl,sb2.trans sb3,R3,hl.tail,fun m=>?_,by rw[ybm];exact pm2,by ac_rfl⟩))
   rw[mm3,mm,yam,yan,not_or,and_assoc]
  ·rintro s' ⟨h2,ms2,done,rfl,sb2,R2,hl,mm,pm2,len⟩
   rw[List.map_nil,ybi] at pm2
   refine wpAny_pure (zqn (s:={ s with heap:=h2,drawn:=d }) R2 (by ac_rfl) fun h3 ms3 sb3 R3 pm3=>wpAny_pure (wpAny_pure ⟨_,rfl,by simp,?_⟩))
   exact hQ h3 d ms3 (fun c o e=>by rw[sb3.2 c (yda (ydq e)),sb2.2 c (yda (ydq e))];exact kp1 c o e) R3 (fun m=>by rw[pm3.mem_iff,mm,pm2.mem_iff])
 ·unfold Builtin.Frozenset.baseOf
  refine wpAny_bind (wpAny_bind (wpAny_isInstance (b:=true) S.ty sub_set_self (wpAny_pure ?_)))
  refine wpAny_bind (zky fun F=>?_)
  have B0:zao prog w (s.heap.push (empty w)) b ns:=B.keep fun o e=>kp0 b o e
  show wpAny _ _ (pure s.heap.objs.size >>= _) _ _ _
  refine wpAny_bind (wpAny_pure (wpAny_bind (wpAny_setEpoch_of (s:={ s with heap:=s.heap.push (empty w) }) (kp0 a oa hoa) hda hfa (wpAny_bind (wpAny_holding ?_)))))
  have na:s.heap.objs.size≠a:=ydh lta
  have nb:s.heap.objs.size≠b:=ydh ltb
  refine wpAny_bind (zdP (x:=setWalkUnseen a [b,s.heap.objs.size] (some s.heap.objs.size)) (y:=setWalk a) (c:=true=true) rfl (zq4 (s:={ s with heap:=s.heap.push (empty w) }) F.zqU B0 (kp0 a oa hoa) hda hfa hla Ta fun es' h1 d pm sb1 S1=>?_))
  rw[<-yee]
  refine wpAny_bind (zjG (fun rest s'=>∃ h2 ms2 done,s'={ s with heap:=h2,drawn:=d }/\Heap.SameBut s.heap.objs.size (s.heap.push (empty w)) h2/\zao prog w h2 s.heap.objs.size ms2/\ElemsOf (intKind prog w) rest/\(∀ m,m∈ms2↔m∈done/\m ∉ ns)/\(done++rest.map fun e=>intOf e.2).Perm ms/\ms2.length<=done.length) ?_ ?_ es'.toList _ ⟨h1,[],[],rfl,sb1,S1,hla.perm pm,fun m=>by simp,by rw[<-ema];exact pm.map _,ycz _⟩)
  ·rintro ⟨eh,ev⟩ l s' ⟨h2,ms2,done,rfl,sb2,S2,hl,mm,pm2,len⟩
   obtain ⟨⟨k,hk,hh⟩,hsc⟩:=hl.head
   obtain ⟨tk,q⟩:=Value.isInt_shape (show Value.isInt k ev=true from hk)
   dsimp only at q hh hk hsc
   subst q
   subst hh
   have pl:=pm2.length_eq
   rw[yad,yay,yax] at pl
   have hb2:h2.get? b=some ob:=by rw[sb2.2 b nb.symm];exact kp0 b ob hob
   have ha2:h2.get? a=some oa:=by rw[sb2.2 a na.symm];exact kp0 a oa hoa
   have ik:intOf (Value.int k tk)=k:=rfl
   have pm3:((done++[k])++l.map fun e=>intOf e.2).Perm ms:=by rw[ybm];exact pm2
   have kn:(eb.toList.findIdx? fun e=>Value.isInt k e.2).isSome=true↔k∈ns:=by
    rw[<-emb,<-zgn hlb k]
    constructor
    ·intro z
     obtain ⟨j,hj⟩:=Option.isSome_iff_exists.mp z
     obtain ⟨h1,h2,_⟩:=ybw.mp hj
     exact ⟨_,yci h1,h2⟩
    ·rintro ⟨e,he,z⟩
     cases q:eb.toList.findIdx? (fun e=>Value.isInt k e.2) with
     | some j=>rfl
     | none=>rw[ycm.mp q e he] at z;cases z
   refine wpAny_bind (wpAny_holding (zdP rfl (wpAny_bind (zn0 (s:={ s with heap:=h2,drawn:=d }) hk hsc hb2 hdb hfb hlb hbb (wpAny_bind (wpAny_pure ?_))))))
   by_cases z:k∈ns
   ·refine zau (by rw[kn.mpr z];simp) (wpAny_pure (wpAny_bind (zgj (s:={ s with heap:=h2,drawn:=d }) ha2 hda hfa (wpAny_pure ⟨rfl,h2,ms2,done++[k],rfl,sb2,S2,hl.tail,fun m=>?_,pm3,by rw[yad];exact Nat.le_add_right_of_le len⟩))))
    rw[mm,yam,yan]
    constructor
    ·exact fun q=>⟨.inl q.1,q.2⟩
    ·rintro ⟨q | q,n⟩
     ·exact ⟨q,n⟩
     ·exact absurd (q ▸ z) n
   ·refine zdP (by rw[Bool.eq_false_iff.mpr (fun q=>z (kn.mp q))];rfl) (wpAny_bind (xadd (s:={ s with heap:=h2,drawn:=d }) (ms:=ms2) (k:=k) S2 (by show _<4096;ac_rfl) fun _ h3 ms3 sb3 S3 mm3 l3=>wpAny_pure ?_))
    have ha3:h3.get? a=some oa:=by rw[sb3.2 a na.symm];exact ha2
    refine wpAny_bind (zgj (s:={ s with heap:=h3,drawn:=d }) ha3 hda hfa (wpAny_pure ⟨rfl,h3,ms3,done++[k],rfl,sb2.trans sb3,S3,hl.tail,fun m=>?_,pm3,by rw[yad,ybo];ac_rfl⟩))
    rw[mm3,mm,yam,yan]
    constructor
    ·rintro (q | q)
     ·exact ⟨.inl q.1,q.2⟩
     ·exact ⟨.inr q,q ▸ z⟩
    ·rintro ⟨q | q,n⟩
     ·exact .inl ⟨q,n⟩
     ·exact .inr q
  ·rintro s' ⟨h2,ms2,done,rfl,sb2,S2,hl,mm,pm2,len⟩
   rw[List.map_nil,ybi] at pm2
   have pl:=pm2.length_eq
   refine wpAny_pure (wpAny_pure (wpAny_pure ⟨_,rfl,by simp,?_⟩))
   exact hQ h2 d ms2 (fun c o e=>by rw[sb2.2 c (yda (ydq e))];exact kp0 c o e) (S2.raw (by ac_rfl)) (fun m=>by rw[mm,pm2.mem_iff])
end
end zad
noncomputable def zqE (P:Program) (w:World) (a:Addr) (ms:List Int):HO:=.ext fun h=>zad.zch P w h a ms
def zrR (P:Program) (w:World):R2:=fun x y H Q=>∃ a b ms ns,x=.ref a/\y=.ref b/\H a=some (zki P w a ms)/\H b=some (zki P w b ns)/\ms.length<32/\ns.length<32 /\
 ∀ (p:Addr) (H':Hp) (ls:List Int),H p=none->Same H H'->H' p=some (zqE P w p ls)->(∀ m,m∈ls↔m∈ms/\m ∉ ns)->Q (.ref p) H'
section
variable {X:Cx}
theorem zo4:OpR X (binaryOp .Sub) (zrR X.prog X.w):=by
 intro pins s σ H x y v u Q I rx ry h
 obtain ⟨a,b,ms,ns,rfl,rfl,ha,hb,hm,hn,q⟩:=h
 cases rx
 cases ry
 have S:=(I.hok a _ ha).1
 have B:=(I.hok b _ hb).1
 refine zad.zrS S B hm hn fun h' d ls kp R mm=>?_
 have I1:=I.laid (o:=zqE X.prog X.w s.heap.objs.size ls) (t':=s.toks) kp (ycz _) ⟨R,R.obj,fun h1 h2 p e=>p.keep e⟩
 exact ⟨.ref s.heap.objs.size,_,I1.drew d,rfl,q _ _ ls (I.hok.fresh (ycz _)) (zc (I.hok.fresh (ycz _)) _) zg mm⟩
theorem znk:zbc X (.builtin "len") (fun xs H Q=>∃ (p:Addr) (ms:List Int),xs=[.ref p]/\H p=some (zqE X.prog X.w p ms)/\Q (.int ms.length) H):=by
 intro pins s σ H xs us Q I r h
 obtain ⟨p,ms,rfl,hp,q⟩:=h
 obtain ⟨u,rfl,rx⟩:=vals1 r
 cases rx
 obtain ⟨⟨o,es,ep,t,⟨ho,hex,hd⟩,⟨hel,hb,hf⟩,rfl⟩,nd⟩:=(I.hok p _ hp).1
 rw[yab,yeb] at q
 exact call_len_set ho hex hd hf (by ac_rfl) ⟨.int es.size,H,I.tok _,⟨_,rfl⟩,q⟩
end
end L2
namespace Sums
theorem fold_same {d m:Int}:∀ (t:Tab) (st:Int × Int),(∀ s∈t,s.1<=d↔s.1<=m)->t.foldl (vstep d) st=t.foldl (vstep m) st
 | [],_,_=>rfl
 | s::t,st,h=>by
  rw[ybe,ybe]
  have e:vstep d st s=vstep m st s:=by
   unfold vstep
   have:=h s yaj
   by_cases q:st.1<=s.1/\s.1<=d
   ·rw[if_pos q,if_pos ⟨q.1,this.mp q.2⟩]
   ·rw[if_neg q,if_neg fun z=>q ⟨z.1,this.mpr z.2⟩]
  rw[e]
  exact fold_same t _ fun x hx=>h x (yah _ hx)
theorem zi0 {t:Tab} {d m:Int} (h:∀ s∈t,s.1<=d↔s.1<=m):valOf t d=valOf t m:=by
 unfold valOf
 rw[fold_same t _ h]
theorem zgs {t:Tab} {d:Int} (h0:∀ s∈t,0<=s.1) (h:∀ s∈t,d<s.1):valOf t d=0:=by
 rcases zbu h0 d with ⟨e,_⟩ | ⟨i,b,e,le,_⟩
 ·exact e
 ·have:=h _ (yai e)
  exact absurd this (by show ¬ d<b;ac_rfl)
theorem zmv:∀ l:List Int,l≠[]->∃ m∈l,∀ x∈l,x<=m
 | [],h=>absurd rfl h
 | [a],_=>⟨a,yaj,fun x hx=>by rw[yan.mp hx];exact ydx _⟩
 | a::b::l,_=>by
  obtain ⟨m,hm,h⟩:=zmv (b::l) (by simp)
  by_cases q:a<=m
  ·refine ⟨m,yah _ hm,fun x hx=>?_⟩
   rcases yal.mp hx with rfl | hx
   ·exact q
   ·exact h x hx
  ·refine ⟨a,yaj,fun x hx=>?_⟩
   rcases yal.mp hx with rfl | hx
   ·exact ydx _
   ·have:=h x hx
    ac_rfl
theorem zq1 {ks:List Int} {f:Int->Int} {d m:Int} (k0:∀ k∈ks,0<=k) (hm:m∈ks) (md:m<=d) (top:∀ k∈ks,k<=d->k<=m):valOf (ks.map fun k=>(k,f k)) d=f m:=by
 rcases zbu (t:=ks.map fun k=>(k,f k)) (fun s hs=>by obtain ⟨k,hk,rfl⟩:=yag.mp hs;exact k0 k hk) d with ⟨_,h⟩ | ⟨i,b,e,le,h⟩
 ·have:d<m:=h (m,f m) (yag.mpr ⟨m,hm,rfl⟩)
  ac_rfl
 ·obtain ⟨k,hk,ek⟩:=yag.mp (yai e)
  have e1:k=b:=congrArg Prod.fst ek
  have e2:f k=valOf (ks.map fun k=>(k,f k)) d:=congrArg Prod.snd ek
  obtain ⟨j,hj⟩:=ycj.mp hm
  have q:=h j (m,f m) (by rw[yak,hj];rfl) md
  have q2:=top k hk (by ac_rfl)
  have:k=m:=by rcases q with q | q <;> ac_rfl
  rw[<-e2,this]
end Sums
namespace L2
open PySem Sums
def nab (t u:List (Int × Int)):Bool:=(((t++u).filter fun s=>decide (s.1<=999999)).map fun s=>decide (valOf t s.1<=valOf u s.1)).all id
theorem zrD {t u:List (Int × Int)} (t0:∀ s∈t,0<=s.1) (u0:∀ s∈u,0<=s.1):nab t u=true↔∀ d:Int,0<=d->d<=999999->valOf t d<=valOf u d:=by
 unfold nab
 rw[List.all_map,ycp]
 constructor
 ·intro h d d0 d1
  by_cases q:(((t++u).map (·.1)).filter fun x=>decide (x<=d))=[]
  ·have no:∀ s∈t++u,d<s.1:=fun s hs=>by
    have:=ych.mp q s.1 (yar hs)
    simpa using this
   rw[zgs t0 fun s hs=>no s (ybb _ hs),zgs u0 fun s hs=>no s (yaf _ hs)]
   exact ydx _
  ·obtain ⟨m,hm,top⟩:=zmv _ q
   obtain ⟨hm1,hm2⟩:=yaq.mp hm
   have md:m<=d:=by simpa using hm2
   obtain ⟨r,hr,rfl⟩:=yag.mp hm1
   have key:∀ s∈t++u,s.1<=d↔s.1<=r.1:=fun s hs=>⟨fun z=>top s.1 (yaq.mpr ⟨yar hs,by simpa using z⟩),fun z=>by ac_rfl⟩
   have:=h r (yaq.mpr ⟨hr,by simp;ac_rfl⟩)
   rw[zi0 fun s hs=>key s (ybb _ hs),zi0 fun s hs=>key s (yaf _ hs)]
   simpa using this
 ·intro h s hs
  obtain ⟨h1,h2⟩:=yaq.mp hs
  have s0:0<=s.1:=(yam.mp h1).elim (t0 s) (u0 s)
  have:=h s.1 s0 (by simpa using h2)
  simpa using this
noncomputable def chv (t l:List (Int × Int)) (d:Int):Int:=if Spans.isIn l d=true then 0 else valOf t d
theorem zpY {l:List (Int × Int)} {d m:Int} (h:∀ s∈l,(s.1<=d↔s.1<=m)/\(s.2<=d↔s.2<=m)):Spans.isIn l d=Spans.isIn l m:=by
 unfold Spans.isIn
 rw[Bool.eq_iff_iff,ybv,ybv]
 constructor
 ·rintro ⟨s,hs,q⟩
  refine ⟨s,hs,?_⟩
  have:=h s hs
  simp only[Bool.and_eq_true,decide_eq_true_eq] at q ⊢
  ac_rfl
 ·rintro ⟨s,hs,q⟩
  refine ⟨s,hs,?_⟩
  have:=h s hs
  simp only[Bool.and_eq_true,decide_eq_true_eq] at q ⊢
  ac_rfl
theorem zrx {t l:List (Int × Int)} {ns:List Int} (hd:∀ d,d∈ns↔(0<d/\d<1000000)/\((∃ s∈t,d=s.1)\/∃ s∈l,d=s.1\/d=s.2)) {d:Int} (d0:0<=d) (d1:d<=999999) :
  valOf (((0:Int)::ns).map fun k=>(k,chv t l k)) d=chv t l d:=by
 obtain ⟨m,hm,top⟩:=zmv ((0::ns).filter fun k=>decide (k<=d)) (by
  intro z
  have:=ych.mp z 0 yaj
  simp at this
  ac_rfl)
 obtain ⟨hm1,hm2⟩:=yaq.mp hm
 have md:m<=d:=by simpa using hm2
 have top':∀ k∈(0:Int)::ns,k<=d->k<=m:=fun k hk z=>top k (yaq.mpr ⟨hk,by simpa using z⟩)
 have k0:∀ k∈(0:Int)::ns,0<=k:=fun k hk=>by
  rcases yal.mp hk with rfl | hk
  ·exact ydx _
  ·have:=((hd k).mp hk).1
   ac_rfl
 have m0:=k0 m hm1
 rw[zq1 k0 hm1 md top']
 have key:∀ x:Int,((∃ s∈t,x=s.1)\/∃ s∈l,x=s.1\/x=s.2)->(x<=d↔x<=m):=fun x hx=>⟨fun z=>by
  by_cases x0:0<x
  ·exact top' x (yah _ ((hd x).mpr ⟨⟨x0,by ac_rfl⟩,hx⟩)) z
  ·ac_rfl,fun z=>by ac_rfl⟩
 unfold chv
 rw[zpY (d:=d) (m:=m) fun s hs=>⟨key s.1 (.inr ⟨s,hs,.inl rfl⟩),key s.2 (.inr ⟨s,hs,.inr rfl⟩)⟩,zi0 (d:=d) (m:=m) fun s hs=>key s.1 (.inl ⟨s,hs,rfl⟩)]
noncomputable def kdN (n:Int):Kd:=(fun c:Int=>if c=0 then .plain else if c=1 then .bank else if c=2 then .thirty else .exact) (n % 4)
structure Kinder (b c:BkT):Prop where
 kd:b.kd=c.kd
 outs:b.outs=c.outs
 turns:∀ d∈b.turns,d∈c.turns
 pays:∀ d:Int,0<=d->d<=999999->upto c.pays d<=upto b.pays d
 fees:∀ d:Int,0<=d->d<=999999->upto b.fees d<=upto c.fees d
 dues:∀ d:Int,0<=d->d<=999999->upto b.dues (d-b.g)<=upto c.dues (d-c.g)
 rates:∀ d:Int,0<=d->d<=999999->chv b.rates b.spans d<=chv c.rates c.spans d
 lates:∀ d:Int,0<=d->d<=999999->chv b.lates b.spans d<=chv c.lates c.spans d
theorem zkt:∀ l r:List (Int × Int),PyData.eqvAll (l.map zfS) (r.map zfS)=decide (l=r)
 | [],[]=>rfl
 | [],_::_=>rfl
 | _::_,[]=>rfl
 | s::l,u::r=>by
  rw[yay,yay]
  unfold PyData.eqvAll
  rw[zkt l r]
  obtain ⟨a,b⟩:=s
  obtain ⟨c,d⟩:=u
  show (PyData.eqv (.tuple [.int a,.int b]) (.tuple [.int c,.int d]) && decide (l=r))=_
  rw[Bool.eq_iff_iff]
  simp[PyData.eqv,PyData.eqvAll]
theorem zpM (l r:List (Int × Int)):PyData.eqv (.list (l.map zfS)) (.list (r.map zfS))=decide (l=r):=by
 show PyData.eqvAll _ _=_
 exact zkt l r
end L2
namespace L2
open PySem Sums
noncomputable def tb {α:Type} (f:Nat->α):List α:=(yas 130).map f
def Th (n b:Int) (k:Ek) (d x:Int):Prop:=match k with
 | .out=>1<=x
 | .pay=>1<=x
 | .due=>1<=x
 | .rate=>0<=x/\x<=1000000
 | .late=>0<=x/\x<=1000000
 | .still=>d<x/\x<=b+79+n/\x<=1000000
 | .fee=>True
 | .turn=>True
 | .base=>False
noncomputable def zeY (g:Int) (es:List Er):List (Int × Int):=shf g (mvp (mvd (prs "still" es)) (prs "due" es))
theorem ze8:∀ k c:Ek,V.str k.word=V.str c.word->k=c:=by
 intro k c
 cases k <;> cases c <;> first | exact fun _=>rfl | (intro h;exact absurd h (by decide))
theorem zdr {k:Ek} {e:Er} (h:isW k.word e=true):e.1=k:=ze8 _ _ (of_decide_eq_true h)
theorem LL.zln {α:Type} {R:V->α->Prop} {vs:List V} {es:List α} (h:LL R vs es):∀ n,LL R (vs.drop n) (es.drop n):=by
 induction h with
 | nil=>intro n;rw[List.drop_nil,List.drop_nil];exact .nil
 | cons h k ih =>
  intro n
  cases n with
  | zero=>exact .cons h k
  | succ n=>exact ih n
theorem zkI {lo:Int} {n:Nat} {ix:List Nat} {tt:TT} {te:TE} {σ:St} {l:Addr} {H:Hp} {R:Hp->Prop} (hl:H l=none) (hz:n<=sizeLine) (f:Nat->Bool)
  (ht:∀ (i:Nat) H' Q',i<n->Same H H'->Q' (f i) H'->tt (some (.int (lo+i))::capts σ ix) H' Q')
  (he:∀ (i:Nat) H' Q',i<n->f i=true->Same H H'->Q' (.int (lo+i)) H'->te (some (.int (lo+i))::capts σ ix) H' Q')
  (fin:R (upd H l (.lst (((yas n).filter f).map fun i:Nat=>V.int (lo+i))))) :
  ∃ W:Nat->Nat->List V->Hp->Prop,(∃ m,W 0 m [] (upd H l (.lst [])))/\zf5 ix tt te σ (Itr lo n) l R W:=by
 refine ⟨fun i m ys H'=>m=n-i/\i<=n/\ys=((yas i).filter f).map (fun i:Nat=>V.int (lo+i))/\H'=upd H l (.lst ys),⟨n,by simp,ydc _,rfl,rfl⟩,?_⟩
 rintro i m ys H' ⟨rfl,hi,hy,rfl⟩
 refine ⟨zg,?_⟩
 by_cases hlt:i<n
 ·have yl:ys.length<=i:=by
   rw[hy,yab]
   exact yde (yaw _ _) (by rw[yby];exact ycz _)
  refine .inr ⟨hlt,by ac_rfl,fun x H2 y=>?_⟩
  obtain ⟨rfl,rfl⟩:=y
  have sH:=zc hl (.lst ys)
  refine ht i _ _ hlt sH ?_
  cases b:f i with
  | true =>
   rw[if_pos rfl]
   refine he i _ _ hlt b sH ⟨zg,n-(i+1),by ac_rfl,rfl,hlt,?_,by rw[zay]⟩
   rw[hy,ycs,ybj,yat,ybc b]
   rfl
  | false =>
   rw[if_neg Bool.false_ne_true]
   refine ⟨n-(i+1),by ac_rfl,rfl,hlt,?_,rfl⟩
   rw[hy,ycs,ybj,yat,ybd (by rw[b];decide)]
   simp
 ·obtain rfl:i=n:=by ac_rfl
  exact .inl ⟨by show i<=i;ac_rfl,by rw[hy];exact fin⟩
theorem zks:∀ a b:List Int,PyData.eqvAll (a.map PyData.int) (b.map PyData.int)=decide (a=b)
 | [],[]=>rfl
 | [],_::_=>rfl
 | _::_,[]=>rfl
 | x::a,y::b=>by
  rw[yay,yay]
  unfold PyData.eqvAll
  rw[zks a b,Bool.eq_iff_iff]
  simp[PyData.eqv]
theorem ziG (a b:List Int):PyData.eqv (.list (a.map PyData.int)) (.list (b.map PyData.int))=decide (a=b):=by
 show PyData.eqvAll _ _=_
 exact zks a b
end L2
namespace L2
open PySem Sums
theorem zbT {c:BkT} (I:zbY c) {w:Str} {t:List (Int × Int)} (T:Stills.TabOf (prs w c.es) t) (d:Int):chv t c.spans d=chv (prs w c.es) (prs "still" c.es) d:=by
 have e:Spans.isIn c.spans d=Spans.isIn (prs "still" c.es) d:=by
  rw[Bool.eq_iff_iff,Spans.zbO,Spans.zbO]
  exact I.spans.2 d
 unfold chv
 rw[e,T.val]
theorem zp6 (c:BkT):Kinder c c:=⟨rfl,rfl,fun _ h=>h,fun _ _ _=>ydx _,fun _ _ _=>ydx _,fun _ _ _=>ydx _,fun _ _ _=>ydx _,fun _ _ _=>ydx _⟩
end L2
namespace L2
open PySem Sums
theorem zhB (l r:List (Int × Int)) (d:Int):upto (l++r) d=upto l d+upto r d:=by
 unfold upto
 rw[ybj,yat,List.sum_append]
theorem zbp (w:Str) (es fs:List Er):prs w (es++fs)=prs w es++prs w fs:=by
 unfold prs
 rw[ybj,yat]
theorem zgP (w:Str) (e:Er) (es:List Er):prs w (e::es)=(if isW w e=true then [e.2] else [])++prs w es:=by
 unfold prs
 by_cases c:isW w e=true
 ·rw[ybc c,if_pos c];rfl
 ·rw[ybd c,if_neg c];rfl
theorem znN (w:Str) (es fs:List Er):dys w (es++fs)=dys w es++dys w fs:=by
 unfold dys
 rw[ybj,yat]
structure zae (g:Int) (es es':List Er):Prop where
 outs:prs "out" es=prs "out" es'
 turns:∀ d∈dys "turn" es,d∈dys "turn" es'
 pays:∀ d,upto (prs "pay" es') d<=upto (prs "pay" es) d
 fees:∀ d,upto (prs "fee" es) d<=upto (prs "fee" es') d
 dues:∀ d,upto (zeY g es) d<=upto (zeY g es') d
 rates:∀ d,chv (prs "rate" es) (prs "still" es) d<=chv (prs "rate" es') (prs "still" es') d
 lates:∀ d,chv (prs "late" es) (prs "still" es) d<=chv (prs "late" es') (prs "still" es') d
theorem zae.refl (g:Int) (es:List Er):zae g es es:=⟨rfl,fun _ h=>h,fun _=>ydx _,fun _=>ydx _,fun _=>ydx _,fun _=>ydx _,fun _=>ydx _⟩
theorem zae.trans {g:Int} {a b c:List Er} (h:zae g a b) (k:zae g b c):zae g a c :=
 ⟨h.outs.trans k.outs,fun d hd=>k.turns d (h.turns d hd),fun d=>yea (k.pays d) (h.pays d),fun d=>yea (h.fees d) (k.fees d),fun d=>yea (h.dues d) (k.dues d),fun d=>yea (h.rates d) (k.rates d),fun d=>yea (h.lates d) (k.lates d)⟩
theorem zrA {r r' l:List (Int × Int)} (T:Sby.Tab r l) (T':Sby.Tab r' l):r=r':=by
 have kk:r.map (·.1)=r'.map (·.1):=Sby.zsL T.up T'.up fun d=>by rw[T.mem,T'.mem]
 have rr:∀ {r l:List (Int × Int)},Sby.Tab r l->r=(r.map (·.1)).map fun d=>(d,Sby.sm l d):=fun {r l} T=>by
  rw[ybn]
  conv=>lhs;rw[<-List.map_id r]
  exact ybz fun s hs=>by
   show s=(s.1,Sby.sm l s.1)
   rw[<-T.val s hs]
 rw[rr T,rr T',kk]
theorem zae.kinder {c c':BkT} (I:zbY c) (I':zbY c') (ek:c.kd=c'.kd) (eg:c.g=c'.g) (h:zae c.g c.es c'.es):Kinder c c' where
 kd:=ek
 outs:=zrA I.outs (h.outs ▸ I'.outs)
 turns:=fun d hd=>(I'.turns.mem d).mpr (h.turns d ((I.turns.mem d).mp hd))
 pays:=fun d _ _=>by rw[zaI I.pays,zaI I'.pays];exact h.pays d
 fees:=fun d _ _=>by rw[zaI I.fees,zaI I'.fees];exact h.fees d
 dues:=fun d _ _=>by
  have:=h.dues d
  unfold zeY at this
  rw[zbW,zbW,<-zaI I.dues,<-zaI I'.dues] at this
  rwa [<-eg]
 rates:=fun d _ _=>by rw[zbT I I.rates.1,zbT I' I'.rates.1];exact h.rates d
 lates:=fun d _ _=>by rw[zbT I I.lates.1,zbT I' I'.lates.1];exact h.lates d
theorem zss {k:Ek} {w:Ek} {d x:Int} (h:k≠w):isW w.word (k,d,x)=false:=by
 cases e:isW w.word (k,d,x) with
 | false=>rfl
 | true=>exact absurd (zdr e) h
theorem zci {A B:List Er} {k w:Ek} {d x:Int} (h:k≠w):prs w.word (A++(k,d,x)::B)=prs w.word (A++B):=by
 rw[zbp,zbp,zgP,if_neg (by rw[zss h];decide)]
 rfl
theorem zaG {A B:List Er} {k:Ek} {d x:Int}:prs k.word (A++(k,d,x)::B)=prs k.word A++(d,x)::prs k.word B:=by
 rw[zbp,zgP,if_pos (show isW k.word (k,d,x)=true from decide_eq_true rfl)]
 rfl
theorem zbR (l r:List (Int × Int)) (z x d:Int):upto (l++(z,x)::r) d=upto (l++r) d+if z<=d then x else 0:=by
 rw[zhB,zdV,zhB]
 show upto l d+((if z<=d then x else 0)+upto r d)=_
 ac_rfl
theorem zmU {l r:List (Int × Int)} (h:∀ d,Spans.Cov l d->Spans.Cov r d) {d e:Int} (de:d<=e):mvd l d<=mvd r e:=by
 have a:=zf1 l d
 have b:=zf1 r e
 rcases Int.lt_or_le (mvd r e) (mvd l d) with q | q
 ·exact absurd (h _ (a.all _ (yea de b.from_) q)) b.out
 ·exact q
theorem zpz {f f':Int->Int} (h:∀ d,f d<=f' d):∀ {l:List (Int × Int)},(∀ s∈l,0<=s.2)->∀ d,upto (l.map fun s=>(f' s.1,s.2)) d<=upto (l.map fun s=>(f s.1,s.2)) d
 | [],_,d=>ydx _
 | s::l,p,d=>by
  have ih:=zpz h (l:=l) (fun x hx=>p x (yah _ hx)) d
  have p0:=p s yaj
  have hs:=h s.1
  rw[yay,yay,zdV,zdV]
  show (if f' s.1<=d then s.2 else 0)+_<=(if f s.1<=d then s.2 else 0)+_
  by_cases c:f' s.1<=d
  ·rw[if_pos c,if_pos (by ac_rfl)];ac_rfl
  ·rw[if_neg c]
   split <;> ac_rfl
theorem zbg (g:Int) (es:List Er):zeY g es=(prs "due" es).map fun s=>(mvd (prs "still" es) s.1+g,s.2):=by
 unfold zeY shf mvp
 rw[ybn]
 rfl
theorem zmu {d:Int}:∀ (t:List (Int × Int)) (s s':Int × Int),s.1=s'.1->s.2<=s'.2->(t.foldl (vstep d) s).2<=(t.foldl (vstep d) s').2
 | [],_,_,_,h=>h
 | r::t,s,s',e,h=>by
  rw[ybe,ybe]
  unfold vstep
  rw[<-e]
  by_cases c:s.1<=r.1/\r.1<=d
  ·rw[if_pos c,if_pos c]
   exact ydx _
  ·rw[if_neg c,if_neg c]
   exact zmu t s s' e h
theorem zqL (A B:List (Int × Int)) {z x y:Int} (h:x<=y) (d:Int):valOf (A++(z,x)::B) d<=valOf (A++(z,y)::B) d:=by
 unfold valOf
 rw[ybs,ybs,ybe,ybe]
 generalize A.foldl (vstep d) (-1,0)=s
 refine zmu B _ _ ?_ ?_
 ·unfold vstep
  dsimp only
  split <;> rfl
 ·unfold vstep
  dsimp only
  split
  ·exact h
  ·exact ydx _
theorem zn4 {t:List (Int × Int)} (p:∀ s∈t,0<=s.2) (d:Int):0<=valOf t d:=by
 unfold valOf
 suffices h:∀ (t:List (Int × Int)) (s:Int × Int),(∀ s∈t,0<=s.2)->0<=s.2->0<=(t.foldl (vstep d) s).2 from h t _ p (ydx _)
 intro t
 induction t with
 | nil=>intro s _ h;exact h
 | cons r t ih =>
  intro s p h
  rw[ybe]
  refine ih _ (fun x hx=>p x (yah _ hx)) ?_
  unfold vstep
  split
  ·exact p r yaj
  ·exact h
theorem zj0 (w:Str) (es:List Er):dys w es=(prs w es).map (·.1):=by
 unfold dys prs
 rw[ybn]
 rfl
theorem zaO {g:Int} {es es':List Er} (w0:Ek) (hs:∀ w:Ek,w≠w0->prs w.word es=prs w.word es') (ho:w0≠.out)
  (ht:w0=.turn->∀ d∈dys "turn" es,d∈dys "turn" es') (hp:w0=.pay->∀ d,upto (prs "pay" es') d<=upto (prs "pay" es) d) (hf:w0=.fee->∀ d,upto (prs "fee" es) d<=upto (prs "fee" es') d)
  (hd:w0=.due\/w0=.still->∀ d,upto (zeY g es) d<=upto (zeY g es') d) (hr:∀ w:Ek,(w=.rate\/w=.late)->(w0=w\/w0=.still)->∀ d,chv (prs w.word es) (prs "still" es) d<=chv (prs w.word es') (prs "still" es') d):zae g es es' where
 outs:=hs .out (fun z=>ho z.symm)
 turns:=by
  by_cases c:w0=.turn
  ·exact ht c
  ·rw[zj0,zj0,show prs "turn" es=prs "turn" es' from hs .turn fun z=>c z.symm]
   exact fun _ h=>h
 pays:=by
  by_cases c:w0=.pay
  ·exact hp c
  ·intro d
   rw[show prs "pay" es=prs "pay" es' from hs .pay fun z=>c z.symm]
   exact ydx _
 fees:=by
  by_cases c:w0=.fee
  ·exact hf c
  ·intro d
   rw[show prs "fee" es=prs "fee" es' from hs .fee fun z=>c z.symm]
   exact ydx _
 dues:=by
  by_cases c:w0=.due\/w0=.still
  ·exact hd c
  ·intro d
   rw[zbg,zbg,show prs "due" es=prs "due" es' from hs .due fun z=>c (.inl z.symm),show prs "still" es=prs "still" es' from hs .still fun z=>c (.inr z.symm)]
   exact ydx _
 rates:=by
  by_cases c:w0=.rate\/w0=.still
  ·exact hr .rate (.inl rfl) c
  ·intro d
   rw[show prs "rate" es=prs "rate" es' from hs .rate fun z=>c (.inl z.symm),show prs "still" es=prs "still" es' from hs .still fun z=>c (.inr z.symm)]
   exact ydx _
 lates:=by
  by_cases c:w0=.late\/w0=.still
  ·exact hr .late (.inr rfl) c
  ·intro d
   rw[show prs "late" es=prs "late" es' from hs .late fun z=>c (.inl z.symm),show prs "still" es=prs "still" es' from hs .still fun z=>c (.inr z.symm)]
   exact ydx _
section
variable {g:Int} {A B:List Er} {z z' x x':Int}
theorem zdg {k:Ek} (w:Ek) (h:w≠k):prs w.word (A++(k,z',x')::B)=prs w.word (A++(k,z,x)::B):=by rw[zci fun y=>h y.symm,zci fun y=>h y.symm]
theorem zie (hz:z'<=z) (hx:x<=x') (h0:0<=x'):zae g (A++(.pay,z',x')::B) (A++(.pay,z,x)::B):=by
 refine zaO .pay zdg (by intro y;cases y) (fun y=>by cases y) (fun _ d=>?_) (fun y=>by cases y) (fun y=>by rcases y with y | y <;> cases y) (fun w hw y=>by rcases y with rfl | y;(rcases hw with y | y <;> cases y);cases y)
 rw[show ("pay" : Str)=Ek.pay.word from rfl,zaG,zaG,zbR,zbR]
 by_cases c:z<=d
 ·rw[if_pos c,if_pos (by ac_rfl)];ac_rfl
 ·rw[if_neg c]
  split <;> ac_rfl
theorem zqc (h0:0<=x'):zae g (A++(.pay,z',x')::B) (A++B):=by
 refine zaO .pay (fun w hw=>zci fun y=>hw y.symm) (by intro y;cases y) (fun y=>by cases y) (fun _ d=>?_) (fun y=>by cases y) (fun y=>by rcases y with y | y <;> cases y) (fun w hw y=>by rcases y with rfl | y;(rcases hw with y | y <;> cases y);cases y)
 rw[show ("pay" : Str)=Ek.pay.word from rfl,zaG,zbp,zbR]
 split <;> ac_rfl
theorem zr4 (hx:x'<=x):zae g (A++(.fee,z,x')::B) (A++(.fee,z,x)::B):=by
 refine zaO .fee zdg (by intro y;cases y) (fun y=>by cases y) (fun y=>by cases y) (fun _ d=>?_) (fun y=>by rcases y with y | y <;> cases y) (fun w hw y=>by rcases y with rfl | y;(rcases hw with y | y <;> cases y);cases y)
 rw[show ("fee" : Str)=Ek.fee.word from rfl,zaG,zaG,zbR,zbR]
 split <;> ac_rfl
theorem zqB (hx:x'<=0):zae g (A++(.fee,z,x')::B) (A++B):=by
 refine zaO .fee (fun w hw=>zci fun y=>hw y.symm) (by intro y;cases y) (fun y=>by cases y) (fun y=>by cases y) (fun _ d=>?_) (fun y=>by rcases y with y | y <;> cases y) (fun w hw y=>by rcases y with rfl | y;(rcases hw with y | y <;> cases y);cases y)
 rw[show ("fee" : Str)=Ek.fee.word from rfl,zaG,zbp,zbR]
 split <;> ac_rfl
theorem zly:zae g (A++B) (A++(.turn,z,x)::B):=by
 refine zaO .turn (fun w hw=>(zci fun y=>hw y.symm).symm) (by intro y;cases y) (fun _ d hd=>?_) (fun y=>by cases y) (fun y=>by cases y) (fun y=>by rcases y with y | y <;> cases y) (fun w hw y=>by rcases y with rfl | y;(rcases hw with y | y <;> cases y);cases y)
 rw[znN] at hd ⊢
 rcases yam.mp hd with h | h
 ·exact ybb _ h
 ·refine yaf _ ?_
  rw[zj0] at h ⊢
  rw[zgP,yat]
  exact yaf _ h
theorem zq8 {k:Ek} (hk:k=.rate\/k=.late) (hx:x'<=x):zae g (A++(k,z,x')::B) (A++(k,z,x)::B):=by
 refine zaO k zdg (by rcases hk with rfl | rfl <;> (intro y;cases y)) (fun y=>by rcases hk with rfl | rfl <;> cases y) (fun y=>by rcases hk with rfl | rfl <;> cases y) (fun y=>by rcases hk with rfl | rfl <;> cases y) (fun y=>by rcases hk with rfl | rfl <;> (rcases y with y | y <;> cases y)) (fun w _ y d=>?_)
 have kw:k=w:=by
  rcases y with y | y
  ·exact y
  ·rcases hk with rfl | rfl <;> cases y
 subst kw
 have st:prs "still" (A++(k,z,x')::B)=prs "still" (A++(k,z,x)::B):=zdg .still (by rcases hk with rfl | rfl <;> (intro y;cases y))
 unfold chv
 rw[st,zaG,zaG]
 split
 ·exact ydx _
 ·exact zqL _ _ hx d
theorem zrr (hz:z<=z') (hx:x'<=x) (h0:0<=x):zae g (A++(.due,z',x')::B) (A++(.due,z,x)::B):=by
 refine zaO .due zdg (by intro y;cases y) (fun y=>by cases y) (fun y=>by cases y) (fun y=>by cases y) (fun _ d=>?_) (fun w hw y=>by rcases y with rfl | y;(rcases hw with y | y <;> cases y);cases y)
 have st:prs "still" (A++(.due,z',x')::B)=prs "still" (A++(.due,z,x)::B):=zdg .still (by intro y;cases y)
 rw[zbg,zbg,st,show ("due" : Str)=Ek.due.word from rfl,zaG,zaG,yat,yat,yay,yay,zbR,zbR]
 have m:=zmU (l:=prs "still" (A++(.due,z,x)::B)) (r:=prs "still" (A++(.due,z,x)::B)) (fun _ h=>h) hz
 dsimp only
 by_cases c:mvd (prs "still" (A++(.due,z,x)::B)) z'+g<=d
 ·rw[if_pos c,if_pos (by ac_rfl)];ac_rfl
 ·rw[if_neg c]
  split <;> ac_rfl
theorem zme (h0:0<=x):zae g (A++B) (A++(.due,z,x)::B):=by
 refine zaO .due (fun w hw=>(zci fun y=>hw y.symm).symm) (by intro y;cases y) (fun y=>by cases y) (fun y=>by cases y) (fun y=>by cases y) (fun _ d=>?_) (fun w hw y=>by rcases y with rfl | y;(rcases hw with y | y <;> cases y);cases y)
 have st:prs "still" (A++(.due,z,x)::B)=prs "still" (A++B):=zci (w:=.still) (by intro y;cases y)
 rw[zbg,zbg,st,show ("due" : Str)=Ek.due.word from rfl,zaG,zbp Ek.due.word A B,yat,yat,yay,zbR]
 split <;> ac_rfl
theorem zpy {es:List Er} (hd:∀ s∈prs "due" es,0<=s.2) (hr:∀ w:Ek,(w=.rate\/w=.late)->∀ s∈prs w.word es,0<=s.2):zae g ((.still,z,x)::es) es:=by
 have cv:∀ d,Spans.Cov (prs "still" es) d->Spans.Cov (prs "still" ((.still,z,x)::es)) d:=fun d ⟨s,hs,h⟩=>⟨s,by rw[zgP];exact yaf _ hs,h⟩
 have no:∀ w:Ek,w≠.still->prs w.word ((.still,z,x)::es)=prs w.word es:=fun w hw=>zci (A:=[]) fun y=>hw y.symm
 refine zaO .still no (by intro y;cases y) (fun y=>by cases y) (fun y=>by cases y) (fun y=>by cases y) (fun _ d=>?_) (fun w hw y d=>?_)
 ·rw[zbg,zbg,show prs "due" ((.still,z,x)::es)=prs "due" es from no .due (by intro y;cases y)]
  exact zpz (f:=fun t=>mvd (prs "still" es) t+g) (f':=fun t=>mvd (prs "still" ((.still,z,x)::es)) t+g) (fun t=>by have:=zmU cv (ydx t);ac_rfl) hd d
 ·unfold chv
  rw[no w (by rcases hw with rfl | rfl <;> (intro y;cases y))]
  by_cases c:Spans.isIn (prs "still" es) d=true
  ·rw[if_pos c,if_pos (Spans.zbO.mpr (cv d (Spans.zbO.mp c)))]
   exact ydx _
  ·rw[if_neg c]
   split
   ·exact zn4 (hr w hw) d
   ·exact ydx _
end
structure Sg (n b:Int) (e:Er):Prop where
 lo:b<=e.2.1
 hi:e.2.1<=b+59+8*n
 th:Th 0 b e.1 e.2.1 e.2.2
def Sgs (n b:Int) (es:List Er):Prop:=∀ e∈es,Sg n b e
theorem Sg.more {n m b:Int} {e:Er} (h:Sg n b e) (l:n<=m):Sg m b e:=⟨h.lo,by have:=h.hi;ac_rfl,h.th⟩
theorem Sg.nb {n b:Int} {e:Er} (h:Sg n b e):e.1≠.base:=fun z=>by
 have:=h.th
 rw[z] at this
 exact this
theorem Sgs.more {n m b:Int} {es:List Er} (h:Sgs n b es) (l:n<=m):Sgs m b es:=fun e he=>(h e he).more l
theorem Sgs.app {n b:Int} {es fs:List Er} (h:Sgs n b es) (k:Sgs n b fs):Sgs n b (es++fs):=fun e he=>(yam.mp he).elim (h e) (k e)
theorem Sgs.take {n b:Int} {es:List Er} (h:Sgs n b es) (m:Nat):Sgs n b (es.take m):=fun e he=>h e (List.mem_of_mem_take he)
theorem Sgs.drop {n b:Int} {es:List Er} (h:Sgs n b es) (m:Nat):Sgs n b (es.drop m):=fun e he=>h e (List.mem_of_mem_drop he)
theorem Sgs.one {n b:Int} {e:Er} (h:Sg n b e):Sgs n b [e]:=fun x hx=>by rw[yan.mp hx];exact h
theorem Sgs.due {n b:Int} {es:List Er} (h:Sgs n b es):∀ s∈prs "due" es,0<=s.2:=fun s hs=>by
 obtain ⟨e,he,rfl⟩:=yag.mp hs
 obtain ⟨x1,x2⟩:=yaq.mp he
 have:=(h e x1).th
 rw[zdr (k:=.due) x2] at this
 have:1<=e.2.2:=this
 ac_rfl
theorem Sgs.rate {n b:Int} {es:List Er} (h:Sgs n b es):∀ w:Ek,(w=.rate\/w=.late)->∀ s∈prs w.word es,0<=s.2/\s.2<=1000000:=fun w hw s hs=>by
 obtain ⟨e,he,rfl⟩:=yag.mp hs
 obtain ⟨x1,x2⟩:=yaq.mp he
 have:=(h e x1).th
 rw[zdr x2] at this
 rcases hw with rfl | rfl <;> exact this
theorem Sgs.still {n b:Int} {es:List Er} (h:Sgs n b es):∀ s∈prs "still" es,s.1<s.2/\s.2<=b+79:=fun s hs=>by
 obtain ⟨e,he,rfl⟩:=yag.mp hs
 obtain ⟨x1,x2⟩:=yaq.mp he
 have:=(h e x1).th
 rw[zdr (k:=.still) x2] at this
 exact ⟨this.1,by have:=this.2.1;ac_rfl⟩
end L2
namespace L2
open PySem Sums
theorem zlX (z x d:Int):upto [(z,x)] d=if z<=d then x else 0:=by
 rw[zdV,zhd (fun s hs=>by cases hs),Int.add_zero]
def Hard (es es':List Er):Prop:=∀ c c':BkT,zbY c->zbY c'->c.g=c'.g->0<=c.g/\c.g<=40->c.es=es->c'.es=es'->¬ Kinder c' c
theorem zqH {es es':List Er} (d:Int) (d0:0<=d) (d1:d<=999999) (h:upto (prs "pay" es') d<upto (prs "pay" es) d):Hard es es':=fun c c' I I' eg g0 e e' k=>by
 subst e e'
 have:=k.pays d d0 d1
 rw[zaI I.pays,zaI I'.pays] at this
 ac_rfl
theorem zqj {es es':List Er} (d:Int) (d0:0<=d) (d1:d<=999999) (h:upto (prs "fee" es) d<upto (prs "fee" es') d):Hard es es':=fun c c' I I' eg g0 e e' k=>by
 subst e e'
 have:=k.fees d d0 d1
 rw[zaI I.fees,zaI I'.fees] at this
 ac_rfl
theorem zqX {es es':List Er} (h:∀ g,0<=g/\g<=40->∃ d,0<=d/\d<=999999/\upto (zeY g es) d<upto (zeY g es') d):Hard es es':=fun c c' I I' eg g0 e e' k=>by
 subst e e'
 obtain ⟨d,d0,d1,l⟩:=h c.g g0
 have:=k.dues d d0 d1
 unfold zeY at l
 rw[zbW,zbW,<-zaI I.dues,<-zaI I'.dues] at l
 rw[<-eg] at this
 ac_rfl
theorem zhR {es es':List Er} {w:Ek} (hw:w=.rate\/w=.late) (d:Int) (d0:0<=d) (d1:d<=999999) (h:chv (prs w.word es) (prs "still" es) d<chv (prs w.word es') (prs "still" es') d):Hard es es':=fun c c' I I' eg g0 e e' k=>by
 subst e e'
 rcases hw with rfl | rfl
 ·have:=k.rates d d0 d1
  rw[zbT I I.rates.1,zbT I' I'.rates.1] at this
  exact absurd this (Int.not_le.mpr h)
 ·have:=k.lates d d0 d1
  rw[zbT I I.lates.1,zbT I' I'.lates.1] at this
  exact absurd this (Int.not_le.mpr h)
theorem zpb {es es':List Er} (d:Int) (h:d∈dys "turn" es') (n:d ∉ dys "turn" es):Hard es es':=fun c c' I I' eg g0 e e' k=>by
 subst e e'
 exact n ((I.turns.mem d).mp (k.turns d ((I'.turns.mem d).mpr h)))
def Apart (es es':List Er):Prop:=∀ c c':BkT,zbY c->zbY c'->c.es=es->c'.es=es'->c.outs≠c'.outs
theorem zkn {es:List Er} {d x:Int} (h:x≠0):Apart es (es++[(.out,d,x)]):=fun c c' I I' e e' k=>by
 have p:prs "out" c'.es=prs "out" c.es++[(d,x)]:=by rw[e',zbp,e];rfl
 have O:=I'.outs
 rw[p,<-k] at O
 obtain ⟨s,hs,es⟩:=yag.mp ((O.mem d).mpr (by rw[yat];exact yaf _ (yan.mpr rfl)))
 have a:=O.val s hs
 have b:=I.outs.val s hs
 rw[Sby.zjK,if_pos es.symm,<-b] at a
 ac_rfl
theorem Apart.hard {es es':List Er} (h:Apart es es'):Hard es es':=fun c c' I I' _ _ e e' k=>h c c' I I' e e' k.outs.symm
section
variable {g:Int} {es A B:List Er} {z z' x x':Int}
theorem ziV (hx:0<=x):zae g es (es++[(.fee,z,x)]):=by
 have:=zaO (g:=g) (es:=es) (es':=es++[(.fee,z,x)]) .fee (fun w hw=>by have:=zci (A:=es) (B:=[]) (k:=.fee) (w:=w) (d:=z) (x:=x) (fun y=>hw y.symm);rw[ybi] at this;exact this.symm) (by intro y;cases y) (fun y=>by cases y) (fun y=>by cases y) (fun _ d=>?_) (fun y=>by rcases y with y | y <;> cases y) (fun w hw y=>by rcases y with rfl | y;(rcases hw with y | y <;> cases y);cases y)
 ·exact this
 ·rw[zbp,zhB]
  show _<=_+upto [(z,x)] d
  rw[zlX]
  split <;> ac_rfl
theorem zhf (z0:0<=z) (z1:z<=999999) (hx:0<x):Hard es (es++[(.fee,z,x)]):=zqj z z0 z1 (by
 rw[zbp,zhB]
 show _<_+upto [(z,x)] z
 rw[zlX,if_pos (ydx _)]
 ac_rfl)
theorem zqs (hx:0<=x):zae g es (es++[(.due,z,x)]):=by
 have:=zme (g:=g) (A:=es) (B:=[]) (z:=z) hx
 rwa [ybi] at this
theorem zpO {b:Int} (z0:0<=z) (z1:z<=999799) (b1:b<=999699) (st:∀ s∈prs "still" es,s.1<s.2/\s.2<=b+79) (hx:0<x):Hard es (es++[(.due,z,x)]):=zqX fun g g0=>by
 have m:=zf1 (prs "still" es) z
 have mz:=m.from_
 have mt:mvd (prs "still" es) z<=999799:=by
  rcases Int.lt_or_le z (mvd (prs "still" es) z) with q | q
  ·obtain ⟨s,hs,h1,h2⟩:=m.all (mvd (prs "still" es) z-1) (by ac_rfl) (by ac_rfl)
   have:=st s hs
   ac_rfl
  ·ac_rfl
 refine ⟨mvd (prs "still" es) z+g,by ac_rfl,by ac_rfl,?_⟩
 have e1:prs "still" (es++[(.due,z,x)])=prs "still" es:=by rw[zbp];exact ybi _
 have e2:prs "due" (es++[(.due,z,x)])=prs "due" es++[(z,x)]:=by rw[zbp];rfl
 rw[zbg,zbg,e1,e2,yat,zhB]
 show _<_+upto [(mvd (prs "still" es) z+g,x)] _
 rw[zlX,if_pos (ydx _)]
 ac_rfl
theorem zpr:zae g es (es++[(.turn,z,x)]):=by
 have:=zly (g:=g) (A:=es) (B:=[]) (z:=z) (x:=x)
 rwa [ybi] at this
theorem zog (n:z ∉ dys "turn" es):Hard es (es++[(.turn,z,x)]):=zpb z (by rw[znN];exact yaf _ (yan.mpr rfl)) n
theorem ziT {t:List (Int × Int)} {M:Int} (M0:0<=M) (p:∀ s∈t,s.2<=M) (d:Int):valOf t d<=M:=by
 unfold valOf
 suffices h:∀ (t:List (Int × Int)) (s:Int × Int),(∀ s∈t,s.2<=M)->s.2<=M->(t.foldl (vstep d) s).2<=M from h t _ p M0
 intro t
 induction t with
 | nil=>intro s _ h;exact h
 | cons r t ih =>
  intro s p h
  rw[ybe]
  refine ih _ (fun x hx=>p x (yah _ hx)) ?_
  unfold vstep
  split
  ·exact p r yaj
  ·exact h
theorem zkk {d M:Int}:∀ (t:List (Int × Int)) (s:Int × Int),(∀ s∈t,s.1<=M)->s.1<=M->(t.foldl (vstep d) s).1<=M
 | [],_,_,h=>h
 | r::t,s,p,h=>by
  rw[ybe]
  refine zkk t _ (fun x hx=>p x (yah _ hx)) ?_
  unfold vstep
  split
  ·exact p r yaj
  ·exact h
theorem ziC (t:List (Int × Int)) (d:Int):valOf (t++[(z,x)]) d=x\/valOf (t++[(z,x)]) d=valOf t d:=by
 unfold valOf
 rw[ybs]
 show (vstep d (t.foldl (vstep d) (-1,0)) (z,x)).2=x\/(vstep d (t.foldl (vstep d) (-1,0)) (z,x)).2=_
 unfold vstep
 split
 ·exact .inl rfl
 ·exact .inr rfl
theorem val_last {t:List (Int × Int)} (z0:0<=z) (p:∀ s∈t,s.1<=z):valOf (t++[(z,x)]) z=x:=by
 unfold valOf
 rw[ybs]
 show (vstep z (t.foldl (vstep z) (-1,0)) (z,x)).2=x
 have:=zkk (d:=z) (M:=z) t (-1,0) p (by show (-1:Int)<=z;ac_rfl)
 unfold vstep
 rw[if_pos ⟨this,ydx _⟩]
theorem zcw {k:Ek}:prs k.word (es++[(k,z,x)])=prs k.word es++[(z,x)]:=by
 have:=zaG (A:=es) (B:=[]) (k:=k) (d:=z) (x:=x)
 exact this
theorem zaL {k w:Ek} (h:k≠w):prs w.word (es++[(k,z,x)])=prs w.word es:=by
 have:=zci (A:=es) (B:=[]) (d:=z) (x:=x) h
 rwa [ybi] at this
theorem zkB {k:Ek} (hk:k=.rate\/k=.late) {M:Int} (M0:0<=M) (p:∀ s∈prs k.word es,s.2<=M) (hx:M<=x):zae g es (es++[(k,z,x)]):=by
 refine zaO k (fun w hw=>(zaL fun y=>hw y.symm).symm) (by rcases hk with rfl | rfl <;> (intro y;cases y)) (fun y=>by rcases hk with rfl | rfl <;> cases y) (fun y=>by rcases hk with rfl | rfl <;> cases y) (fun y=>by rcases hk with rfl | rfl <;> cases y) (fun y=>by rcases hk with rfl | rfl <;> (rcases y with y | y <;> cases y)) (fun w _ y d=>?_)
 have kw:k=w:=by
  rcases y with y | y
  ·exact y
  ·rcases hk with rfl | rfl <;> cases y
 subst kw
 have st:prs "still" (es++[(k,z,x)])=prs "still" es:=zaL (w:=.still) (by rcases hk with rfl | rfl <;> (intro y;cases y))
 unfold chv
 rw[st,zcw]
 split
 ·exact ydx _
 ·have:=ziT M0 p d
  rcases ziC (z:=z) (x:=x) (prs k.word es) d with e | e <;> rw[e] <;> ac_rfl
theorem zi9 {k:Ek} (hk:k=.rate\/k=.late) {M b:Int} (M0:0<=M) (p:∀ s∈prs k.word es,s.1<=z/\s.2<=M) (hx:M<x) (z0:0<=z) (z1:z<=999999) (bz:b+79<=z) (sl:∀ s∈prs "still" es,s.1<s.2/\s.2<=b+79):Hard es (es++[(k,z,x)]):=by
 refine zhR hk z z0 z1 ?_
 have st:prs "still" (es++[(k,z,x)])=prs "still" es:=zaL (w:=.still) (by rcases hk with rfl | rfl <;> (intro y;cases y))
 have no:Spans.isIn (prs "still" es) z=false:=by
  rw[Bool.eq_false_iff]
  intro q
  obtain ⟨s,hs,h1,h2⟩:=Spans.zbO.mp q
  have:=sl s hs
  ac_rfl
 unfold chv
 rw[st,zcw,no,val_last z0 fun s hs=>(p s hs).1]
 have:=ziT M0 (fun s hs=>(p s hs).2) z
 show valOf _ z<x
 ac_rfl
theorem zhk (z0:0<=z) (z1:z<=999999) (hz:z<=z') (hx:x'<=x) (h:(z<z'/\1<=x)\/x'<x) (h0:0<=x'):Hard (A++(.pay,z,x)::B) (A++(.pay,z',x')::B):=by
 refine zqH z z0 z1 ?_
 rw[show ("pay" : Str)=Ek.pay.word from rfl,zaG,zaG,zbR,zbR,if_pos (ydx z)]
 split <;> ac_rfl
end
section
variable {k:Ek} {D:Int}
noncomputable def wl0 (k:Ek) (D:Int):List Er:=[(.out,D-9,1000),(k,D-9,500)]
theorem zeZ (hk:k=.rate\/k=.late):prs k.word (wl0 k D)=[(D-9,500)]/\prs "still" (wl0 k D)=[]:=by
 rcases hk with rfl | rfl <;> exact ⟨rfl,rfl⟩
theorem zoZ (d:Int) (D0:9<=D):valOf [(D-9,500)] d=if D-9<=d then 500 else 0:=by
 show (vstep d (-1,0) (D-9,500)).2=_
 unfold vstep
 by_cases c:D-9<=d
 ·rw[if_pos c,if_pos ⟨by show (-1:Int)<=D-9;ac_rfl,c⟩]
 ·rw[if_neg c,if_neg fun z=>c z.2]
theorem zsz (hk:k=.rate\/k=.late) (D0:9<=D):zae 0 (wl0 k D) (wl0 k D++[(k,D,501),(k,D+1,500)]):=by
 have e:wl0 k D++[(k,D,501),(k,D+1,500)]=(wl0 k D++[(k,D,501)])++[(k,D+1,500)]:=by rw[ybm];rfl
 rw[e]
 refine zaO k (fun w hw=>?_) (by rcases hk with rfl | rfl <;> (intro y;cases y)) (fun y=>by rcases hk with rfl | rfl <;> cases y) (fun y=>by rcases hk with rfl | rfl <;> cases y) (fun y=>by rcases hk with rfl | rfl <;> cases y) (fun y=>by rcases hk with rfl | rfl <;> (rcases y with y | y <;> cases y)) (fun w _ y d=>?_)
 ·rw[zaL fun y=>hw y.symm,zaL fun y=>hw y.symm]
 have kw:k=w:=by
  rcases y with y | y
  ·exact y
  ·rcases hk with rfl | rfl <;> cases y
 subst kw
 have ns:k≠.still:=by rcases hk with rfl | rfl <;> (intro y;cases y)
 have st:prs "still" ((wl0 k D++[(k,D,501)])++[(k,D+1,500)])=prs "still" (wl0 k D):=(zaL (w:=.still) ns).trans (zaL (w:=.still) ns)
 unfold chv
 rw[st,zcw,zcw]
 split
 ·exact ydx _
 ·rw[(zeZ hk).1]
  have b:=ziT (t:=[(D-9,500)]) (M:=500) (by ac_rfl) (fun s hs=>by rw[yan.mp hs];exact ydx _) d
  rcases ziC (z:=D+1) (x:=500) ([(D-9,500)]++[(D,501)]) d with e | e <;> rw[e]
  ·exact b
  ·rcases ziC (z:=D) (x:=501) [(D-9,500)] d with e | e <;> rw[e] <;> ac_rfl
theorem zrE (hk:k=.rate\/k=.late) (D0:9<=D) (D1:D<=999999):Hard (wl0 k D) (wl0 k D++[(k,D,501),(k,D+1,500)]):=by
 have e:wl0 k D++[(k,D,501),(k,D+1,500)]=(wl0 k D++[(k,D,501)])++[(k,D+1,500)]:=by rw[ybm];rfl
 rw[e]
 refine zhR hk D (by ac_rfl) D1 ?_
 have ns:k≠.still:=by rcases hk with rfl | rfl <;> (intro y;cases y)
 have st:prs "still" ((wl0 k D++[(k,D,501)])++[(k,D+1,500)])=prs "still" (wl0 k D):=(zaL (w:=.still) ns).trans (zaL (w:=.still) ns)
 unfold chv
 rw[st,zcw,zcw,(zeZ hk).1,(zeZ hk).2]
 show valOf [(D-9,500)] D<valOf ([(D-9,500),(D,501)]++[(D+1,500)]) D
 rw[zoZ D D0,if_pos (by ac_rfl)]
 have h:valOf ([(D-9,500),(D,501)]++[(D+1,500)]) D=501:=by
  have a:=val_last (z:=D) (x:=501) (t:=[(D-9,500)]) (by ac_rfl) (fun s hs=>by rw[yan.mp hs];show D-9<=D;ac_rfl)
  have s:valOf ([(D-9,500),(D,501)]++[(D+1,500)]) D=valOf ([(D-9,500)]++[(D,501)]) D:=by
   unfold valOf
   rw[ybs]
   show (vstep D (List.foldl (vstep D) (-1,0) [(D-9,500),(D,501)]) (D+1,500)).2=_
   conv=>lhs;unfold vstep
   rw[if_neg fun z=>by have:D+1<=D:=z.2;ac_rfl]
   rfl
  rw[s,a]
 rw[h]
 decide
theorem zrn (hk:k=.rate\/k=.late) (D0:9<=D):zae 0 (wl0 k D++[(.still,D,D+1)]) (wl0 k D):=by
 have ns:k≠.still:=by rcases hk with rfl | rfl <;> (intro y;cases y)
 refine zaO .still (fun w hw=>zaL fun y=>hw y.symm) (by intro y;cases y) (fun y=>by cases y) (fun y=>by cases y) (fun y=>by cases y) (fun _ d=>?_) (fun w hw y d=>?_)
 ·have:∀ es,prs "due" es=[]->zeY 0 es=[]:=fun es h=>by rw[zbg,h];rfl
  rw[this _ (by rcases hk with rfl | rfl <;> rfl),this _ (by rcases hk with rfl | rfl <;> rfl)]
  exact ydx _
 ·unfold chv
  rw[(zeZ hk).2,zaL (w:=w) (by rcases hw with rfl | rfl <;> (intro y;cases y))]
  show _<=valOf _ d
  have:0<=valOf (prs w.word (wl0 k D)) d:=zn4 (fun s hs=>by rcases hk with rfl | rfl <;> rcases hw with rfl | rfl <;> first | (cases hs;done) | (rw[yan.mp (show s∈[(D-9,(500:Int))] from hs)];show (0:Int)<=500;decide)) d
  split <;> ac_rfl
theorem zqR (hk:k=.rate\/k=.late) (D0:9<=D) (D1:D<=999999):Hard (wl0 k D++[(.still,D,D+1)]) (wl0 k D):=by
 refine zhR hk D (by ac_rfl) D1 ?_
 have ns:Ek.still≠k:=by rcases hk with rfl | rfl <;> (intro y;cases y)
 unfold chv
 rw[zaL ns,(zeZ hk).1,(zeZ hk).2,show prs "still" (wl0 k D++[(.still,D,D+1)])=prs "still" (wl0 k D)++[(D,D+1)] from zcw (k:=.still),(zeZ hk).2,zoZ D D0,if_pos (show D-9<=D by ac_rfl),
  if_pos (show Spans.isIn ([]++[(D,D+1)]) D=true from Spans.zbO.mpr ⟨(D,D+1),yan.mpr rfl,ydx _,by show D<D+1;ac_rfl⟩)]
 show (0:Int)<500
 decide
end
end L2
namespace Cal
def leap (y:Int):Bool:=decide (y % 4=0) && (!decide (y % 100=0) || decide (y % 400=0))
noncomputable def lp (y:Int):Int:=if leap y=true then 1 else 0
noncomputable def mlen (y m:Int):Int:=if m=2 then 28+lp y else 31-(m-1) % 7 % 2
noncomputable def ny (y:Int):Int:=365*(y-2000)+(y-2000+3) / 4-(y-2000+99) / 100+(y-2000+399) / 400
noncomputable def cum (y m:Int):Int :=
 if m=1 then 0 else if m=2 then 31 else
 lp y+(if m=3 then 59 else if m=4 then 90 else if m=5 then 120 else if m=6 then 151 else if m=7 then 181 else if m=8 then 212
  else if m=9 then 243 else if m=10 then 273 else if m=11 then 304 else 334)
noncomputable def num (y m d:Int):Int:=ny y+cum y m+d-1
structure zht (y m d:Int):Prop where
 m1:1<=m
 m2:m<=12
 d1:1<=d
 d2:d<=mlen y m
theorem zsl (y:Int):(lp y=1/\y % 4=0/\(y % 100≠0\/y % 400=0))\/(lp y=0/\(y % 4≠0\/(y % 100=0/\y % 400≠0))):=by
 unfold lp leap
 by_cases h1:y % 4=0 <;> by_cases h2:y % 100=0 <;> by_cases h3:y % 400=0 <;> simp[h1,h2,h3]
theorem ztf (y:Int):0<=lp y/\lp y<=1:=by
 rcases zsl y with h | h <;> ac_rfl
theorem st4 (y:Int):(y+1-2000+3) / 4=(y-2000+3) / 4+(if y % 4=0 then 1 else 0):=by split <;> ac_rfl
theorem zta (y:Int):(y+1-2000+99) / 100=(y-2000+99) / 100+(if y % 100=0 then 1 else 0):=by split <;> ac_rfl
theorem zs2 (y:Int):(y+1-2000+399) / 400=(y-2000+399) / 400+(if y % 400=0 then 1 else 0):=by split <;> ac_rfl
theorem zsd {y b d f p q r:Int}:365*(y+1-2000)+(b+p)-(d+q)+(f+r)=365*(y-2000)+b-d+f+365+(p-q+r):=by ac_rfl
theorem zs1 (y:Int):lp y=(if y % 4=0 then 1 else 0)-(if y % 100=0 then 1 else 0)+(if y % 400=0 then 1 else 0):=by
 have h1:y % 100=0->y % 4=0:=by ac_rfl
 have h2:y % 400=0->y % 100=0:=by ac_rfl
 unfold lp leap
 by_cases a:y % 4=0
 ·by_cases b:y % 100=0
  ·by_cases c:y % 400=0
   ·rw[if_pos a,if_pos b,if_pos c,decide_eq_true a,decide_eq_true b,decide_eq_true c];rfl
   ·rw[if_pos a,if_pos b,if_neg c,decide_eq_true a,decide_eq_true b,decide_eq_false c];rfl
  ·rw[if_pos a,if_neg b,if_neg (fun c=>b (h2 c)),decide_eq_true a,decide_eq_false b];rfl
 ·rw[if_neg a,if_neg (fun b=>a (h1 b)),if_neg (fun c=>a (h1 (h2 c))),decide_eq_false a];rfl
theorem zrl (y:Int):ny (y+1)=ny y+365+lp y:=by
 unfold ny
 rw[st4,zta,zs2,zs1]
 exact zsd
noncomputable def zjU (l m:Int):Int :=
 if m=1 then 0 else if m=2 then 31 else
 l+(if m=3 then 59 else if m=4 then 90 else if m=5 then 120 else if m=6 then 151 else if m=7 then 181 else if m=8 then 212
  else if m=9 then 243 else if m=10 then 273 else if m=11 then 304 else 334)
noncomputable def zid (l m:Int):Int:=if m=2 then 28+l else 31-(m-1) % 7 % 2
theorem zp3:∀ l:Bool,∀ k:Fin 12,(28<=zid l.toInt (k.val+1)/\zid l.toInt (k.val+1)<=31) /\
  (0<=zjU l.toInt (k.val+1)/\zjU l.toInt (k.val+1)+zid l.toInt (k.val+1)<=365+l.toInt) /\
  (k.val<11->zjU l.toInt (k.val+1+1)=zjU l.toInt (k.val+1)+zid l.toInt (k.val+1))/\zjU l.toInt 12+zid l.toInt 12=365+l.toInt:=by decide
theorem lpB (y:Int):lp y=(leap y).toInt:=by unfold lp;cases leap y <;> rfl
theorem zsk {m:Int} (h1:1<=m) (h2:m<=12):∃ k:Fin 12,m=k.val+1:=⟨⟨(m-1).toNat,by ac_rfl⟩,by show m=((m-1).toNat:Int)+1;ac_rfl⟩
theorem zqQ (y m:Int):cum y m=zjU (leap y).toInt m:=by rw[<-lpB];rfl
theorem zos (y m:Int):mlen y m=zid (leap y).toInt m:=by rw[<-lpB];rfl
theorem zmL {y m:Int} (h1:1<=m) (h2:m<=11):cum y (m+1)=cum y m+mlen y m:=by
 obtain ⟨k,rfl⟩:=zsk h1 (yea h2 (by decide))
 rw[zqQ,zqQ,zos]
 exact (zp3 (leap y) k).2.2.1 (by ac_rfl)
theorem zr2 {y m:Int} (h1:1<=m) (h2:m<=12):28<=mlen y m/\mlen y m<=31:=by
 obtain ⟨k,rfl⟩:=zsk h1 h2
 rw[zos]
 exact (zp3 (leap y) k).1
theorem zsP (y:Int):cum y 12+mlen y 12=365+lp y:=by
 rw[zqQ,zos,lpB]
 exact (zp3 (leap y) 0).2.2.2
noncomputable def ms (M:Int):Int:=ny (M / 12)+cum (M / 12) (M % 12+1)
noncomputable def ml (M:Int):Int:=mlen (M / 12) (M % 12+1)
theorem zlp (M:Int):28<=ml M/\ml M<=31:=zr2 (by ac_rfl) (by ac_rfl)
theorem znX (M:Int):ms (M+1)=ms M+ml M:=by
 unfold ms ml
 by_cases h:M % 12=11
 ·have e1:(M+1) / 12=M / 12+1:=by ac_rfl
  have e2:(M+1) % 12=0:=by ac_rfl
  rw[e1,e2,h,zrl]
  have:=zsP (M / 12)
  simp only[show (11:Int)+1=12 by rfl]
  have e3:cum (M / 12+1) (0+1)=0:=by simp[cum]
  ac_rfl
 ·have e1:(M+1) / 12=M / 12:=by ac_rfl
  have e2:(M+1) % 12=M % 12+1:=by ac_rfl
  rw[e1,e2,zmL (by ac_rfl) (by ac_rfl)]
  ac_rfl
theorem zpq (M:Int):∀ k:Nat,ms M+k<=ms (M+k)
 | 0=>by simp
 | k+1=>by
  have h:=zpq M k
  have h2:=znX (M+k)
  have h3:=zlp (M+k)
  have e:M+((k+1:Nat):Int)=M+k+1:=by ac_rfl
  rw[e,h2];ac_rfl
theorem zrQ {M N:Int} (h:M<=N):ms M+(N-M)<=ms N:=by
 have:=zpq M (N-M).toNat
 have e:M+((N-M).toNat:Int)=N:=by ac_rfl
 rw[e] at this;ac_rfl
theorem zom {M N:Int} (h:M<N):ms M+ml M<=ms N:=by
 have:=zrQ (show M+1<=N by ac_rfl)
 rw[znX] at this;ac_rfl
theorem zl3 {y m d:Int} (h1:1<=m) (h2:m<=12):num y m d=ms (12*y+m-1)+d-1:=by
 unfold num ms
 rw[show (12*y+m-1) / 12=y by ac_rfl,show (12*y+m-1) % 12+1=m by ac_rfl]
theorem zsC {y m:Int} (h1:1<=m) (h2:m<=12):ml (12*y+m-1)=mlen y m:=by
 unfold ml
 rw[show (12*y+m-1) / 12=y by ac_rfl,show (12*y+m-1) % 12+1=m by ac_rfl]
theorem between {y1 m1 d1 y2 m2 d2 k:Int} (h1:zht y1 m1 d1) (h2:zht y2 m2 d2) (le:num y1 m1 d1<=num y2 m2 d2)
  (hk:k=if (if mlen y2 m2<d1 then mlen y2 m2 else d1) > d2 then 12*(y2-y1)+m2-m1-1 else 12*(y2-y1)+m2-m1) :
  0<=k/\∀ (P P' L L':Int),P=12*y1+m1-1+k->P'=P+1->(L=if ml P<d1 then ml P else d1)->(L'=if ml P'<d1 then ml P' else d1) ->
   ms P+L-1<=num y2 m2 d2/\num y2 m2 d2<ms P'+L'-1:=by
 obtain ⟨a1,b1,c1,e1⟩:=h1
 obtain ⟨a2,b2,c2,e2⟩:=h2
 rw[zl3 a1 b1,zl3 a2 b2] at le
 rw[zl3 a2 b2]
 rw[<-zsC a1 b1] at e1
 rw[<-zsC a2 b2] at e2 hk
 generalize hM1:12*y1+m1-1=M1 at *
 generalize hM2:12*y2+m2-1=M2 at *
 have hk':k=if (if ml M2<d1 then ml M2 else d1) > d2 then M2-M1-1 else M2-M1:=by
  rw[hk];split <;> ac_rfl
 have hle:M1<=M2:=by
  by_cases q:M1<=M2
  ·exact q
  ·have:=zom (show M2<M1 by ac_rfl);ac_rfl
 have g:M1<M2\/M1=M2:=by ac_rfl
 have b2':=zlp M2
 constructor
 ·rcases g with g | g
  ·rw[hk'];split <;> ac_rfl
  ·subst g
   rw[hk',if_neg]
   ·ac_rfl
   ·split <;> ac_rfl
 ·intro P P' L L' hP hP' hL hL'
  have bP:=zlp P
  have bP':=zlp P'
  have hL1:1<=L/\L<=ml P:=by rw[hL];split <;> ac_rfl
  have hL1':1<=L'/\L'<=ml P':=by rw[hL'];split <;> ac_rfl
  by_cases q:(if ml M2<d1 then ml M2 else d1) > d2
  ·rw[if_pos q] at hk'
   have eP:P=M2-1:=by ac_rfl
   have eP':P'=M2:=by ac_rfl
   have:=zom (show P<M2 by ac_rfl)
   rw[eP'] at hL' ⊢
   constructor
   ·ac_rfl
   ·rw[hL'];ac_rfl
  ·rw[if_neg q] at hk'
   have eP:P=M2:=by ac_rfl
   have eP':P'=M2+1:=by ac_rfl
   have:=zom (show M2<P' by ac_rfl)
   rw[eP] at hL ⊢
   constructor
   ·rw[hL];ac_rfl
   ·ac_rfl
end Cal
namespace Cnt
open Cal
noncomputable def each (y:Int):Int:=if leap y=true then 365 else 366
end Cnt
namespace Cnt
open Cal
end Cnt
namespace Cnt
open Cal
end Cnt
namespace Cnt
open Cal
end Cnt
namespace Cnt
open Cal
end Cnt
theorem L2.us1 {α:Type} {P:List α->Prop} (h:∀ a,P [a]):∀ us:List α,us.length=1->P us
 | [a],_=>h a
theorem L2.us2 {α:Type} {P:List α->Prop} (h:∀ a b,P [a,b]):∀ us:List α,us.length=2->P us
 | [a,b],_=>h a b
theorem L2.us3 {α:Type} {P:List α->Prop} (h:∀ a b c,P [a,b,c]):∀ us:List α,us.length=3->P us
 | [a,b,c],_=>h a b c
theorem L2.us4 {α:Type} {P:List α->Prop} (h:∀ a b c d,P [a,b,c,d]):∀ us:List α,us.length=4->P us
 | [a,b,c,d],_=>h a b c d
theorem L2.us5 {α:Type} {P:List α->Prop} (h:∀ a b c d e,P [a,b,c,d,e]):∀ us:List α,us.length=5->P us
 | [a,b,c,d,e],_=>h a b c d e
theorem L2.qb {Q:L2.VK} {H:L2.Hp} {a b:Bool} (h:Q (.bl a) H) (e:a=b):Q (.bl b) H:=e ▸ h
theorem L2.qi {Q:L2.VK} {H:L2.Hp} {a b:Int} (h:Q (.int a) H) (e:a=b):Q (.int b) H:=e ▸ h
local macro_rules | `(tactic| walk_at "cap")=>`(tactic| repeat (first | exact trivial | refine ⟨⟨by first | exact Or.inl rfl | exact Or.inr rfl,by first | exact Or.inl rfl | exact Or.inr rfl,rfl⟩,?_⟩))
local macro_rules | `(tactic| walk_at "sub")=>`(tactic| repeat (first | exact trivial | refine ⟨rfl,?_⟩))
local macro_rules | `(tactic| walk_at "has")=>`(tactic| repeat (first | exact trivial | refine ⟨fun _=>⟨_,rfl⟩,?_⟩ | refine ⟨(fun z=>by (rcases z with z | z <;> first | cases (show PySem.NameKind.local=PySem.NameKind.cell from z) | cases (show PySem.NameKind.local=PySem.NameKind.free from z) | cases (show PySem.NameKind.globalImplicit=PySem.NameKind.cell from z) | cases (show PySem.NameKind.globalImplicit=PySem.NameKind.free from z))),?_⟩))
local macro_rules | `(tactic| walk_at "rd1")=>`(tactic| first
 | with_reducible refine L2.zsA ?_
 | with_reducible refine L2.zsS ?_
 | refine ⟨_,rfl,?_⟩
 | refine ⟨_,_,rfl,rfl,?_⟩
 | refine ⟨_,_,rfl,?_⟩
 | refine ⟨_,_,_,rfl,?_⟩
 | refine ⟨rfl,?_⟩
 | refine ⟨(⟨by decide,by decide⟩:L2.CDiv _ _),?_⟩
 | refine ⟨(show (0:Int)<_ by first | decide | walk_at "o"),?_⟩
 | refine ⟨(⟨by decide,by decide,by decide⟩:L2.CPow _ _),?_⟩
 | refine ⟨(Or.inl ⟨by first | decide | walk_at "o",by first | decide | walk_at "o"⟩:L2.CMul _ _),?_⟩
 | refine ⟨(Or.inr ⟨by first | decide | walk_at "o",by first | decide | walk_at "o"⟩:L2.CMul _ _),?_⟩
 | refine ⟨_,_,rfl,.inl (by assumption),?_⟩
 | refine ⟨_,_,_,_,rfl,rfl,L2.SqT.of (by assumption),rfl,?_⟩
 | (refine ⟨_,_,_,_,rfl,(by assumption),(by first | walk_at "o" | decide),(by first | walk_at "o" | decide),(by first | walk_at "o" | decide),?_⟩;intro r' r0' r1')
 | (refine ⟨_,_,_,rfl,(by assumption),(by walk_at "o"),(by walk_at "o"),?_⟩;intro r' r0' r1')
 | refine And.intro (by walk_at "o") ?_
 | refine And.intro (Nat.le_of_ble_eq_true rfl) ?_
 | with_reducible refine L2.zsV ?_
 | with_reducible refine L2.ztq ?_
 | with_reducible refine L2.ifI (fun _=>?_) (fun _=>?_)
 | with_reducible refine L2.ztV (fun _=>?_) (fun _=>?_)
 | with_reducible refine L2.ifD (fun _=>?_) (fun _=>?_)
 | with_reducible refine L2.ztw (fun _=>?_) (fun _=>?_))
local macro_rules | `(tactic| walk_at "rd")=>`(tactic| repeat' walk_at "rd1")
seal L2.PSs L2.PS L2.PE L2.PT L2.PA L2.PI L2.PG L2.PGs L2.PW L2.PC L2.PO
local macro_rules | `(tactic| walk_at "rd1")=>`(tactic| first
 | with_reducible refine L2.ztK ?_
 | with_reducible refine L2.ztz (by decide) ?_
 | with_reducible refine L2.ifSNT ?_
 | with_reducible refine L2.ifSNF (by decide) ?_
 | ((with_reducible refine And.intro (a:=L2.CDivW _ _) ?_ ?_);(exact ⟨by first | decide | walk_at "o",by first | decide | walk_at "o"⟩))
 | fail)
local macro_rules | `(tactic| walk_at "rd1")=>`(tactic| ((with_reducible refine L2.sqG ?_);(first | (with_reducible refine L2.ztj ?_) | (with_reducible refine L2.ztG ?_) | (with_reducible refine L2.ztv ?_) | (with_reducible refine L2.ztH ?_) | (with_reducible refine L2.zty ?_) | (with_reducible refine L2.ztL ?_) | (with_reducible refine L2.zts ?_) | (with_reducible refine L2.ztS ?_) | (with_reducible refine L2.ztP ?_));intros))
local macro_rules | `(tactic| walk_at "s1")=>`(tactic| first | exact L2.us1 fun _=>rfl | exact L2.us2 fun _ _=>rfl | exact L2.us3 fun _ _ _=>rfl | exact L2.us4 fun _ _ _ _=>rfl | exact L2.us5 fun _ _ _ _ _=>rfl | k_is | rfl)
local macro_rules | `(tactic| walk_at "lc")=>`(tactic| first | exact Or.inl rfl | exact Or.inr rfl)
local macro_rules | `(tactic| walk_at "sp")=>`(tactic| exact ⟨rfl,rfl,rfl,by decide +kernel,rfl,by decide +kernel,by decide +kernel⟩)
local macro_rules | `(tactic| nofun)=>`(tactic| walk_at "rd")
abbrev qaa:List PySem.Str:=["self"]
abbrev qab:List PySem.Str:=["one","other"]
abbrev qac:List PySem.Str:=["entries","word"]
abbrev qad:List PySem.Str:=["thing"]
abbrev qae:List PySem.Str:=["self","day","amount"]
abbrev qaf:List PySem.Str:=["pairs"]
abbrev qag:List PySem.Str:=["self","day"]
abbrev qah:List PySem.Str:=["spans","day"]
abbrev qai:List PySem.Str:=["year"]
abbrev qaj:List PySem.Str:=["year","month","day"]
abbrev qak:List PySem.Str:=["_law_specs_here","_law_cell_here","_law_base"]
abbrev qal:List PySem.Str:=["_law_script"]
abbrev qam:List PySem.Str:=["self","day","rate"]
abbrev qan:List PySem.Str:=["_law_script","_law_k"]
abbrev qao:List PySem.Str:=["_law_specs_here","_law_words"]
abbrev qap:List PySem.Str:=["year","month"]
abbrev qaq:List PySem.Str:=["_law_specs_here","_law_cell_here","_law_grace"]
abbrev qar:List PySem.Str:=["rows","day"]
abbrev qas:List PySem.Str:=["_law_cell_here"]
abbrev qat:List PySem.Str:=["table","day"]
abbrev qau:List PySem.Str:=["self","day","until"]
abbrev qav:List PySem.Str:=["thing","least","most"]
abbrev qaw:List PySem.Str:=["count","grace"]
abbrev qax:List PySem.Str:=["entries","spans"]
abbrev qay:List PySem.Str:=["self","count","grace","entries"]
abbrev qaz:List PySem.Str:=["_law_one","_law_other","_law_due"]
abbrev qba:List PySem.Str:=["table","spans","a","b"]
abbrev qbb:List PySem.Str:=["_law_script","_law_k","_law_many"]
abbrev qbc:List PySem.Str:=["_law_cell_here","_law_base"]
abbrev qbd:List PySem.Str:=["entries"]
abbrev qbe:List PySem.Str:=["_law_script","_law_start","_law_most","_law_base"]
abbrev qbf:List PySem.Str:=["table","spans"]
abbrev qbg:List PySem.Str:=["_law_spec_here"]
namespace My
open PySem L2
local macro_rules | `(tactic| exists $a:term,$b:term,$z:term)=>do
 let [v,H,Q,E,h,f,c,A,o,s,r]:=[`vs,`H,`Q,`E,`h,`f,`cdv,`A,`outer,`s,`hr].map Lean.mkIdent | unreachable!
 `(tactic| refine $a $b (fun $v $H $Q $E $h=>?_) (fun $f $c $A $o $s $H $v $Q $E $r $h=>?_))
noncomputable def top (i:Nat):Stmt:=PySem.Challenge.pw_loanroll_k73_harder_by_one.main.body.getD i (.Pass ⟨0,0,0,0⟩)
structure Txt (K:W.Frag) (mg:Str->Option Value):Prop where
 zod:mg "all" = none
 zjy:mg "bool" = none
 zms:mg "dict" = none
 zoc:mg "int" = none
 zbj:mg "isinstance" = none
 zbB:mg "len" = none
 zbG:mg "list" = none
 zen:mg "max" = none
 zoY:mg "min" = none
 zdn:mg "range" = none
 zig:mg "set" = none
 zcv:mg "sorted" = none
 zoi:mg "sum" = none
 cls:∀ kd:Kd,Cls K (cA K kd.cls)
 mk0:∀ kd:Kd,Mk0 K (cA K kd.cls)
 ikK:∀ kd:Kd,zqJ K (cA K kd.cls)
 kitK0:∀ k:Kd,PySem.W.kitOne K (.ref (cA K k.cls)) (.ref (cA K (Kd.cls .plain)))=some (zsM k .plain)
 kitS:∀ k:Kd,PySem.W.kitOne K (.ref (cA K k.cls)) (.type "str")=some false
 zlG:mg "Bank" = some (.ref (cA K "Bank"))
 zlV:mg "Book" = some (.ref (cA K "Book"))
 zia:mg "Count" = some (.ref (cA K "Count"))
 zoS:mg "Due" = some (.ref (cA K "Due"))
 zf8:mg "Entry" = some (.ref (cA K "Entry"))
 zjO:mg "Exact" = some (.ref (cA K "Exact"))
 zoH:mg "Fee" = some (.ref (cA K "Fee"))
 zmD:mg "Late" = some (.ref (cA K "Late"))
 zox:mg "Out" = some (.ref (cA K "Out"))
 zor:mg "Pay" = some (.ref (cA K "Pay"))
 zmV:mg "Rate" = some (.ref (cA K "Rate"))
 zkb:mg "Still" = some (.ref (cA K "Still"))
 ziB:mg "Thirty" = some (.ref (cA K "Thirty"))
 zlO:mg "Turn" = some (.ref (cA K "Turn"))
 zB:Cls K (cA K "Book")
 zjJ:MkI K (cA K "Book")
 clE:∀ k:Ek,Cls K (cA K k.cls)
 zcI:∀ k:Ek,zY K (cA K k.cls) "amount"
 zaP:∀ k:Ek,zY K (cA K k.cls) "day"
 zi2:∀ k:Ek,zY K (cA K k.cls) "rate"
 zhw:∀ k:Ek,zY K (cA K k.cls) "until"
 zmA:MkI K (cA K "Due")
 zl0:MkI K (cA K "Fee")
 zj5:MkI K (cA K "Late")
 zmK:MkI K (cA K "Out")
 zl9:MkI K (cA K "Pay")
 zjL:MkI K (cA K "Rate")
 ziF:MkI K (cA K "Still")
 zkf:MkI K (cA K "Turn")
 zbE:zY K (cA K "Book") "due_sums"
 zbr:zY K (cA K "Book") "fee_sums"
 zbd:zY K (cA K "Book") "late_rows"
 zbs:zY K (cA K "Book") "out_sums"
 zbe:zY K (cA K "Book") "own_count"
 zbL:zY K (cA K "Book") "own_entries"
 za9:zY K (cA K "Book") "own_grace"
 zbv:zY K (cA K "Book") "pay_sums"
 zbb:zY K (cA K "Book") "rate_rows"
 zbH:zY K (cA K "Book") "spans"
 zba:zY K (cA K "Book") "turn_days"
 zfa:∃ t,mg "FIRST_YEAR" = some (.int 2000 t)
 zcU:∃ t,mg "LAST_DAY" = some (.int 999999 t)
 zhm:∃ a,mg "LENGTHS" = some (.ref a)/\∀ H,SqT K H a [.int 31,.int 28,.int 31,.int 30,.int 31,.int 30,.int 31,.int 31,.int 30,.int 31,.int 30,.int 31]
 zde:∃ t,mg "MOST_ENTRIES" = some (.int 500 t)
 zfd:∃ t,mg "MOST_GRACE" = some (.int 366 t)
noncomputable abbrev zeo:Stmt:=top 2
noncomputable abbrev zh7:Stmt:=top 3
noncomputable abbrev zb4:Stmt:=top 6
noncomputable abbrev zgK:Stmt:=top 9
noncomputable abbrev zgH:Stmt:=top 13
noncomputable abbrev zei:Stmt:=top 23
noncomputable abbrev zff:Stmt:=top 25
noncomputable abbrev zee:Stmt:=top 28
noncomputable abbrev zcW:Stmt:=inClass (top 37) 0
noncomputable abbrev zdI:Stmt:=inClass (top 38) 0
noncomputable abbrev zcm:Stmt:=inClass (top 39) 0
noncomputable abbrev zcQ:Stmt:=inClass (top 40) 0
noncomputable abbrev zaS:Stmt:=inClass (top 42) 0
noncomputable abbrev zc6:Stmt:=inClass (top 42) 1
noncomputable abbrev zef:Stmt:=inClass (top 45) 0
noncomputable abbrev zej:Stmt:=inClass (top 46) 0
noncomputable abbrev zeg:Stmt:=inClass (top 47) 0
noncomputable abbrev zeq:Stmt:=inClass (top 48) 0
noncomputable abbrev zdE:Stmt:=inClass (top 49) 0
noncomputable abbrev zdB:Stmt:=inClass (top 50) 0
noncomputable abbrev zdy:Stmt:=inClass (top 51) 0
noncomputable abbrev zcR:Stmt:=inClass (top 52) 1
noncomputable abbrev zgN:Stmt:=top 54
noncomputable abbrev zcP:Stmt:=inClass (top 64) 1
noncomputable abbrev zdH:Stmt:=inClass (top 64) 11
noncomputable abbrev zdD:Stmt:=inClass (top 64) 5
noncomputable abbrev zc1:Stmt:=inClass (top 64) 2
noncomputable abbrev zcS:Stmt:=inClass (top 64) 9
noncomputable abbrev zdz:Stmt:=inClass (top 64) 4
noncomputable abbrev zdu:Stmt:=inClass (top 64) 6
noncomputable abbrev zcY:Stmt:=inClass (top 64) 8
noncomputable abbrev zcq:Stmt:=inClass (top 64) 10
noncomputable abbrev zcZ:Stmt:=inClass (top 64) 7
noncomputable abbrev zdM:Stmt:=top 66
noncomputable abbrev zdL:Stmt:=top 68
noncomputable abbrev zcH:Stmt:=top 71
noncomputable abbrev zcs:Stmt:=top 73
noncomputable abbrev zeh:Stmt:=top 4
noncomputable abbrev zds:Stmt:=top 7
noncomputable abbrev zhY:Stmt:=top 10
noncomputable abbrev zgx:Stmt:=top 24
noncomputable abbrev zc7:Stmt:=top 26
noncomputable abbrev zR:Stmt:=inClass (top 43) 0
noncomputable abbrev zaB:Stmt:=inClass (top 44) 0
noncomputable abbrev zc3:Stmt:=inClass (top 52) 0
noncomputable abbrev zdF:Stmt:=top 53
noncomputable abbrev zgh:Stmt:=top 55
noncomputable abbrev zfk:Stmt:=top 56
noncomputable abbrev zcO:Stmt:=top 61
noncomputable abbrev zcu:Stmt:=top 62
noncomputable abbrev zdK:Stmt:=top 67
noncomputable abbrev zcM:Stmt:=top 74
noncomputable abbrev zct:Stmt:=top 75
noncomputable abbrev zgq:Stmt:=top 11
noncomputable abbrev zfl:Stmt:=top 27
noncomputable abbrev zbD:Stmt:=top 31
noncomputable abbrev zcp:Stmt:=top 60
noncomputable abbrev zco:Stmt:=top 63
noncomputable abbrev zc9:Stmt:=top 69
noncomputable abbrev zgG:Stmt:=top 29
noncomputable abbrev zel:Stmt:=top 32
noncomputable abbrev za0:Stmt:=top 34
noncomputable abbrev zdA:Stmt:=inClass (top 64) 0
noncomputable abbrev zc2:Stmt:=top 70
noncomputable abbrev zaN:Stmt:=top 33
noncomputable abbrev zdO:Stmt:=top 35
noncomputable abbrev zdN:Stmt:=top 72
noncomputable abbrev zdw:Stmt:=top 77
noncomputable abbrev za7:Stmt:=top 76
noncomputable abbrev zjn:Stmt:=top 78
section
variable {P:Program} {w:World} {K:W.Frag} {mg:Str->Option Value} {base:Heap}
def ziv (K:W.Frag):Sp:=fun vs H Q _=>∃ (p:Addr) (xs:List V) (t:List (Int × Int)),vs=[.ref p]/\H p=some (.lst xs)/\zu K H xs t/\t.length<64/\(∀ s∈t,0<=s.1)/\∀ q H' ws (r:List (Int × Int)),H q=none->Same H H'->H' q=some (.lst ws)->zu K H' ws r->Stills.TabOf t r->r=(r.map (·.1)).map (fun d=>(d,Sums.valOf t d))->r.length<=t.length->Q (.ref q) H'
theorem zm9:zo qaf qaf (zj zeo):=by walk_at "sp"
theorem zoD (S:Src K mg "table_of" zeo qaf) (T:Txt K mg)  : Def P w K mg base 1 "table_of" qaf (ziv K):=by
 exists S.ok,zm9,0
 all_goals obtain ⟨p,xs,t,rfl,hp,hR,hl,t0,h⟩:=h
 ·rfl
 refine ⟨_,(zi (zl (zG (zhn rfl) rfl T.zcv PyProof.Rows.boot_sorted (za (zlI (zal (zoU rfl) rfl T.zms PyProof.Rows.boot_dict (za (pv 0) ze))) ze)))),?_⟩
 nofun
 refine ⟨p,xs,t,rfl,hp,hR,hl,?_⟩
 intro d H1 nd s1 e1
 nofun
 refine ⟨d,_,rfl,e1,?_⟩
 intro v H2 nv s2 e2
 nofun
 have dl:=znq t
 refine ⟨v,d,_,rfl,e2,s2 _ _ e1,by ac_rfl,?_⟩
 intro q H3 ws r nq s3 e3 hr' pm o
 obtain ⟨T1,e⟩:=Dct.tab t0 pm o
 exact h q H3 ws r (zw (s1.trans s2) nq) (s1.trans (s2.trans s3)) e3 hr' T1 e (by rw[pm.length_eq];exact dl)
def ziQ (K:W.Frag):Sp:=fun vs H Q _=>L2.Ee4 fun a xs (l:List Int) d=>L2.Aa5 (vs=[.ref a,.int d]) (SqL K H a xs) (RF H xs l) ((l.Pairwise (·<·))) (∀ n:Nat,zp8 l d n->Q (.int n) H)
theorem zdi:zo ["rows", "day", "low", "high", "middle"] qar (zj zh7):=by walk_at "sp"
theorem zr7 (S:Src K mg "begun" zh7 qar) (T:Txt K mg)  : Def P w K mg base 1 "begun" qar (ziQ K):=by
 exists S.ok,zdi,0
 all_goals obtain ⟨a,xs,l,d,rfl,hS,hR,up,h⟩:=h
 ·rfl
 refine ⟨_,(zf (zq (i:=2) zdi.nd rfl (by walk_at "lc") zd)
  (zf (zq (i:=3) zdi.nd rfl (by walk_at "lc") (zG zag rfl T.zbB PySem.boot_len (za (pv 0) ze)))
  (zf (zqk PassesOwn.never (zr zfj (pv 2) (pv 3) (nomark _))
  (zf (zq (i:=4) zdi.nd rfl (by walk_at "lc") (zh zM (zh zy (pv 2) (pv 3)) zd))
  (zi (zH (zr zcr (zD zaU (zD zX (pv 0) (pv 4) (fun _ _=>rfl)) zd (fun _ _=>rfl)) (pv 1) (nomark _))
  (zi (zq (i:=2) zdi.nd rfl (by walk_at "lc") (zh zy (pv 4) zd)))
  (zi (zq (i:=3) zdi.nd rfl (by walk_at "lc") (pv 4)))))))
  (zi (zl (pv 2)))))),?_⟩
 have xl:=hR.length
 nofun
 refine ⟨fun n σ H'=>H=H'/\∃ (lo hi:Nat) (z:Option V),σ=[some (.ref a),some (.int d),some (.int lo),some (.int hi),z]/\lo<=hi/\hi<=l.length/\(∀ i s,i<lo->l[i]?=some s->s<=d)/\(∀ i s,hi<=i->l[i]?=some s->d<s)/\n=hi-lo,⟨_,rfl,0,xs.length,_,rfl,ydc _,by ac_rfl,fun i s hi=>absurd hi (Nat.not_lt_zero _),fun i s hi e=>?_,rfl⟩,?_⟩
 ·have:=(yac.mp e).1
  ac_rfl
 rintro n σ H' ⟨rfl,lo,hi,z,rfl,lh,hl,below,above,rfl⟩
 nofun
 ·rename_i q
  refine ⟨_,fun σ' H' z=>z,?_⟩
  have em:((lo:Int)+hi) / 2=(((lo+hi) / 2:Nat):Int):=by ac_rfl
  have m1:lo<=(lo+hi) / 2:=by ac_rfl
  have m2:(lo+hi) / 2<hi:=by ac_rfl
  nofun
  generalize (lo+hi) / 2=m at m1 m2 em
  obtain ⟨s,es,p,ws,ex,hp⟩:=hR.get (yaa (by ac_rfl:m<xs.length))
  have at_:atI xs (((lo:Int)+hi) / 2)=some (.ref p):=em ▸ zbJ (by rw[yaa (by ac_rfl:m<xs.length),ex])
  refine ⟨a,_,_,_,rfl,rfl,hS,at_,?_⟩
  have at0:atI (V.int s::ws) (0:Int)=some (.int s):=(zbJ (by rfl):atI (V.int s::ws) ((0:Nat):Int)=some (.int s))
  nofun
  refine ⟨p,_,_,_,rfl,rfl,SqT.of hp,at0,?_⟩
  nofun
  ·rename_i q2
   refine ⟨hi-(m+1),by ac_rfl,rfl,m+1,hi,some (.int m),(by show [some (V.ref a),some (V.int d),some (V.int (((lo:Int)+hi) / 2+1)),some (V.int hi),some (V.int (((lo:Int)+hi) / 2))]=_;rw[em];rfl),by ac_rfl,hl,fun i t hi e=>?_,above,rfl⟩
   rcases Nat.lt_or_ge i m with c | c
   ·have:=znT up e es c
    ac_rfl
   ·have:i=m:=by ac_rfl
    subst this
    rw[es] at e
    cases e
    exact q2
  ·rename_i q2
   refine ⟨m-lo,by ac_rfl,rfl,lo,m,some (.int m),(by show [some (V.ref a),some (V.int d),some (V.int lo),some (V.int (((lo:Int)+hi) / 2)),some (V.int (((lo:Int)+hi) / 2))]=_;rw[em]),by ac_rfl,by ac_rfl,below,fun i t hi e=>?_,rfl⟩
   rcases Nat.lt_or_ge m i with c | c
   ·have:=znT up es e c
    ac_rfl
   ·have:i=m:=by ac_rfl
    subst this
    rw[es] at e
    cases e
    ac_rfl
 ·rename_i q
  have:lo=hi:=by ac_rfl
  subst this
  exact h lo ⟨hl,below,above⟩
def zcJ (K:W.Frag):Sp:=fun vs H Q _=>∃ (q:Addr) (xs:List V) (l:List (Int × Int)),vs=[.ref q]/\H q=some (.lst xs)/\zu K H xs l/\l.length<=1000 /\
 ∀ p ws H',H p=none->Same H H'->H' p=some (.lst ws)->zu K H' ws (runs 0 l)->Q (.ref p) H'
theorem za2:zo ["rows", "told", "total", "row"] ["rows"] (zj zb4):=by walk_at "sp"
theorem zkg (S:Src K mg "running_sums" zb4 ["rows"]) (T:Txt K mg)  : Def P w K mg base 1 "running_sums" ["rows"] (zcJ K):=by
 exists S.ok,za2,0
 all_goals obtain ⟨q,xs,l,rfl,hq,hR,hl,h⟩:=h
 ·rfl
 refine ⟨_,(zf (zq (i:=1) za2.nd rfl (by walk_at "lc") (zN ze))
  (zf (zq (i:=2) za2.nd rfl (by walk_at "lc") zd)
  (zf (zha PassesOwn.never rfl (zaj (pv 0)) (zar (i:=3) za2.nd rfl (by walk_at "lc"))
  (zf (zq (i:=2) za2.nd rfl (by walk_at "lc") (zh zy (pv 2) (zD zaU (pv 3) zd (fun _ _=>rfl))))
  (zi (zb3 (zjj PySem.F.plainAttrs_list PySem.F.slot_list_append PySem.F.type_list_append zdR (pv 1) (za (zE (za (zD zaU (pv 3) zd (fun _ _=>rfl)) (za (pv 2) ze))) ze))))))
  (zi (zl (pv 1)))))),?_⟩
 have sz:=sizeLine_eq
 have xl:=hR.length
 nofun
 intro p np
 have s1:=zc np (.lst [])
 have eP:=zk (.lst []) np
 generalize upd H p (.lst [])=H1 at s1 eP ⊢
 nofun
 refine ⟨⟨_,SqL.of (s1 _ _ hq)⟩,ziH (xs:=xs) (fun i σ H'=>∃ (ws:List V) (z1:Option V),(Same H H'/\H' p=some (.lst ws))/\zu K H' ws (runs 0 (l.take i))/\σ=[some (.ref q),some (.ref p),some (.int (sum2 (l.take i))),z1])
  ⟨[],_,⟨s1,eP⟩,.nil,rfl⟩ ?_ ?_ ?_⟩
 ·rintro i σ H' _ ⟨ws,z1,⟨sH,_⟩,_⟩
  exact SqL.of (sH _ _ hq)
 ·rintro i x σ H' hx ⟨ws,z1,⟨sH,eP'⟩,hW,rfl⟩
  obtain ⟨u,s,rfl,hs,hu⟩:=(hR.same sH).get hx
  have il:i<l.length:=(yac.mp hs).1
  have wl:=hW.length
  rw[zcy,yau] at wl
  have tk:l.take (i+1)=l.take i++[s]:=by rw[ycf,hs];rfl
  rw[tk,zku,zpt,Int.zero_add]
  generalize sum2 (l.take i)=t at *
  nofun
  refine ⟨.inl ⟨rfl,_,SqL.of eP'⟩,?_⟩
  nofun
  intro v nv
  have s5:=zc nv (.tup [.int s.1,.int (t+s.2)])
  have ev:=zk (.tup [.int s.1,.int (t+s.2)]) nv
  have eP5:=s5 _ _ eP'
  refine ⟨p,_,_,rfl,rfl,eP5,by ac_rfl,?_⟩
  have ev6:(upd (upd H' v (.tup [.int s.1,.int (t+s.2)])) p (.lst (ws++[.ref v]))) v=some (.tup [.int s.1,.int (t+s.2)]):=by
   rw[zv (za8 ev eP5 (by intro z;cases z))]
   exact ev
  exact ⟨ws++[.ref v],_,⟨zab (sH.trans s5) np,zg⟩,((hW.same s5).put eP5).push (s:=(s.1,t+s.2)) ev6,rfl⟩
 ·rintro σ H' ⟨ws,z1,⟨sH,eP'⟩,hW,rfl⟩
  rw[xl,List.take_length] at hW
  nofun
  exact h p ws H' np sH eP' hW
def zkm (K:W.Frag):Sp:=fun vs H Q _=>∃ (a:Addr) (xs:List V) (l:List (Int × Int)),vs=[.ref a]/\SqL K H a xs/\zu K H xs l/\l.length<64/\(∀ s∈l,s.1<s.2) /\
 ∀ p ys r H',Same H H'->H p=none->H' p=some (.lst ys)->zu K H' ys r->Spans.Joined r->(∀ d,Spans.Cov r d↔Spans.Cov l d)->r.length<=l.length->Q (.ref p) H'
theorem zoQ {K:W.Frag} {H:Hp} {ys:List V} {acc:List (Int × Int)} (r:zu K H ys acc) (h:0<ys.length):∃ ys' b acc' t,ys=ys'++[.ref b]/\acc=acc'++[t]/\H b=some (.tup [.int t.1,.int t.2])/\zu K H ys' acc':=by
 induction r with
 | nil=>simp at h
 | @cons p s xs l hp rr ih =>
  cases rr with
  | nil=>exact ⟨[],p,[],s,rfl,rfl,hp,.nil⟩
  | cons h2 rr2 =>
   obtain ⟨ys',b,acc',t,e1,e2,e3,e4⟩:=ih (by simp)
   exact ⟨.ref p::ys',b,s::acc',t,by rw[e1];rfl,by rw[e2];rfl,e3,.cons hp e4⟩
theorem zhz:zo ["spans", "told", "span"] ["spans"] (zj zgK):=by walk_at "sp"
theorem zq5 (S:Src K mg "joined" zgK ["spans"]) (T:Txt K mg)  : Def P w K mg base 1 "joined" ["spans"] (zkm K):=by
 exists S.ok,zhz,0
 all_goals obtain ⟨a,xs,l,rfl,hS,hR,hl,ok,h⟩:=h
 ·rfl
 refine ⟨_,(zf (zq (i:=1) zhz.nd rfl (by walk_at "lc") (zN ze))
  (zf (zha PassesOwn.never rfl (zaj (zG zlZ rfl T.zcv PyProof.Rows.boot_sorted (za (pv 0) ze))) (zar (i:=2) zhz.nd rfl (by walk_at "lc"))
  (zi (zH (PW.pt (zcj (zr zfp (zG zag rfl T.zbB PySem.boot_len (za (pv 1) ze)) zd (nomark _)) (zdq (zr zcr (zD zaU (pv 2) zd (fun _ _=>rfl)) (zD zaU (zD zX (pv 1) (zlo zjk zd) (fun _ _=>rfl)) zd (fun _ _=>rfl)) (nomark _)))))
  (zi (zjv (zE (za (zD zaU (zD zX (pv 1) (zlo zjk zd) (fun _ _=>rfl)) zd (fun _ _=>rfl)) (za (zG (zcz rfl) rfl T.zen PyProof.Rows.boot_max (za (zD zaU (zD zX (pv 1) (zlo zjk zd) (fun _ _=>rfl)) zd (fun _ _=>rfl)) (za (zD zaU (pv 2) zd (fun _ _=>rfl)) ze))) ze))) (zso (pv 1) (zlo zjk zd) set_list)))
  (zi (zb3 (zjj PySem.F.plainAttrs_list PySem.F.slot_list_append PySem.F.type_list_append zdR (pv 1) (za (pv 2) ze)))))))
  (zi (zl (pv 1))))),?_⟩
 have sz:=sizeLine_eq
 have xl:=hR.length
 nofun
 intro p np
 have sp:=zc np (.lst [])
 nofun
 refine ⟨a,xs,l,rfl,sp.seq hS,hR.same sp,hl,?_⟩
 intro q H2 ws r nq sq eq rR pm srt
 have wl:=rR.length
 have rl:=pm.length_eq
 have s2:=sp.trans sq
 have eP2:=sq _ _ (zg (H:=H) (a:=p) (o:=.lst []))
 have npq:q≠p:=(zah (zg (H:=H) (a:=p) (o:=.lst [])) nq).symm
 refine ⟨q,rfl,⟨_,SqL.of eq⟩,ziH (xs:=ws) (fun i σ H'=>∃ (ys:List V) (acc:List (Int × Int)) (z:Option V),(Same H H'/\H' q=some (.lst ws)/\H' p=some (.lst ys))/\(zu K H' ys acc/\zu K H' ws r)/\Stills.JInv (r.take i) acc/\acc.length<=i/\σ=[some (.ref a),some (.ref p),z])
  ⟨[],[],_,⟨s2,eq,eP2⟩,⟨.nil,rR⟩,Stills.JInv.nil,ycz _,rfl⟩ ?_ ?_ ?_⟩
 ·rintro i σ H' _ ⟨ys,acc,z,⟨_,e,_⟩,_⟩
  exact SqL.of e
 ·rintro i x σ H' hx ⟨ys,acc,z,⟨sH,eQ,eP⟩,⟨rA,rW⟩,J,al,rfl⟩
  obtain ⟨u,s,rfl,hs,ht⟩:=rW.get hx
  have il:i<r.length:=(yac.mp hs).1
  have yl:=rA.length
  have up:=ok s (pm.mem_iff.mp (yai hs))
  have tk:r.take (i+1)=r.take i++[s]:=by rw[ycf,hs];rfl
  have hP:SqL K H' p ys:=SqL.of eP
  rw[tk]
  have t1':∀ t∈acc,t.1<=s.1:=fun t htt=>by
   obtain ⟨s',hs',e⟩:=J.f t htt
   obtain ⟨j,hj,ej⟩:=yav.mp hs'
   rw[yau] at hj
   rw[List.getElem_take] at ej
   have:=yaz.mp srt j i (by ac_rfl) il (by ac_rfl)
   rw[ej] at this
   have es:r[i]=s:=by
    have:=yaa il
    rw[hs] at this
    exact (Option.some.inj this).symm
   rw[es] at this
   ac_rfl
  nofun
  ·rename_i pos
   obtain ⟨ys',b,acc',t,e1,e2,hb,rA'⟩:=zoQ rA (by ac_rfl)
   subst e1 e2
   have yl':=rA'.length
   have atl:atI (ys'++[.ref b]) (-1)=some (.ref b):=zr1 (by simp) (by simp)
   have le1:=t1' t (by simp)
   refine ⟨p,_,_,_,rfl,rfl,hP,atl,?_⟩
   nofun
   ·rename_i le2
    refine ⟨p,_,_,_,rfl,rfl,hP,atl,?_⟩
    nofun
    refine ⟨p,_,_,_,rfl,rfl,hP,atl,?_⟩
    nofun
    intro u2 nu2
    obtain ⟨m,hm⟩:∃ m:Int,m=if s.2 > t.2 then s.2 else t.2:=⟨_,rfl⟩
    rw[<-hm]
    have s5:=zc nu2 (.tup [.int t.1,.int m])
    have eP':=s5 _ _ eP
    have eQ':=s5 _ _ eQ
    nofun
    have ixe:ixN (ys'++[V.ref b]).length (-1)=some (ys'.length):=by
     unfold ixN
     rw[if_neg (by decide),if_pos (by rw[yad,ybo];ac_rfl),yad]
     show some ((-1:Int)+((ys'.length+1:Nat):Int)).toNat=_
     rw[show ((-1:Int)+((ys'.length+1:Nat):Int)).toNat=ys'.length by ac_rfl]
    refine ⟨p,_,_,_,rfl,rfl,eP',ixe,?_⟩
    have es:(ys'++[V.ref b]).set ys'.length (.ref u2)=ys'++[.ref u2]:=by
     rw[List.set_append_right _ _ (ycz _),ydn]
     rfl
    rw[es]
    have st2:(upd (upd H' u2 (.tup [.int t.1,.int m])) p (.lst (ys'++[.ref u2]))) u2=some (.tup [.int t.1,.int m]):=by
     rw[zv (zah eP nu2).symm]
     exact zg
    exact ⟨ys'++[.ref u2],acc'++[(t.1,m)],_,⟨zab (sH.trans s5) np,by rw[zv npq];exact eQ',zg⟩,⟨((rA'.same s5).put eP').push (s:=(t.1,m)) st2,(rW.same s5).put eP'⟩,J.grow up le1 le2 hm,by rw[yad] at al ⊢;exact Nat.le_succ_of_le al,rfl⟩
   ·rename_i gt
    refine ⟨.inl ⟨rfl,_,SqL.of eP⟩,?_⟩
    nofun
    refine ⟨p,_,_,rfl,rfl,eP,by ac_rfl,?_⟩
    have st2:(upd H' p (.lst (ys'++[.ref b]++[.ref u]))) u=some (.tup [.int s.1,.int s.2]):=by
     rw[zv (za8 ht eP (by intro z;cases z))]
     exact ht
    exact ⟨ys'++[.ref b]++[.ref u],acc'++[t]++[s],_,⟨zab sH np,by rw[zv npq];exact eQ,zg⟩,⟨(rA.put eP).push (s:=s) st2,rW.put eP⟩,J.add up (by ac_rfl),by rw[yad];exact Nat.succ_le_succ al,rfl⟩
  ·rename_i no
   have y0:ys=[]:=by cases ys with | nil=>rfl | cons _ _=>exact absurd (by simp) no
   subst y0
   have a0:acc=[]:=by cases acc with | nil=>rfl | cons _ _=>simp at yl
   subst a0
   refine ⟨.inl ⟨rfl,_,SqL.of eP⟩,?_⟩
   nofun
   refine ⟨p,_,_,rfl,rfl,eP,by simp;ac_rfl,?_⟩
   have st2:(upd H' p (.lst ([]++[.ref u]))) u=some (.tup [.int s.1,.int s.2]):=by
    rw[zv (za8 ht eP (by intro z;cases z))]
    exact ht
   exact ⟨[]++[.ref u],[]++[s],_,⟨zab sH np,by rw[zv npq];exact eQ,zg⟩,⟨(zu.put .nil eP).push (s:=s) st2,rW.put eP⟩,J.begin_ up,by simp,rfl⟩
 ·rintro σ H' ⟨ys,acc,z,⟨sH,eQ,eP⟩,⟨rA,rW⟩,J,al,rfl⟩
  rw[wl,ybf (ycz _)] at J
  nofun
  refine h p ys acc H' sH np eP rA J.j (fun d=>?_) (by ac_rfl)
  rw[J.c]
  exact Stills.zrw (fun s=>pm.mem_iff) d
def zkp (K:W.Frag):Sp:=fun vs H Q _=>L2.Ee8 fun pt ps xs ys (t l:List (Int × Int)) a b=>L2.Aa7 (vs=[.ref pt,.ref ps,.int a,.int b]) (SqL K H pt xs) (zu K H xs t) (SqL K H ps ys) (zu K H ys l) (t.length+2*l.length<64) (∀ (p:Addr) (ns:List Int) H',Same H H'->H p=none->H' p=some (.lst (ns.map V.int))->ns.length<64->ns.Pairwise (·<·)->(∀ d,d∈ns↔(a<d/\d<b)/\((∃ s∈t,d=s.1)\/∃ s∈l,d=s.1\/d=s.2))->Q (.ref p) H')
theorem zkC:zo ["table", "spans", "a", "b", "days"] qba (zj zgH):=by walk_at "sp"
theorem zqu (S:Src K mg "breaks" zgH qba) (T:Txt K mg)  : Def P w K mg base 1 "breaks" qba (zkp K):=by
 exists S.ok,zkC,0
 all_goals obtain ⟨pt,ps,xs,ys,t,l,a,b,rfl,hS,hR,hS2,hR2,hl,h⟩:=h
 ·rfl
 refine ⟨_,(zf (znY (i:=4) zkC.nd rfl rfl (ix:=[]) ⟨rfl,by decide +kernel,rfl,by decide +kernel,rfl,(show (["row"]:List Str).Nodup by decide +kernel),by walk_at "cap", by walk_at "sub", by walk_at "has"⟩ (zaj (pv 0)) (fun b=>(zD (zaH K) (pv 0) zd (fun _ _=>rfl))))
  (zf (zb3 (zjj PySem.F.plainAttrs_list PySem.F.slot_list_extend PySem.F.type_list_extend zkx (pv 4) (za (zdf (ix:=[]) ⟨rfl,by decide +kernel,rfl,by decide +kernel,rfl,(show (["span"]:List Str).Nodup by decide +kernel),by walk_at "cap", by walk_at "sub", by walk_at "has"⟩ (zaj (pv 1)) (fun b=>(zD (zaH K) (pv 0) zd (fun _ _=>rfl)))) ze)))
  (zf (zb3 (zjj PySem.F.plainAttrs_list PySem.F.slot_list_extend PySem.F.type_list_extend zkx (pv 4) (za (zdf (ix:=[]) ⟨rfl,by decide +kernel,rfl,by decide +kernel,rfl,(show (["span"]:List Str).Nodup by decide +kernel),by walk_at "cap", by walk_at "sub", by walk_at "has"⟩ (zaj (pv 1)) (fun b=>(zD (zaH K) (pv 0) zd (fun _ _=>rfl)))) ze)))
  (zi (zl (zG (zhl rfl) rfl T.zcv PyProof.Rows.boot_sorted (za (zal (zfi rfl) rfl T.zig PyProof.Rows.boot_set (za (zbq (ix:=[2,3]) ⟨rfl,by decide +kernel,rfl,by decide +kernel,rfl,(show (["day", "a", "b"]:List Str).Nodup by decide +kernel),by walk_at "cap", by walk_at "sub", by walk_at "has"⟩ (zaj (pv 4)) (fun b=>(zqV zfj zfj (pv 1) (pv 0) (pv 2))) (fun b=>(pv 0))) ze)) ze))))))),?_⟩
 have sz:=sizeLine_eq
 have xl:=hR.length
 have yl:=hR2.length
 have gd:∀ (u:List (Int × Int)) (f:Int × Int->Int) (i:Nat) (s:Int × Int),u[i]?=some s->(u.map f).getD i 0=f s:=fun u f i s e=>by
  rw[yae,yak,e];rfl
 nofun
 refine ⟨⟨_,hS⟩,?_⟩
 intro l1 n1
 refine zhc (fun i v=>v=.int ((t.map (·.1)).getD i 0)) hS n1 (by ac_rfl) ?_ ?_
 ·intro i x H' Q' hx sH hq
  obtain ⟨p,s,rfl,e,ht⟩:=hR.get hx
  nofun
  exact ⟨p,_,_,_,rfl,rfl,SqT.of (sH _ _ ht),rfl,hq _ (by rw[gd t _ i s e])⟩
 intro ys1 len1 hp1
 obtain rfl:=zjN (ns:=t.map (·.1)) (by rw[len1,yab,xl]) hp1
 have s1:=zc n1 (.lst ((t.map (·.1)).map V.int))
 have e1:(upd H l1 (.lst ((t.map (·.1)).map V.int))) l1=some (.lst ((t.map (·.1)).map V.int)):=zg
 generalize upd H l1 (.lst ((t.map (·.1)).map V.int))=H1 at s1 e1 ⊢
 nofun
 refine ⟨.inl ⟨rfl,_,SqL.of e1⟩,?_⟩
 nofun
 refine ⟨⟨_,s1.seq hS2⟩,?_⟩
 intro l2 n2
 refine zhc (fun i v=>v=.int ((l.map (·.1)).getD i 0)) (s1.seq hS2) n2 (by ac_rfl) ?_ ?_
 ·intro i x H' Q' hx sH hq
  obtain ⟨p,s,rfl,e,ht⟩:=hR2.get hx
  nofun
  exact ⟨p,_,_,_,rfl,rfl,SqT.of (sH _ _ (s1 _ _ ht)),rfl,hq _ (by rw[gd l _ i s e])⟩
 intro ys2 len2 hp2
 obtain rfl:=zjN (ns:=l.map (·.1)) (by rw[len2,yab,yl]) hp2
 have s2:=zc n2 (.lst ((l.map (·.1)).map V.int))
 refine ⟨l1,l2,_,_,rfl,rfl,s2 _ _ e1,zg,by simp;ac_rfl,?_⟩
 rw[<-yat]
 have s3:Same H (upd (upd H1 l2 (.lst ((l.map (·.1)).map V.int))) l1 (.lst ((t.map (·.1)++l.map (·.1)).map V.int))):=zab (s1.trans s2) n1
 have e3:(upd (upd H1 l2 (.lst ((l.map (·.1)).map V.int))) l1 (.lst ((t.map (·.1)++l.map (·.1)).map V.int))) l1=some (.lst ((t.map (·.1)++l.map (·.1)).map V.int)):=zg
 generalize upd (upd H1 l2 (.lst ((l.map (·.1)).map V.int))) l1 (.lst ((t.map (·.1)++l.map (·.1)).map V.int))=H3 at s3 e3 ⊢
 nofun
 refine ⟨.inl ⟨rfl,_,SqL.of e3⟩,?_⟩
 nofun
 refine ⟨⟨_,s3.seq hS2⟩,?_⟩
 intro l4 n4
 refine zhc (fun i v=>v=.int ((l.map (·.2)).getD i 0)) (s3.seq hS2) n4 (by ac_rfl) ?_ ?_
 ·intro i x H' Q' hx sH hq
  obtain ⟨p,s,rfl,e,ht⟩:=hR2.get hx
  nofun
  exact ⟨p,_,_,_,rfl,rfl,SqT.of (sH _ _ (s3 _ _ ht)),rfl,hq _ (by rw[gd l _ i s e])⟩
 intro ys4 len4 hp4
 obtain rfl:=zjN (ns:=l.map (·.2)) (by rw[len4,yab,yl]) hp4
 have s4:=zc n4 (.lst ((l.map (·.2)).map V.int))
 refine ⟨l1,l4,_,_,rfl,rfl,s4 _ _ e3,zg,by simp;ac_rfl,?_⟩
 rw[<-yat]
 have s5:Same H (upd (upd H3 l4 (.lst ((l.map (·.2)).map V.int))) l1 (.lst ((t.map (·.1)++l.map (·.1)++l.map (·.2)).map V.int))):=zab (s3.trans s4) n1
 have e5:(upd (upd H3 l4 (.lst ((l.map (·.2)).map V.int))) l1 (.lst ((t.map (·.1)++l.map (·.1)++l.map (·.2)).map V.int))) l1=some (.lst ((t.map (·.1)++l.map (·.1)++l.map (·.2)).map V.int)):=zg
 generalize upd (upd H3 l4 (.lst ((l.map (·.2)).map V.int))) l1 (.lst ((t.map (·.1)++l.map (·.1)++l.map (·.2)).map V.int))=H5 at s5 e5 ⊢
 obtain ⟨es,hes⟩:∃ es,es=t.map (·.1)++l.map (·.1)++l.map (·.2):=⟨_,rfl⟩
 have el:es.length=t.length+2*l.length:=by rw[hes];simp;ac_rfl
 rw[<-hes] at e5
 nofun
 refine ⟨⟨_,SqL.of e5⟩,?_⟩
 intro l6 n6
 refine zpJ (zak (SqL.of e5)) n6 (by rw[yab];ac_rfl) (es.map fun d=>(decide (a<d) && decide (d<b),V.int d)) (by simp) ?_ ?_ ?_
 ·intro i x bb v H' Q' hx hpk sH hq
  rw[yak] at hx hpk
  obtain ⟨d,hd,rfl⟩:=Option.map_eq_some_iff.mp hx
  rw[hd] at hpk
  cases hpk
  nofun
  ·rename_i q1
   rw[decide_eq_true q1,Bool.true_and] at hq
   exact hq
  ·rename_i q1
   rw[decide_eq_false q1,Bool.false_and] at hq
   exact hq
 ·intro i x bb v H' Q' hx hpk sH hq
  rw[yak] at hx hpk
  obtain ⟨d,hd,rfl⟩:=Option.map_eq_some_iff.mp hx
  rw[hd] at hpk
  cases hpk
  nofun
  exact hq
 rw[zpD es (fun d=>decide (a<d) && decide (d<b)) (fun d=>d),List.map_id']
 obtain ⟨fs,hfs⟩:∃ fs,fs=es.filter fun d=>decide (a<d) && decide (d<b):=⟨_,rfl⟩
 have fl:fs.length<=es.length:=by rw[hfs];exact yaw _ _
 rw[<-hfs]
 have s6:=zc n6 (.lst (fs.map V.int))
 nofun
 refine ⟨l6,fs,rfl,SqL.of zg,by ac_rfl,?_⟩
 intro ps' Hs ms ps0 ss es' nd mm lm
 refine ⟨ps',ms,rfl,es',by ac_rfl,?_⟩
 intro lq Hq ns lq0 sq eq pm srt
 refine h lq ns Hq (s5.trans (s6.trans (ss.trans sq))) (zw (s5.trans (s6.trans ss)) lq0) eq (by rw[pm.length_eq];ac_rfl) (zpX pm nd srt) fun d=>?_
 rw[pm.mem_iff,mm,hfs,yaq,hes,yam,yam,yag,yag,yag,Bool.and_eq_true,decide_eq_true_eq,decide_eq_true_eq]
 constructor
 ·rintro ⟨(⟨s,hs,e⟩ | ⟨s,hs,e⟩) | ⟨s,hs,e⟩,q⟩
  ·exact ⟨q,.inl ⟨s,hs,e.symm⟩⟩
  ·exact ⟨q,.inr ⟨s,hs,.inl e.symm⟩⟩
  ·exact ⟨q,.inr ⟨s,hs,.inr e.symm⟩⟩
 ·rintro ⟨q,⟨s,hs,e⟩ | ⟨s,hs,e | e⟩⟩
  ·exact ⟨.inl (.inl ⟨s,hs,e.symm⟩),q⟩
  ·exact ⟨.inl (.inr ⟨s,hs,e.symm⟩),q⟩
  ·exact ⟨.inr ⟨s,hs,e.symm⟩,q⟩
def zdQ (K:W.Frag):Sp:=fun vs H Q _=>∃ x T,vs=[x]/\zhb K H x T/\Q (.bl (decide (T = "int"))) H
theorem zm2:zo qad qad (zj zei):=by walk_at "sp"
theorem zoB (S:Src K mg "is_whole" zei qad) (T:Txt K mg)  : Def P w K mg base 1 "is_whole" qad (zdQ K):=by
 exists S.ok,zm2,0
 all_goals obtain ⟨x,Tk,rfl,hk,h⟩:=h
 ·rfl
 refine ⟨_,(zi (zl (zbQ (zG zfT rfl T.zbj PyProof.Rows.boot_isinstance (za (pv 0) (za (zjT (v:=.ty "int") rfl T.zoc PyProof.Rows.boot_int rfl) ze))) (zbP (zsf (zG zfT rfl T.zbj PyProof.Rows.boot_isinstance (za (pv 0) (za (zjT (v:=.ty "bool") rfl T.zjy PyProof.Rows.boot_bool rfl) ze)))))))),?_⟩
 nofun
 refine ⟨_,_,_,_,rfl,hk.1,zrH hk.2,?_⟩
 nofun
 ·refine ⟨_,_,_,_,rfl,hk.1,zqt hk.2,?_⟩
  nofun
  rename_i z
  exact qb h (by rcases z with rfl | rfl <;> decide)
 ·rename_i z
  exact qb h (decide_eq_false fun q=>z (.inl q))
def zjl (K:W.Frag):Sp:=fun vs H Q _=>∃ y,vs=[.int y]/\Q (.bl (Cal.leap y)) H
theorem zoq:zo qai qai (zj zff):=by walk_at "sp"
theorem zo2 (S:Src K mg "is_leap" zff qai) (T:Txt K mg)  : Def P w K mg base 1 "is_leap" qai (zjl K):=by
 exists S.ok,zoq,0
 all_goals obtain ⟨y,rfl,h⟩:=h
 ·rfl
 refine ⟨_,(zi (zl (zbQ (zdl zQ (zh zC (pv 0) zd) zd (nomark _)) (zbP (zsZ (zdl zoF (zh zC (pv 0) zd) zd (nomark _)) (zbP (zdl zQ (zh zC (pv 0) zd) zd (nomark _)))))))),?_⟩
 nofun
 all_goals exact qb h (by simp[Cal.leap,dI, *])
def zis (K:W.Frag):Sp:=fun vs H Q _=>∃ y,vs=[.int y]/\Q (.int (Cal.ny y)) H
theorem zfJ:zo ["year", "years", "leaps"] qai (zj zee):=by walk_at "sp"
theorem zoC (S:Src K mg "new_year" zee qai) (T:Txt K mg)  : Def P w K mg base 1 "new_year" qai (zis K):=by
 exists S.ok,zfJ,0
 all_goals obtain ⟨y,rfl,h⟩:=h
 ·rfl
 refine ⟨_,(zf (zq (i:=1) zfJ.nd rfl (by walk_at "lc") (zh zat (pv 0) (zeA T.zfa)))
  (zf (zq (i:=2) zfJ.nd rfl (by walk_at "lc") (zh zy (zh zat (zh zM (zh zy (pv 1) zd) zd) (zh zM (zh zy (pv 1) zd) zd)) (zh zM (zh zy (pv 1) zd) zd)))
  (zi (zl (zh zy (zh zbh zd (pv 1)) (pv 2)))))),?_⟩
 nofun
 all_goals exact qi h (by unfold Cal.ny;ac_rfl)
noncomputable def nm:Kd->Str
 | .plain => "plain"
 | .bank => "bank"
 | .thirty => "thirty"
 | .exact => "exact"
def zcD (kd:Kd) (K:W.Frag):Sp:=fun vs H Q _=>∃ a,vs=[.ref a]/\Q (.str (nm kd)) H
theorem zkS:zo qaa qaa (zj zcW):=by walk_at "sp"
theorem zlx (kd:Kd) (hk:kd=.plain) (S:zA K (cA K kd.cls) "name" "Count.name" zcW qaa) (T:Txt K mg)  : zJ P w K mg base 1 (cA K kd.cls) "name" qaa (zcD kd K):=by
 subst hk
 exists S.ok,zkS,0
 all_goals obtain ⟨a,rfl,h⟩:=h
 ·rfl
 refine ⟨_,(zi (zl zt)),?_⟩
 nofun
 exact h
theorem zmn:zo qaa qaa (zj zdI):=by walk_at "sp"
theorem zm8 (kd:Kd) (hk:kd=.bank) (S:zA K (cA K kd.cls) "name" "Bank.name" zdI qaa) (T:Txt K mg)  : zJ P w K mg base 1 (cA K kd.cls) "name" qaa (zcD kd K):=by
 subst hk
 exists S.ok,zmn,0
 all_goals obtain ⟨a,rfl,h⟩:=h
 ·rfl
 refine ⟨_,(zi (zl zt)),?_⟩
 nofun
 exact h
theorem zjM:zo qaa qaa (zj zcm):=by walk_at "sp"
theorem zld (kd:Kd) (hk:kd=.thirty) (S:zA K (cA K kd.cls) "name" "Thirty.name" zcm qaa) (T:Txt K mg)  : zJ P w K mg base 1 (cA K kd.cls) "name" qaa (zcD kd K):=by
 subst hk
 exists S.ok,zjM,0
 all_goals obtain ⟨a,rfl,h⟩:=h
 ·rfl
 refine ⟨_,(zi (zl zt)),?_⟩
 nofun
 exact h
theorem zkW:zo qaa qaa (zj zcQ):=by walk_at "sp"
theorem zlz (kd:Kd) (hk:kd=.exact) (S:zA K (cA K kd.cls) "name" "Exact.name" zcQ qaa) (T:Txt K mg)  : zJ P w K mg base 1 (cA K kd.cls) "name" qaa (zcD kd K):=by
 subst hk
 exists S.ok,zkW,0
 all_goals obtain ⟨a,rfl,h⟩:=h
 ·rfl
 refine ⟨_,(zi (zl zt)),?_⟩
 nofun
 exact h
def zaZ (K:W.Frag):Sp:=fun vs H Q _=>L2.Ee5 fun p C dx (fs:List (Str × V)) d=>L2.Aa6 (vs=[.ref p,.int d]) (H p=some (.ins C dx fs)) (Cls K C) (zY K C "day") (fs.length<1000) (Q .non (upd H p (.ins C dx (zax "day" (.int d) fs))))
theorem zgU:zo qag qag (zj zaS):=by walk_at "sp"
theorem zmi (x:Str) (S:zA K (cA K x) "__init__" "Entry.__init__" zaS qag) (T:Txt K mg)  : zJ P w K mg base 1 (cA K x) "__init__" qag (zaZ K):=by
 exists S.ok,zgU,0
 all_goals obtain ⟨p,C,dx,fs,d,rfl,e,hc,hn,hl,h⟩:=h
 ·rfl
 refine ⟨_,(zi (zhu (pv 0) (pv 1) rfl)),?_⟩
 nofun
 refine ⟨p,C,dx,fs,rfl,e,hc,hn,hl,?_⟩
 exact h
theorem zk6 (S:zlr K (cA K "Entry") "__init__" "Entry.__init__" zaS qag) (T:Txt K mg)  : zjE P w K mg base 1 (cA K "Entry") "__init__" qag (zaZ K):=by
 exists S.ok,zgU,0
 all_goals obtain ⟨p,C,dx,fs,d,rfl,e,hc,hn,hl,h⟩:=h
 ·rfl
 refine ⟨_,(zi (zhu (pv 0) (pv 1) rfl)),?_⟩
 nofun
 refine ⟨p,C,dx,fs,rfl,e,hc,hn,hl,?_⟩
 exact h
def zaq (k:Ek) (K:W.Frag):Sp:=fun vs H Q _=>∃ a,vs=[.ref a]/\Q (.str k.word) H
theorem zlj:zo qaa qaa (zj zc6):=by walk_at "sp"
theorem zlQ (kd:Ek) (hk:kd=.base) (S:zA K (cA K kd.cls) "word" "Entry.word" zc6 qaa) (T:Txt K mg)  : zJ P w K mg base 1 (cA K kd.cls) "word" qaa (zaq kd K):=by
 subst hk
 exists S.ok,zlj,0
 all_goals obtain ⟨a,rfl,h⟩:=h
 ·rfl
 refine ⟨_,(zi (zl zt)),?_⟩
 nofun
 exact h
theorem znh:zo qaa qaa (zj zef):=by walk_at "sp"
theorem zov (kd:Ek) (hk:kd=.out) (S:zA K (cA K kd.cls) "word" "Out.word" zef qaa) (T:Txt K mg)  : zJ P w K mg base 1 (cA K kd.cls) "word" qaa (zaq kd K):=by
 subst hk
 exists S.ok,znh,0
 all_goals obtain ⟨a,rfl,h⟩:=h
 ·rfl
 refine ⟨_,(zi (zl zt)),?_⟩
 nofun
 exact h
theorem znv:zo qaa qaa (zj zej):=by walk_at "sp"
theorem zoh (kd:Ek) (hk:kd=.fee) (S:zA K (cA K kd.cls) "word" "Fee.word" zej qaa) (T:Txt K mg)  : zJ P w K mg base 1 (cA K kd.cls) "word" qaa (zaq kd K):=by
 subst hk
 exists S.ok,znv,0
 all_goals obtain ⟨a,rfl,h⟩:=h
 ·rfl
 refine ⟨_,(zi (zl zt)),?_⟩
 nofun
 exact h
theorem znl:zo qaa qaa (zj zeg):=by walk_at "sp"
theorem zok (kd:Ek) (hk:kd=.pay) (S:zA K (cA K kd.cls) "word" "Pay.word" zeg qaa) (T:Txt K mg)  : zJ P w K mg base 1 (cA K kd.cls) "word" qaa (zaq kd K):=by
 subst hk
 exists S.ok,znl,0
 all_goals obtain ⟨a,rfl,h⟩:=h
 ·rfl
 refine ⟨_,(zi (zl zt)),?_⟩
 nofun
 exact h
theorem zm3:zo qaa qaa (zj zeq):=by walk_at "sp"
theorem zot (kd:Ek) (hk:kd=.due) (S:zA K (cA K kd.cls) "word" "Due.word" zeq qaa) (T:Txt K mg)  : zJ P w K mg base 1 (cA K kd.cls) "word" qaa (zaq kd K):=by
 subst hk
 exists S.ok,zm3,0
 all_goals obtain ⟨a,rfl,h⟩:=h
 ·rfl
 refine ⟨_,(zi (zl zt)),?_⟩
 nofun
 exact h
theorem zma:zo qaa qaa (zj zdE):=by walk_at "sp"
theorem znm (kd:Ek) (hk:kd=.turn) (S:zA K (cA K kd.cls) "word" "Turn.word" zdE qaa) (T:Txt K mg)  : zJ P w K mg base 1 (cA K kd.cls) "word" qaa (zaq kd K):=by
 subst hk
 exists S.ok,zma,0
 all_goals obtain ⟨a,rfl,h⟩:=h
 ·rfl
 refine ⟨_,(zi (zl zt)),?_⟩
 nofun
 exact h
theorem zl7:zo qaa qaa (zj zdB):=by walk_at "sp"
theorem zm5 (kd:Ek) (hk:kd=.rate) (S:zA K (cA K kd.cls) "word" "Rate.word" zdB qaa) (T:Txt K mg)  : zJ P w K mg base 1 (cA K kd.cls) "word" qaa (zaq kd K):=by
 subst hk
 exists S.ok,zl7,0
 all_goals obtain ⟨a,rfl,h⟩:=h
 ·rfl
 refine ⟨_,(zi (zl zt)),?_⟩
 nofun
 exact h
theorem zlt:zo qaa qaa (zj zdy):=by walk_at "sp"
theorem znu (kd:Ek) (hk:kd=.late) (S:zA K (cA K kd.cls) "word" "Late.word" zdy qaa) (T:Txt K mg)  : zJ P w K mg base 1 (cA K kd.cls) "word" qaa (zaq kd K):=by
 subst hk
 exists S.ok,zlt,0
 all_goals obtain ⟨a,rfl,h⟩:=h
 ·rfl
 refine ⟨_,(zi (zl zt)),?_⟩
 nofun
 exact h
theorem zlc:zo qaa qaa (zj zcR):=by walk_at "sp"
theorem zmo (kd:Ek) (hk:kd=.still) (S:zA K (cA K kd.cls) "word" "Still.word" zcR qaa) (T:Txt K mg)  : zJ P w K mg base 1 (cA K kd.cls) "word" qaa (zaq kd K):=by
 subst hk
 exists S.ok,zlc,0
 all_goals obtain ⟨a,rfl,h⟩:=h
 ·rfl
 refine ⟨_,(zi (zl zt)),?_⟩
 nofun
 exact h
theorem zeR:∀ {xs ys:List Int},xs.Nodup->(∀ x∈xs,x∈ys)->xs.length<=ys.length
 | [],_,_,_=>ydc _
 | x::xs,ys,nd,h=>by
  have hx:=h x yaj
  obtain ⟨nx,nd'⟩:=ybq.mp nd
  have:=zeR (ys:=ys.erase x) nd' fun z hz=>(yct (fun (q:z=x)=>nx (by rw[<-q];exact hz))).mpr (h z (yah _ hz))
  rw[yco hx] at this
  have:=ycr hx
  rw[yax]
  omega
def zho (K:W.Frag):Sp:=fun vs H Q _=>∃ (p:Addr) (xs:List V) (l:List (Int × Int)),vs=[.ref p]/\H p=some (.lst xs)/\zu K H xs l/\l.length<=61 /\
 ∀ q H' ws r,H q=none->Same H H'->H' q=some (.lst ws)->zu K H' ws r->Sby.Tab r l->Q (.ref q) H'
theorem zhL:zo ["pairs", "sums", "pair"] qaf (zj zgN):=by walk_at "sp"
theorem zqI (S:Src K mg "summed" zgN qaf) (T:Txt K mg)  : Def P w K mg base 1 "summed" qaf (zho K):=by
 exists S.ok,zhL,0
 all_goals obtain ⟨p,xs,l,rfl,ep,hR,hl,h⟩:=h
 ·rfl
 refine ⟨_,(zf (zq (i:=1) zhL.nd rfl (by walk_at "lc") zqC)
  (zf (zha PassesOwn.never rfl (zaj (pv 0)) (zar (i:=2) zhL.nd rfl (by walk_at "lc"))
  (zi (zrU (pv 1) (zD zaU (pv 2) zd (fun _ _=>rfl)) (zh zy (zrW (pv 1) (zD zaU (pv 2) zd (fun _ _=>rfl)) zd) (zD zaU (pv 2) zd (fun _ _=>rfl))))))
  (zi (zl (zG (zhn rfl) rfl T.zcv PyProof.Rows.boot_sorted (za (zlI (pv 1)) ze)))))),?_⟩
 nofun
 intro d nd
 have sd:=zc nd (zbz P w d [])
 have ed:=zk (zbz P w d []) nd
 have small:∀ {acc:List (Int × Int)} {n:Nat},Sby.Tot acc (l.take n)->acc.length<=61:=fun {acc n} t=>by
  have:=zeR t.nd fun k hk=>(t.mem k).mp hk
  rw[yab,yab,yau] at this
  ac_rfl
 nofun
 refine ⟨⟨_,SqL.of (sd _ _ ep)⟩,ziH (xs:=xs) (fun i σ H'=>∃ (acc:List (Int × Int)) (z:Option V),(Same H H'/\H' d=some (zbz P w d acc))/\Sby.Tot acc (l.take i)/\σ=[some (.ref p),some (.ref d),z]) ⟨[],_,⟨sd,ed⟩,by rw[List.take_zero];exact Sby.Tot.nil,rfl⟩ ?_ ?_ ?_⟩
 ·rintro i σ H' _ ⟨acc,z,⟨sH,_⟩,_⟩
  exact SqL.of (sH _ _ ep)
 ·rintro i x σ H' hx ⟨acc,z,⟨sH,eD⟩,tt,rfl⟩
  obtain ⟨t,s,rfl,hs,ht⟩:=(hR.same sH).get hx
  have al:=small tt
  nofun
  refine ⟨d,acc,rfl,eD,?_⟩
  nofun
  refine ⟨eD,?_⟩
  rw[tt.look]
  nofun
  refine ⟨d,acc,s.1,_,rfl,rfl,rfl,eD,yde al (by decide),?_⟩
  refine ⟨zap acc s.1 (Sby.sm (l.take i) s.1+s.2),_,⟨zab sH nd,zg⟩,?_,rfl⟩
  rw[ycf,hs]
  exact tt.step s.1 s.2
 ·rintro σ H' ⟨acc,z,⟨sH,eD⟩,tt,rfl⟩
  have al:=small tt
  rw[hR.length,List.take_length] at tt
  nofun
  refine ⟨d,acc,rfl,eD,fun v H2 nv s2 ev=>?_⟩
  nofun
  refine ⟨v,d,acc,rfl,ev,s2 _ _ eD,by ac_rfl,fun q H3 ws r nq s3 eq hr' pm up=>?_⟩
  exact h q H3 ws r (zw (sH.trans s2) nq) (sH.trans (s2.trans s3)) eq hr' (tt.tab pm up)
def zgV (K:W.Frag):Sp:=fun vs H Q _=>∃ (a:Addr) (A:BkA) (b:BkT),vs=[.ref a]/\zaM K H a A b/\Q (.ref A.c) H
theorem zk5:zo qaa qaa (zj zcP):=by walk_at "sp"
theorem zmr (S:zA K (cA K "Book") "count" "Book.count" zcP qaa) (T:Txt K mg)  : zJ P w K mg base 1 (cA K "Book") "count" qaa (zgV K):=by
 exists S.ok,zk5,0
 all_goals obtain ⟨a,A,b,rfl,B,h⟩:=h
 ·rfl
 refine ⟨_,(zi (zl (zbn T.zB T.zbe (pv 0)))),?_⟩
 nofun
 refine ⟨a,A.dx,_,_,rfl,B.ins,rfl,?_⟩
 exact h
def zhE (K:W.Frag):Sp:=fun vs H Q _=>∃ (a:Addr) (A:BkA) (b:BkT),vs=[.ref a]/\zaM K H a A b/\∀ q xs,H q=none->zu K H xs b.dues->b.dues.length<=1000->Q (.ref q) (upd H q (.lst xs))
theorem zlF:zo qaa qaa (zj zdH):=by walk_at "sp"
theorem znc (S:zA K (cA K "Book") "dues" "Book.dues" zdH qaa) (T:Txt K mg)  : zJ P w K mg base 1 (cA K "Book") "dues" qaa (zhE K):=by
 exists S.ok,zlF,0
 all_goals obtain ⟨a,A,b,rfl,B,h⟩:=h
 ·rfl
 refine ⟨_,(zi (zl (zal zas rfl T.zbG PyProof.Rows.boot_list (za (zbn T.zB T.zbE (pv 0)) ze)))),?_⟩
 obtain ⟨xs,e,hR,hl⟩:=B.dues
 nofun
 refine ⟨a,A.dx,_,_,rfl,B.ins,rfl,?_⟩
 nofun
 exact ⟨A.d,xs,rfl,.inl (SqL.of e),fun q nq=>h q xs nq hR hl⟩
def zhF (K:W.Frag):Sp:=fun vs H Q _=>∃ (a:Addr) (A:BkA) (b:BkT),vs=[.ref a]/\zaM K H a A b/\∀ q xs,H q=none->zu K H xs b.fees->b.fees.length<=1000->Q (.ref q) (upd H q (.lst xs))
theorem zmB:zo qaa qaa (zj zdD):=by walk_at "sp"
theorem znx (S:zA K (cA K "Book") "fees" "Book.fees" zdD qaa) (T:Txt K mg)  : zJ P w K mg base 1 (cA K "Book") "fees" qaa (zhF K):=by
 exists S.ok,zmB,0
 all_goals obtain ⟨a,A,b,rfl,B,h⟩:=h
 ·rfl
 refine ⟨_,(zi (zl (zal zas rfl T.zbG PyProof.Rows.boot_list (za (zbn T.zB T.zbr (pv 0)) ze)))),?_⟩
 obtain ⟨xs,e,hR,hl⟩:=B.fees
 nofun
 refine ⟨a,A.dx,_,_,rfl,B.ins,rfl,?_⟩
 nofun
 exact ⟨A.f,xs,rfl,.inl (SqL.of e),fun q nq=>h q xs nq hR hl⟩
def zg4 (K:W.Frag):Sp:=fun vs H Q _=>∃ (a:Addr) (A:BkA) (b:BkT),vs=[.ref a]/\zaM K H a A b/\Q (.int b.g) H
theorem zkR:zo qaa qaa (zj zc1):=by walk_at "sp"
theorem zls (S:zA K (cA K "Book") "grace" "Book.grace" zc1 qaa) (T:Txt K mg)  : zJ P w K mg base 1 (cA K "Book") "grace" qaa (zg4 K):=by
 exists S.ok,zkR,0
 all_goals obtain ⟨a,A,b,rfl,B,h⟩:=h
 ·rfl
 refine ⟨_,(zi (zl (zbn T.zB T.za9 (pv 0)))),?_⟩
 nofun
 refine ⟨a,A.dx,_,_,rfl,B.ins,rfl,?_⟩
 exact h
def zg5 (K:W.Frag):Sp:=fun vs H Q _=>∃ (a:Addr) (A:BkA) (b:BkT),vs=[.ref a]/\zaM K H a A b/\∀ q xs,H q=none->zu K H xs b.lates->b.lates.length<=1000->Q (.ref q) (upd H q (.lst xs))
theorem zlf:zo qaa qaa (zj zcS):=by walk_at "sp"
theorem zmM (S:zA K (cA K "Book") "lates" "Book.lates" zcS qaa) (T:Txt K mg)  : zJ P w K mg base 1 (cA K "Book") "lates" qaa (zg5 K):=by
 exists S.ok,zlf,0
 all_goals obtain ⟨a,A,b,rfl,B,h⟩:=h
 ·rfl
 refine ⟨_,(zi (zl (zal zas rfl T.zbG PyProof.Rows.boot_list (za (zbn T.zB T.zbd (pv 0)) ze)))),?_⟩
 obtain ⟨xs,e,hR,hl⟩:=B.lates
 nofun
 refine ⟨a,A.dx,_,_,rfl,B.ins,rfl,?_⟩
 nofun
 exact ⟨A.l,xs,rfl,.inl (SqL.of e),fun q nq=>h q xs nq hR hl⟩
def zhs (K:W.Frag):Sp:=fun vs H Q _=>∃ (a:Addr) (A:BkA) (b:BkT),vs=[.ref a]/\zaM K H a A b/\∀ q xs,H q=none->zu K H xs b.outs->b.outs.length<=1000->Q (.ref q) (upd H q (.lst xs))
theorem zmC:zo qaa qaa (zj zdz):=by walk_at "sp"
theorem zni (S:zA K (cA K "Book") "outs" "Book.outs" zdz qaa) (T:Txt K mg)  : zJ P w K mg base 1 (cA K "Book") "outs" qaa (zhs K):=by
 exists S.ok,zmC,0
 all_goals obtain ⟨a,A,b,rfl,B,h⟩:=h
 ·rfl
 refine ⟨_,(zi (zl (zal zas rfl T.zbG PyProof.Rows.boot_list (za (zbn T.zB T.zbs (pv 0)) ze)))),?_⟩
 obtain ⟨xs,e,hR,hl⟩:=B.outs
 nofun
 refine ⟨a,A.dx,_,_,rfl,B.ins,rfl,?_⟩
 nofun
 exact ⟨A.o,xs,rfl,.inl (SqL.of e),fun q nq=>h q xs nq hR hl⟩
def zhH (K:W.Frag):Sp:=fun vs H Q _=>∃ (a:Addr) (A:BkA) (b:BkT),vs=[.ref a]/\zaM K H a A b/\∀ q xs,H q=none->zu K H xs b.pays->b.pays.length<=1000->Q (.ref q) (upd H q (.lst xs))
theorem zmF:zo qaa qaa (zj zdu):=by walk_at "sp"
theorem zm7 (S:zA K (cA K "Book") "pays" "Book.pays" zdu qaa) (T:Txt K mg)  : zJ P w K mg base 1 (cA K "Book") "pays" qaa (zhH K):=by
 exists S.ok,zmF,0
 all_goals obtain ⟨a,A,b,rfl,B,h⟩:=h
 ·rfl
 refine ⟨_,(zi (zl (zal zas rfl T.zbG PyProof.Rows.boot_list (za (zbn T.zB T.zbv (pv 0)) ze)))),?_⟩
 obtain ⟨xs,e,hR,hl⟩:=B.pays
 nofun
 refine ⟨a,A.dx,_,_,rfl,B.ins,rfl,?_⟩
 nofun
 exact ⟨A.p,xs,rfl,.inl (SqL.of e),fun q nq=>h q xs nq hR hl⟩
def zgX (K:W.Frag):Sp:=fun vs H Q _=>∃ (a:Addr) (A:BkA) (b:BkT),vs=[.ref a]/\zaM K H a A b/\∀ q xs,H q=none->zu K H xs b.rates->b.rates.length<=1000->Q (.ref q) (upd H q (.lst xs))
theorem zla:zo qaa qaa (zj zcY):=by walk_at "sp"
theorem zmc (S:zA K (cA K "Book") "rates" "Book.rates" zcY qaa) (T:Txt K mg)  : zJ P w K mg base 1 (cA K "Book") "rates" qaa (zgX K):=by
 exists S.ok,zla,0
 all_goals obtain ⟨a,A,b,rfl,B,h⟩:=h
 ·rfl
 refine ⟨_,(zi (zl (zal zas rfl T.zbG PyProof.Rows.boot_list (za (zbn T.zB T.zbb (pv 0)) ze)))),?_⟩
 obtain ⟨xs,e,hR,hl⟩:=B.rates
 nofun
 refine ⟨a,A.dx,_,_,rfl,B.ins,rfl,?_⟩
 nofun
 exact ⟨A.r,xs,rfl,.inl (SqL.of e),fun q nq=>h q xs nq hR hl⟩
def zf2 (K:W.Frag):Sp:=fun vs H Q _=>∃ (a:Addr) (A:BkA) (b:BkT),vs=[.ref a]/\zaM K H a A b/\∀ q xs,H q=none->zu K H xs b.spans->b.spans.length<=1000->Q (.ref q) (upd H q (.lst xs))
theorem zj3:zo qaa qaa (zj zcq):=by walk_at "sp"
theorem zk2 (S:zA K (cA K "Book") "stills" "Book.stills" zcq qaa) (T:Txt K mg)  : zJ P w K mg base 1 (cA K "Book") "stills" qaa (zf2 K):=by
 exists S.ok,zj3,0
 all_goals obtain ⟨a,A,b,rfl,B,h⟩:=h
 ·rfl
 refine ⟨_,(zi (zl (zal zas rfl T.zbG PyProof.Rows.boot_list (za (zbn T.zB T.zbH (pv 0)) ze)))),?_⟩
 obtain ⟨xs,e,hR,hl⟩:=B.spans
 nofun
 refine ⟨a,A.dx,_,_,rfl,B.ins,rfl,?_⟩
 nofun
 exact ⟨A.s,xs,rfl,.inl (SqL.of e),fun q nq=>h q xs nq hR hl⟩
def zgZ (K:W.Frag):Sp:=fun vs H Q _=>∃ (a:Addr) (A:BkA) (b:BkT),vs=[.ref a]/\zaM K H a A b/\∀ q,H q=none->Q (.ref q) (upd H q (.lst (b.turns.map V.int)))
theorem zkZ:zo qaa qaa (zj zcZ):=by walk_at "sp"
theorem zmY (S:zA K (cA K "Book") "turns" "Book.turns" zcZ qaa) (T:Txt K mg)  : zJ P w K mg base 1 (cA K "Book") "turns" qaa (zgZ K):=by
 exists S.ok,zkZ,0
 all_goals obtain ⟨a,A,b,rfl,B,h⟩:=h
 ·rfl
 refine ⟨_,(zi (zl (zal zas rfl T.zbG PyProof.Rows.boot_list (za (zbn T.zB T.zba (pv 0)) ze)))),?_⟩
 nofun
 refine ⟨a,A.dx,_,_,rfl,B.ins,rfl,?_⟩
 nofun
 exact ⟨A.t,_,rfl,.inl (SqL.of B.turns),fun q nq=>h q nq⟩
def zhP (K:W.Frag):Sp:=fun vs H Q _=>L2.Ee4 fun a (ns:List Int) k m=>L2.Aa6 (vs=[.ref a,.int k,.int m]) (SqL K H a (ns.map V.int)) (0<=k) (k<=1000000) (0<m) (∀ r,0<=r->r<m->Q (.int r) H)
theorem zb0:zo ["_law_script", "_law_k", "_law_many", "_law_cell_here", "_law_one", "_law_other"] qbb (zj zdM):=by walk_at "sp"
theorem zmZ (S:Src K mg "_law_draw" zdM qbb) (T:Txt K mg)  : Def P w K mg base 1 "_law_draw" qbb (zhP K):=by
 exists S.ok,zb0,0
 all_goals obtain ⟨a,ns,k,m,rfl,hS,h0,h1,hm,h⟩:=h
 ·rfl
 refine ⟨_,(zf (zq (i:=3) zb0.nd rfl (by walk_at "lc") zd)
  (zf (zcl (zH (zr zfp (zG zag rfl T.zbB PySem.boot_len (za (pv 0) ze)) zd (nomark _))
  (zi (zq (i:=3) zb0.nd rfl (by walk_at "lc") (zD zX (pv 0) (zh zC (pv 1) (zG zag rfl T.zbB PySem.boot_len (za (pv 0) ze))) (fun _ _=>rfl))))
   zx))
  (zf (zcl (zH (PW.pt (zcj (zr zfp (pv 3) (zaQ (v:=1000000000000000000) (by decide +kernel) ⟨by decide,by decide,by decide⟩) (nomark _)) (zcj (zr zQ (zh zC (pv 3) zd) zd (nomark _)) (zdq (zr zfj (pv 1) (zG zag rfl T.zbB PySem.boot_len (za (pv 0) ze)) (nomark _))))))
  (zi (zl (zh zC (zh zM (pv 3) zd) (pv 2))))
   zx))
  (zf (zq (i:=4) zb0.nd rfl (by walk_at "lc") (zh zC (zh zbh (zh zy (zh zC (pv 3) zd) zd) (zh zy zd (zh zbh (zh zbh zd (pv 1)) (zh zy (pv 1) zd)))) zd))
  (zf (zq (i:=5) zb0.nd rfl (by walk_at "lc") (zh zC (zh zy (zh zbh (pv 4) (pv 4)) zd) zd))
  (zi (zl (zh zC (zh zM (zh zC (zh zy (pv 4) (zh zbh (pv 5) zd)) zd) zd) (pv 2))))))))),?_⟩
 have fin:∀ r:Int,Q (.int (r % m)) H:=fun r=>h _ (ydy r (by ac_rfl)) (ydz r hm)
 nofun
 refine ⟨fun σ' H'=>H=H'/\∃ c:Int,σ'=[some (.ref a),some (.int k),some (.int m),some (.int c),none,none],?_,?_⟩
 ·nofun
  ·have hl:0<(ns.length:Int):=by
    have e:=yab (f:=V.int) (as:=ns)
    ac_rfl
   have e:k % ((ns.map V.int).length:Int)=k % (ns.length:Int):=by rw[yab]
   refine ⟨a,_,_,_,rfl,rfl,hS,(by rw[e];exact znU (ydy k (by ac_rfl)) (ydz k hl)),?_⟩
   nofun
   first | exact ⟨rfl,_,rfl⟩ | exact ⟨_,rfl⟩
  ·first | exact ⟨rfl,_,rfl⟩ | exact ⟨_,rfl⟩
 rintro σ' H' ⟨rfl,c,rfl⟩
 refine ⟨fun σ' H'=>H=H'/\σ'=[some (.ref a),some (.int k),some (.int m),some (.int c),none,none],?_,?_⟩
 ·nofun
  all_goals first | exact ⟨rfl,rfl⟩ | rfl | exact fin _
 rintro σ' H' ⟨rfl,rfl⟩
 nofun
 exact fin _
def zhV (K:W.Frag):Sp:=fun vs H Q _=>∃ c b,vs=[.int c,.int b]/\0<=c/\(0<=b/\b<=999699) /\
 ∀ t k d x H',H t=none->Same H H'->H' t=some (.tup (zcK k d x))->Sg 0 b (k,d,x)->Q (.ref t) H'
theorem zaT:zo ["_law_cell_here", "_law_base", "_law_word", "_law_day", "_law_rest", "_law_size", "_law_amount"] qbc (zj zdL):=by walk_at "sp"
theorem znD (S:Src K mg "_law_spec" zdL qbc) (T:Txt K mg)  : Def P w K mg base 1 "_law_spec" qbc (zhV K):=by
 exists S.ok,zaT,0
 all_goals obtain ⟨c,b,rfl,c0,⟨b0,b1⟩,h⟩:=h
 ·rfl
 refine ⟨_,(zf (zq (i:=2) zaT.nd rfl (by walk_at "lc") (zD zX (zN (za zt (za zt (za zt (za zt (za zt (za zt (za zt (za zt (za zt (za zt ze))))))))))) (zh zC (pv 0) zd) (fun _ _=>rfl)))
  (zf (zq (i:=3) zaT.nd rfl (by walk_at "lc") (zh zy (pv 1) (zD zX (zN (za (zh zC (zh zM (pv 0) zd) zd) (za (zh zbh (zh zC (zh zM (pv 0) zd) zd) zd) ze))) (zh zC (zh zM (pv 0) zd) zd) (fun _ _=>rfl))))
  (zf (zq (i:=4) zaT.nd rfl (by walk_at "lc") (zh zM (pv 0) zd))
  (zf (zH (zr zhq (pv 2) (zE (za zt (za zt ze))) (by with_unfolding_all rfl))
  (zi (zl (zE (za (pv 2) (za (pv 3) (za (zD zX (zN (za zd (za zd (za (zaQ (v:=1000000) (by decide +kernel) ⟨by decide,by decide,by decide⟩) (za (zh zC (zh zM (pv 4) zd) (zh zy (zaQ (v:=1000000) (by decide +kernel) ⟨by decide,by decide,by decide⟩) zd)) ze))))) (zh zC (pv 4) zd) (fun _ _=>rfl)) ze))))))
   zx)
  (zf (zH (zr zQ (pv 2) zt (nomark _))
  (zi (zl (zE (za (pv 2) (za (pv 3) (za (zh zy (zh zy (pv 3) zd) (zh zC (pv 4) zd)) ze))))))
   zx)
  (zf (zH (zr zQ (pv 2) zt (nomark _))
  (zi (zl (zE (za (pv 2) (za (pv 3) (za zd ze))))))
   zx)
  (zf (zq (i:=5) zaT.nd rfl (by walk_at "lc") (zD zX (zN (za zd (za (zaQ (v:=1000000000) (by decide +kernel) ⟨by decide,by decide,by decide⟩) (za (zaQ (v:=1000000) (by decide +kernel) ⟨by decide,by decide,by decide⟩) (za (zaQ (v:=10000) (by decide +kernel) ⟨by decide,by decide,by decide⟩) ze))))) (zh zC (pv 4) zd) (fun _ _=>rfl)))
  (zf (zq (i:=6) zaT.nd rfl (by walk_at "lc") (zh zy zd (zh zC (zh zM (pv 4) zd) (pv 5))))
  (zf (zH (PW.pt (zcj (zr zQ (pv 2) zt (nomark _)) (zdq (zr zQ (zh zC (zh zM (pv 4) zd) zd) zd (nomark _)))))
  (zi (zq (i:=6) zaT.nd rfl (by walk_at "lc") (zh zat zd (pv 6))))
   zx)
  (zi (zl (zE (za (pv 2) (za (pv 3) (za (pv 6) ze))))))))))))))),?_⟩
 nofun
 intro q1 nq1
 have s1:=zc nq1 (.lst [.str "out", .str "pay", .str "due", .str "pay", .str "fee", .str "due", .str "rate", .str "late", .str "turn", .str "still"])
 obtain ⟨v,hv,hm⟩:=zaR (xs:=[.str "out", .str "pay", .str "due", .str "pay", .str "fee", .str "due", .str "rate", .str "late", .str "turn", .str "still"]) (k:=c % 10) (by ac_rfl) (by simp;ac_rfl)
 obtain ⟨k,rfl,hk⟩:=((zU ⟨.out,rfl,by simp⟩ (zU ⟨.pay,rfl,by simp⟩ (zU ⟨.due,rfl,by simp⟩ (zU ⟨.pay,rfl,by simp⟩ (zU ⟨.fee,rfl,by simp⟩ (zU ⟨.due,rfl,by simp⟩ (zU ⟨.rate,rfl,by simp⟩ (zU ⟨.late,rfl,by simp⟩ (zU ⟨.turn,rfl,by simp⟩ (zU ⟨.still,rfl,by simp⟩ zeN)))))))))):∀ v∈([.str "out", .str "pay", .str "due", .str "pay", .str "fee", .str "due", .str "rate", .str "late", .str "turn", .str "still"]:List V),∃ k:Ek,v=.str k.word/\k≠.base) v hm
 nofun
 refine ⟨q1,_,_,_,rfl,rfl,SqL.of zg,hv,?_⟩
 clear hv hm
 generalize upd H q1 _=H1 at s1 ⊢
 nofun
 intro q2 nq2
 have s2:=zc nq2 (.lst [.int (c / 10 % 60),.int (c / 10 % 12*5)])
 obtain ⟨v,hv,hm⟩:=zaR (xs:=[.int (c / 10 % 60),.int (c / 10 % 12*5)]) (k:=c / 600 % 2) (by ac_rfl) (by simp;ac_rfl)
 obtain ⟨e,rfl,e0,e1⟩:=(zU ⟨_,rfl,by ac_rfl,by ac_rfl⟩ (zU ⟨_,rfl,by ac_rfl,by ac_rfl⟩ zeN):∀ v∈([.int (c / 10 % 60),.int (c / 10 % 12*5)]:List V),∃ w:Int,v=.int w/\0<=w/\w<=59) v hm
 nofun
 refine ⟨q2,_,_,_,rfl,rfl,SqL.of zg,hv,?_⟩
 clear hv hm
 generalize upd H1 q2 _=H2 at s2 ⊢
 have sA:=s1.trans s2
 nofun
 obtain ⟨D,hD⟩:∃ D,D=b+e:=⟨_,rfl⟩
 have d0:b<=D:=by ac_rfl
 have d1:D<=b+59+8*0:=by ac_rfl
 dsimp only
 rw[<-hD]
 clear hD e0 e1
 clear s1 s2
 cases k
 all_goals first | exact absurd rfl hk | skip
 all_goals dsimp only [Ek.word]
 all_goals nofun
 case out =>
  intro t nt
  have st:=zc nt (.tup [.str "rate", .str "late"])
  nofun
  refine ⟨t,_,rfl,.inr (SqT.of zg),rfl,rfl,_,rfl,?_⟩
  generalize upd H2 t (.tup [.str "rate", .str "late"])=H3 at st ⊢
  have sB:=sA.trans st
  nofun
  intro q3 nq3
  have s3:=zc nq3 (.lst [.int 9,.int 1000000000,.int 1000000,.int 10000])
  obtain ⟨v,hv,hm⟩:=zaR (xs:=[.int 9,.int 1000000000,.int 1000000,.int 10000]) (k:=c / 1200 % 4) (by ac_rfl) (by simp;ac_rfl)
  obtain ⟨u,rfl,u0⟩:=(zU ⟨_,rfl,by ac_rfl⟩ (zU ⟨_,rfl,by ac_rfl⟩ (zU ⟨_,rfl,by ac_rfl⟩ (zU ⟨_,rfl,by ac_rfl⟩ zeN))):∀ v∈([.int 9,.int 1000000000,.int 1000000,.int 10000]:List V),∃ w:Int,v=.int w/\0<w) v hm
  nofun
  refine ⟨q3,_,_,_,rfl,rfl,SqL.of zg,hv,?_⟩
  clear hv hm
  generalize upd H3 q3 _=H4 at s3 ⊢
  have sC:=sB.trans s3
  have m0:=ydy (c / 1200 / 4) (show u≠0 by ac_rfl)
  nofun
  intro t2 nt2
  exact h t2 .out D _ _ (zw sC nt2) (sC.trans (zc nt2 _)) zg ⟨d0,d1,by show 1<=1+c / 1200 / 4 % u;ac_rfl⟩
 case pay =>
  intro t nt
  have st:=zc nt (.tup [.str "rate", .str "late"])
  nofun
  refine ⟨t,_,rfl,.inr (SqT.of zg),rfl,rfl,_,rfl,?_⟩
  generalize upd H2 t (.tup [.str "rate", .str "late"])=H3 at st ⊢
  have sB:=sA.trans st
  nofun
  intro q3 nq3
  have s3:=zc nq3 (.lst [.int 9,.int 1000000000,.int 1000000,.int 10000])
  obtain ⟨v,hv,hm⟩:=zaR (xs:=[.int 9,.int 1000000000,.int 1000000,.int 10000]) (k:=c / 1200 % 4) (by ac_rfl) (by simp;ac_rfl)
  obtain ⟨u,rfl,u0⟩:=(zU ⟨_,rfl,by ac_rfl⟩ (zU ⟨_,rfl,by ac_rfl⟩ (zU ⟨_,rfl,by ac_rfl⟩ (zU ⟨_,rfl,by ac_rfl⟩ zeN))):∀ v∈([.int 9,.int 1000000000,.int 1000000,.int 10000]:List V),∃ w:Int,v=.int w/\0<w) v hm
  nofun
  refine ⟨q3,_,_,_,rfl,rfl,SqL.of zg,hv,?_⟩
  clear hv hm
  generalize upd H3 q3 _=H4 at s3 ⊢
  have sC:=sB.trans s3
  have m0:=ydy (c / 1200 / 4) (show u≠0 by ac_rfl)
  nofun
  intro t2 nt2
  exact h t2 .pay D _ _ (zw sC nt2) (sC.trans (zc nt2 _)) zg ⟨d0,d1,by show 1<=1+c / 1200 / 4 % u;ac_rfl⟩
 case due =>
  intro t nt
  have st:=zc nt (.tup [.str "rate", .str "late"])
  nofun
  refine ⟨t,_,rfl,.inr (SqT.of zg),rfl,rfl,_,rfl,?_⟩
  generalize upd H2 t (.tup [.str "rate", .str "late"])=H3 at st ⊢
  have sB:=sA.trans st
  nofun
  intro q3 nq3
  have s3:=zc nq3 (.lst [.int 9,.int 1000000000,.int 1000000,.int 10000])
  obtain ⟨v,hv,hm⟩:=zaR (xs:=[.int 9,.int 1000000000,.int 1000000,.int 10000]) (k:=c / 1200 % 4) (by ac_rfl) (by simp;ac_rfl)
  obtain ⟨u,rfl,u0⟩:=(zU ⟨_,rfl,by ac_rfl⟩ (zU ⟨_,rfl,by ac_rfl⟩ (zU ⟨_,rfl,by ac_rfl⟩ (zU ⟨_,rfl,by ac_rfl⟩ zeN))):∀ v∈([.int 9,.int 1000000000,.int 1000000,.int 10000]:List V),∃ w:Int,v=.int w/\0<w) v hm
  nofun
  refine ⟨q3,_,_,_,rfl,rfl,SqL.of zg,hv,?_⟩
  clear hv hm
  generalize upd H3 q3 _=H4 at s3 ⊢
  have sC:=sB.trans s3
  have m0:=ydy (c / 1200 / 4) (show u≠0 by ac_rfl)
  nofun
  intro t2 nt2
  exact h t2 .due D _ _ (zw sC nt2) (sC.trans (zc nt2 _)) zg ⟨d0,d1,by show 1<=1+c / 1200 / 4 % u;ac_rfl⟩
 case rate =>
  intro t nt
  have st:=zc nt (.tup [.str "rate", .str "late"])
  nofun
  refine ⟨t,_,rfl,.inr (SqT.of zg),rfl,rfl,_,rfl,?_⟩
  generalize upd H2 t (.tup [.str "rate", .str "late"])=H3 at st ⊢
  have sB:=sA.trans st
  nofun
  intro q3 nq3
  have s3:=zc nq3 (.lst [.int 0,.int 500,.int 1000000,.int (c / 1200 / 4 % (1000000+1))])
  obtain ⟨v,hv,hm⟩:=zaR (xs:=[.int 0,.int 500,.int 1000000,.int (c / 1200 / 4 % (1000000+1))]) (k:=c / 1200 % 4) (by ac_rfl) (by simp;ac_rfl)
  obtain ⟨u,rfl,u0⟩:=(zU ⟨_,rfl,by ac_rfl⟩ (zU ⟨_,rfl,by ac_rfl⟩ (zU ⟨_,rfl,by ac_rfl⟩ (zU ⟨_,rfl,by ac_rfl⟩ zeN))):∀ v∈([.int 0,.int 500,.int 1000000,.int (c / 1200 / 4 % (1000000+1))]:List V),∃ w:Int,v=.int w/\0<=w/\w<=1000000) v hm
  nofun
  refine ⟨q3,_,_,_,rfl,rfl,SqL.of zg,hv,?_⟩
  clear hv hm
  generalize upd H3 q3 _=H4 at s3 ⊢
  have sC:=sB.trans s3
  nofun
  intro t2 nt2
  exact h t2 .rate D _ _ (zw sC nt2) (sC.trans (zc nt2 _)) zg ⟨d0,d1,u0⟩
 case late =>
  intro t nt
  have st:=zc nt (.tup [.str "rate", .str "late"])
  nofun
  refine ⟨t,_,rfl,.inr (SqT.of zg),rfl,rfl,_,rfl,?_⟩
  generalize upd H2 t (.tup [.str "rate", .str "late"])=H3 at st ⊢
  have sB:=sA.trans st
  nofun
  intro q3 nq3
  have s3:=zc nq3 (.lst [.int 0,.int 500,.int 1000000,.int (c / 1200 / 4 % (1000000+1))])
  obtain ⟨v,hv,hm⟩:=zaR (xs:=[.int 0,.int 500,.int 1000000,.int (c / 1200 / 4 % (1000000+1))]) (k:=c / 1200 % 4) (by ac_rfl) (by simp;ac_rfl)
  obtain ⟨u,rfl,u0⟩:=(zU ⟨_,rfl,by ac_rfl⟩ (zU ⟨_,rfl,by ac_rfl⟩ (zU ⟨_,rfl,by ac_rfl⟩ (zU ⟨_,rfl,by ac_rfl⟩ zeN))):∀ v∈([.int 0,.int 500,.int 1000000,.int (c / 1200 / 4 % (1000000+1))]:List V),∃ w:Int,v=.int w/\0<=w/\w<=1000000) v hm
  nofun
  refine ⟨q3,_,_,_,rfl,rfl,SqL.of zg,hv,?_⟩
  clear hv hm
  generalize upd H3 q3 _=H4 at s3 ⊢
  have sC:=sB.trans s3
  nofun
  intro t2 nt2
  exact h t2 .late D _ _ (zw sC nt2) (sC.trans (zc nt2 _)) zg ⟨d0,d1,u0⟩
 case turn =>
  intro t nt
  have st:=zc nt (.tup [.str "rate", .str "late"])
  nofun
  refine ⟨t,_,rfl,.inr (SqT.of zg),rfl,rfl,_,rfl,?_⟩
  generalize upd H2 t (.tup [.str "rate", .str "late"])=H3 at st ⊢
  have sB:=sA.trans st
  nofun
  intro t2 nt2
  exact h t2 .turn D _ _ (zw sB nt2) (sB.trans (zc nt2 _)) zg ⟨d0,d1,trivial⟩
 case still =>
  intro t nt
  have st:=zc nt (.tup [.str "rate", .str "late"])
  nofun
  refine ⟨t,_,rfl,.inr (SqT.of zg),rfl,rfl,_,rfl,?_⟩
  generalize upd H2 t (.tup [.str "rate", .str "late"])=H3 at st ⊢
  have sB:=sA.trans st
  nofun
  intro t2 nt2
  exact h t2 .still D _ _ (zw sB nt2) (sB.trans (zc nt2 _)) zg ⟨d0,d1,by show D<_/\_<=b+79+0/\_<=1000000;dsimp only;ac_rfl⟩
 case fee =>
  intro t nt
  have st:=zc nt (.tup [.str "rate", .str "late"])
  nofun
  refine ⟨t,_,rfl,.inr (SqT.of zg),rfl,rfl,_,rfl,?_⟩
  generalize upd H2 t (.tup [.str "rate", .str "late"])=H3 at st ⊢
  have sB:=sA.trans st
  nofun
  intro q3 nq3
  have s3:=zc nq3 (.lst [.int 9,.int 1000000000,.int 1000000,.int 10000])
  obtain ⟨v,hv,hm⟩:=zaR (xs:=[.int 9,.int 1000000000,.int 1000000,.int 10000]) (k:=c / 1200 % 4) (by ac_rfl) (by simp;ac_rfl)
  obtain ⟨u,rfl,u0⟩:=(zU ⟨_,rfl,by ac_rfl⟩ (zU ⟨_,rfl,by ac_rfl⟩ (zU ⟨_,rfl,by ac_rfl⟩ (zU ⟨_,rfl,by ac_rfl⟩ zeN))):∀ v∈([.int 9,.int 1000000000,.int 1000000,.int 10000]:List V),∃ w:Int,v=.int w/\0<w) v hm
  nofun
  refine ⟨q3,_,_,_,rfl,rfl,SqL.of zg,hv,?_⟩
  clear hv hm
  generalize upd H3 q3 _=H4 at s3 ⊢
  have sC:=sB.trans s3
  have m0:=ydy (c / 1200 / 4) (show u≠0 by ac_rfl)
  nofun
  all_goals
   intro t2 nt2
   exact h t2 .fee D _ _ (zw sC nt2) (sC.trans (zc nt2 _)) zg ⟨d0,d1,trivial⟩
def zgT (K:W.Frag):Sp:=fun vs H Q _=>∃ n:Int,vs=[.int n]/\∀ c H',H c=none->Same H H'->zcG K H' c (kdN n)->Q (.ref c) H'
theorem zkQ:zo qas qas (zj zcH):=by walk_at "sp"
theorem zmI (S:Src K mg "_law_count" zcH qas) (T:Txt K mg)  : Def P w K mg base 1 "_law_count" qas (zgT K):=by
 exists S.ok,zkQ,0
 all_goals obtain ⟨n,rfl,h⟩:=h
 ·rfl
 refine ⟨_,(zi (zl (zD zX (zN (za (zh2 (T.mk0 .plain) T.zia) (za (zh2 (T.mk0 .bank) T.zlG) (za (zh2 (T.mk0 .thirty) T.ziB) (za (zh2 (T.mk0 .exact) T.zjO) ze))))) (zh zC (pv 0) zd) (fun _ _=>rfl)))),?_⟩
 have c0:=ydy (n) (show (4:Int)≠0 by decide)
 have c1:=ydz (n) (show (0:Int)<4 by decide)
 have new:∀ (kd:Kd) (H1:Hp) (x dx:Addr),H1 x=none->H1 dx=none->dx≠x->Same H1 (upd (upd H1 dx (.own x)) x (.ins (cA K kd.cls) dx []))/\zcG K (upd (upd H1 dx (.own x)) x (.ins (cA K kd.cls) dx [])) x kd:=fun kd H1 x dx nx nd ne =>
  ⟨(zc nd _).trans (zc (by rw[zv ne.symm];exact nx) _),dx,zg⟩
 nofun
 intro x1 d1 nx1 nd1 ne1
 obtain ⟨s1,i1⟩:=new .plain _ x1 d1 nx1 nd1 ne1
 generalize upd (upd H d1 (.own x1)) x1 (.ins (cA K Kd.plain.cls) d1 [])=H1 at s1 i1 ⊢
 nofun
 intro x2 d2 nx2 nd2 ne2
 obtain ⟨s2,i2⟩:=new .bank _ x2 d2 nx2 nd2 ne2
 generalize upd (upd H1 d2 (.own x2)) x2 (.ins (cA K Kd.bank.cls) d2 [])=H2 at s2 i2 ⊢
 nofun
 intro x3 d3 nx3 nd3 ne3
 obtain ⟨s3,i3⟩:=new .thirty _ x3 d3 nx3 nd3 ne3
 generalize upd (upd H2 d3 (.own x3)) x3 (.ins (cA K Kd.thirty.cls) d3 [])=H3 at s3 i3 ⊢
 nofun
 intro x4 d4 nx4 nd4 ne4
 obtain ⟨s4,i4⟩:=new .exact _ x4 d4 nx4 nd4 ne4
 generalize upd (upd H3 d4 (.own x4)) x4 (.ins (cA K Kd.exact.cls) d4 [])=H4 at s4 i4 ⊢
 nofun
 intro q nq
 have s5:=zc nq (.lst [.ref x1,.ref x2,.ref x3,.ref x4])
 have sA:=s1.trans (s2.trans (s3.trans (s4.trans s5)))
 nofun
 have:∃ x,atI [V.ref x1,V.ref x2,V.ref x3,V.ref x4] (n % 4)=some (.ref x)/\zcG K H4 x (kdN n)/\H x=none:=by
  unfold kdN
  dsimp only
  rcases (show n % 4=0\/n % 4=1\/n % 4=2\/n % 4=3 by ac_rfl) with e | e | e | e <;> rw[e]
  ·exact ⟨x1,rfl,i1.same (s2.trans (s3.trans s4)),nx1⟩
  ·exact ⟨x2,rfl,i2.same (s3.trans s4),zw s1 nx2⟩
  ·exact ⟨x3,rfl,i3.same s4,zw (s1.trans s2) nx3⟩
  ·exact ⟨x4,rfl,i4,zw (s1.trans (s2.trans s3)) nx4⟩
 obtain ⟨x,ax,ix,nx⟩:=this
 refine ⟨q,_,_,_,rfl,rfl,SqL.of zg,ax,?_⟩
 exact h x _ nx sA (ix.same s5)
def zdd (K:W.Frag):Sp:=fun vs H Q _=>L2.Ee5 fun q t rs (es:List Er) (ks:List Ek)=>L2.Aa6 (vs=[.ref q,.ref t]) (H q=some (.lst rs)) (RL3 H rs es) (es.length<=60) (H t=some (.tup (ks.map fun k=>V.str k.word))) (∀ p (ps:List Nat) H',H p=none->Same H H'->H' p=some (.lst ((ps.map fun i:Nat=>(i:Int)).map V.int))->(∀ i∈ps,∃ e u,es[i]?=some e/\rs[i]?=some (.ref u)/\H u=some (.tup (zcK e.1 e.2.1 e.2.2))/\e.1∈ks)->Q (.ref p) H')
theorem zjR:zo qao qao (zj zcs):=by walk_at "sp"
theorem zll (S:Src K mg "_law_places" zcs qao) (T:Txt K mg)  : Def P w K mg base 1 "_law_places" qao (zdd K):=by
 exists S.ok,zjR,0
 all_goals obtain ⟨q,t,rs,es,ks,rfl,hq,hR,l1,ht,h⟩:=h
 ·rfl
 refine ⟨_,(zi (zl (zbq (ix:=[0,1]) ⟨rfl,by decide +kernel,rfl,by decide +kernel,rfl,(show (["_law_k", "_law_specs_here", "_law_words"]:List Str).Nodup by decide +kernel),by walk_at "cap", by walk_at "sub", by walk_at "has"⟩ (zkl rfl T.zdn (za (zG zag rfl T.zbB PySem.boot_len (za (pv 0) ze)) ze)) (fun b=>(zr (zof K) (zD (zaH K) (zD (zqT K) (pv 1) (pv 0) (fun _ _=>rfl)) zd (fun _ _=>rfl)) (pv 2) (by with_unfolding_all rfl))) (fun b=>(pv 0))))),?_⟩
 have sz:=sizeLine_eq
 have xl:=hR.length
 nofun
 refine ⟨q,rs,rfl,.inl (SqL.of hq),?_⟩
 refine ⟨_,rfl,by ac_rfl,by ac_rfl,fun l nl=>?_⟩
 have at_:∀ i:Nat,i<es.length->∃ e u,es[i]?=some e/\rs[i]?=some (.ref u)/\H u=some (.tup (zcK e.1 e.2.1 e.2.2)):=fun i hi=>by
  obtain ⟨v,hv⟩:∃ v,rs[i]?=some v:=⟨_,yaa (by ac_rfl)⟩
  obtain ⟨e,he,u,rfl,hu⟩:=hR.get hv
  exact ⟨e,u,he,hv,hu⟩
 refine zkI nl (by ac_rfl) (fun i=>((es[i]?).map fun e=>inV (.str e.1.word) (ks.map fun k=>V.str k.word)).getD false) ?_ ?_ ?_
 ·rintro i H' Q' hi sH hq'
  obtain ⟨e,u,he,hv,hu⟩:=at_ i (by ac_rfl)
  have hu':=sH _ _ hu
  rw[he] at hq'
  have hq2:Q' (inV (.str e.1.word) (ks.map fun k=>V.str k.word)) H':=hq'
  nofun
  refine ⟨q,_,_,_,rfl,rfl,SqL.of (sH _ _ hq),by rw[Int.zero_add];exact zbJ hv,?_⟩
  nofun
  exact ⟨t,_,rfl,.inr (SqT.of (sH _ _ ht)),rfl,by rw[List.all_map];exact ycp.mpr fun k _=>rfl,_,rfl,hq2⟩
 ·rintro i H' Q' hi fe sH hq'
  nofun
  exact hq'
 obtain ⟨ps,hps⟩:∃ ps:List Nat,ps=(yas (rs.length:Int).toNat).filter fun i=>((es[i]?).map fun e=>inV (.str e.1.word) (ks.map fun k=>V.str k.word)).getD false:=⟨_,rfl⟩
 rw[<-hps]
 have pm:(ps.map fun i:Nat=>V.int ((0:Int)+(i:Int)))=(ps.map fun i:Nat=>(i:Int)).map V.int:=by rw[ybn];exact ybz fun i _=>by rw[Int.zero_add];rfl
 rw[pm]
 refine h l ps _ nl (zc nl _) zg fun i hi=>?_
 rw[hps] at hi
 obtain ⟨h1,h2⟩:=yaq.mp hi
 rw[ycq] at h1
 obtain ⟨e,u,he,hv,hu⟩:=at_ i (by ac_rfl)
 rw[he] at h2
 have h3:inV (.str e.1.word) (ks.map fun k=>V.str k.word)=true:=h2
 refine ⟨e,u,he,hv,hu,?_⟩
 unfold inV at h3
 rw[List.any_map] at h3
 obtain ⟨k,hk,e3⟩:=ybv.mp h3
 have:V.str e.1.word=V.str k.word:=by
  have:(k.word == e.1.word)=true:=e3
  rw[beq_iff_eq] at this
  rw[this]
 rw[ze8 _ _ this]
 exact hk
def zfQ (K:W.Frag):Sp:=fun vs H Q _=>L2.Ee4 fun a xs (t:List (Int × Int)) d=>L2.Aa6 (vs=[.ref a,.int d]) (SqL K H a xs) (zu K H xs t) ((t.Pairwise fun s u=>s.1<u.1)) ((∀ s∈t,0<=s.1)) (Q (.int (Sums.valOf t d)) H)
theorem ziA:zo ["table", "day", "many"] qat (zj zeh):=by walk_at "sp"
theorem zoo (S:Src K mg "value_at" zeh qat) (T:Txt K mg) (zew:Def P w K mg base 1 "begun" qar (ziQ K)):Def P w K mg base 2 "value_at" qat (zfQ K):=by
 exists S.ok,ziA,0
 all_goals obtain ⟨a,xs,t,d,rfl,hS,hR,up,t0,h⟩:=h
 ·rfl
 refine ⟨_,(zf (zq (i:=2) ziA.nd rfl (by walk_at "lc") (zp zew hr (za (pv 0) (za (pv 1) ze))))
  (zf (zH (zr zQ (pv 2) zd (nomark _))
  (zi (zl zd))
   zx)
  (zi (zl (zD zaU (zD zX (pv 0) (zh zat (pv 2) zd) (fun _ _=>rfl)) zd (fun _ _=>rfl)))))),?_⟩
 have xl:=hR.length
 nofun
 refine ⟨a,xs,t.map (·.1),d,rfl,hS,zn8 hR,by rw[ybh];exact up,?_⟩
 intro n B'
 have B:=B'.rows
 nofun
 ·rename_i q
  have:n=0:=by ac_rfl
  subst this
  rw[Stills.zgs t0 B] at h
  exact h
 ·rename_i q
  obtain ⟨k,rfl⟩:∃ k,n=k+1:=⟨n-1,by ac_rfl⟩
  have kl:=B.le
  obtain ⟨p,s,ex,es,hp⟩:=hR.get (yaa (by ac_rfl:k<xs.length))
  have ek:((k+1:Nat):Int)-1=(k:Int):=by ac_rfl
  have at_:atI xs (((k+1:Nat):Int)-1)=some (.ref p):=by
   rw[ek]
   exact zbJ (by rw[yaa (by ac_rfl:k<xs.length),ex])
  refine ⟨a,_,_,_,rfl,rfl,hS,at_,?_⟩
  nofun
  rw[Stills.zq7 t0 up B es] at h
  exact h
def zhO (K:W.Frag):Sp:=fun vs H Q _=>∃ (a:Addr) (A:BkA) (b:BkT),vs=[.ref a]/\zaM K H a A b /\
 ∀ p ws H',H p=none->Same H H'->H' p=some (.lst ws)->zu K H' ws (runs 0 (shf b.g b.dues))->Q (.ref p) H'
theorem zmm:zo ["book"] ["book"] (zj zds):=by walk_at "sp"
theorem znC (S:Src K mg "late_sums" zds ["book"]) (T:Txt K mg) (zan:Def P w K mg base 1 "running_sums" ["rows"] (zcJ K)) (zfM:zJ P w K mg base 1 (cA K "Book") "dues" qaa (zhE K)) (ze3:zJ P w K mg base 1 (cA K "Book") "grace" qaa (zg4 K)):Def P w K mg base 2 "late_sums" ["book"] (zhO K):=by
 exists S.ok,zmm,0
 all_goals obtain ⟨a,A,b,rfl,B,h⟩:=h
 ·rfl
 refine ⟨_,(zi (zl (zp zan hr (za (zdf (ix:=[0]) ⟨rfl,by decide +kernel,rfl,by decide +kernel,rfl,(show (["due", "book"]:List Str).Nodup by decide +kernel),by walk_at "cap", by walk_at "sub", by walk_at "has"⟩ (zaj (zW zfM T.zB hr (pv 0))) (fun b=>(zE (za (zh zy (zD (zaH K) (pv 0) zd (fun _ _=>rfl)) (zW ze3 T.zB hr (pv 1))) (za (zD (zaH K) (pv 0) zd (fun _ _=>rfl)) ze))))) ze)))),?_⟩
 have sz:=sizeLine_eq
 nofun
 refine ⟨a,A.dx,_,rfl,B.ins,rfl,a,A,b,rfl,B,fun q xs nq hR hl=>?_⟩
 have s1:=zc nq (.lst xs)
 have eQ:=zk (.lst xs) nq
 have hR1:=hR.same s1
 have xl:=hR.length
 generalize upd H q (.lst xs)=H1 at s1 eQ hR1 ⊢
 have B1:=B.same s1
 nofun
 refine ⟨⟨_,SqL.of eQ⟩,fun l nl=>?_⟩
 refine comp_map (zak (SqL.of eQ)) nl (by ac_rfl) b.dues xl.symm (fun H' v s=>∃ t,v=.ref t/\H' t=some (.tup [.int (s.1+b.g),.int s.2])) (fun v e H1 H2 s ⟨t,e1,e2⟩=>⟨t,e1,s _ _ e2⟩) (fun v e H1 ys zs hL ⟨t,e1,e2⟩=>⟨t,e1,by rw[zv (za8 e2 hL (by intro z;cases z))];exact e2⟩) ?_ ?_
 ·rintro i x s H' Q' hx hs sH hq
  obtain ⟨u,s',rfl,hs',hu⟩:=(hR1.same sH).get hx
  obtain rfl:s'=s:=Option.some.inj (hs'.symm.trans hs)
  have B':=B1.same sH
  nofun
  refine ⟨a,A.dx,_,rfl,B'.ins,rfl,a,A,b,rfl,B',?_⟩
  nofun
  intro t nt
  exact hq _ _ (zc nt _) ⟨t,rfl,zg⟩
 rintro ys H2 s2 eL hL
 have hS:zu K H2 ys (shf b.g b.dues):=by
  unfold shf
  clear eL
  revert hL
  generalize b.dues=l
  intro hL
  induction hL with
  | nil=>exact .nil
  | cons h _ ih =>
   obtain ⟨t,rfl,e⟩:=h
   exact .cons e ih
 have sl:(shf b.g b.dues).length<=1000:=by unfold shf;rw[yab];exact hl
 nofun
 rename_i p ws H3
 intro np s3 eP rP
 exact h p ws H3 (zw (s1.trans s2) np) (s1.trans (s2.trans s3)) eP rP
def ziN (K:W.Frag):Sp:=fun vs H Q _=>L2.Ee4 fun a xs l d=>L2.Aa5 (vs=[.ref a,.int d]) (SqL K H a xs) (zu K H xs l) (Spans.Joined l) (∀ m,Stills.Free l d m->Q (.int m) H)
theorem zmE:zo ["spans", "day", "many"] qah (zj zhY):=by walk_at "sp"
theorem zrL (S:Src K mg "moved" zhY qah) (T:Txt K mg) (zew:Def P w K mg base 1 "begun" qar (ziQ K)):Def P w K mg base 2 "moved" qah (ziN K):=by
 exists S.ok,zmE,0
 all_goals obtain ⟨a,xs,l,d,rfl,hS,hR,J,h⟩:=h
 ·rfl
 refine ⟨_,(zf (zq (i:=2) zmE.nd rfl (by walk_at "lc") (zp zew hr (za (pv 0) (za (pv 1) ze))))
  (zf (zH (zr zQ (pv 2) zd (nomark _))
  (zi (zl (pv 1)))
   zx)
  (zi (zl (zG (zcz rfl) rfl T.zen PyProof.Rows.boot_max (za (pv 1) (za (zD zaU (zD zX (pv 0) (zh zat (pv 2) zd) (fun _ _=>rfl)) zd (fun _ _=>rfl)) ze))))))),?_⟩
 have xl:=hR.length
 nofun
 refine ⟨a,xs,l.map (·.1),d,rfl,hS,zn8 hR,ybh.mpr (Stills.zpo J),?_⟩
 intro n B0
 have B:=B0.rows
 nofun
 ·rename_i q
  have:n=0:=by ac_rfl
  subst this
  exact h _ (Stills.zoz B)
 ·rename_i q
  obtain ⟨k,rfl⟩:∃ k,n=k+1:=⟨n-1,by ac_rfl⟩
  have kl:=B.le
  obtain ⟨p,s,ex,es,hp⟩:=hR.get (yaa (by ac_rfl:k<xs.length))
  have ek:((k+1:Nat):Int)-1=(k:Int):=by ac_rfl
  have at_:atI xs (((k+1:Nat):Int)-1)=some (.ref p):=by
   rw[ek]
   exact zbJ (by rw[yaa (by ac_rfl:k<xs.length),ex])
  refine ⟨a,_,_,_,rfl,rfl,hS,at_,?_⟩
  nofun
  exact h _ (Stills.zoJ J B es)
noncomputable def zmk:V->Bool
 | .int i=>decide (0<=i) && decide (i<=999999)
 | _=>false
def zkj (K:W.Frag):Sp:=fun vs H Q _=>∃ x T,vs=[x]/\zhb K H x T/\Q (.bl (zmk x)) H
theorem zo0:zo qad qad (zj zgx):=by walk_at "sp"
theorem zq6 (S:Src K mg "is_day" zgx qad) (T:Txt K mg) (zav:Def P w K mg base 1 "is_whole" qad (zdQ K)):Def P w K mg base 2 "is_day" qad (zkj K):=by
 exists S.ok,zo0,0
 all_goals obtain ⟨x,Tk,rfl,hk,h⟩:=h
 ·rfl
 refine ⟨_,(zi (zl (zbQ (zp zav hr (za (pv 0) ze)) (zbP (zgC zcr zcr zd (pv 0) (zeA T.zcU)))))),?_⟩
 nofun
 refine ⟨_,_,rfl,hk,?_⟩
 nofun
 ·rename_i z
  subst z
  obtain ⟨i,rfl⟩:=ty_int hk.1
  nofun
  ·exact qb h (by simp[zmk, *])
  ·exact qb h (by simp[zmk, *])
 ·rename_i z
  refine qb h ?_
  cases x with
  | int i=>exact absurd (zjh hk.1) z
  | _=>rfl
def zd0 (K:W.Frag):Sp:=fun vs H Q _=>∃ y m,vs=[.int y,.int m]/\1<=m/\m<=12/\Q (.int (Cal.mlen y m)) H
theorem zk3:zo qap qap (zj zc7):=by walk_at "sp"
theorem zlH (S:Src K mg "month_days" zc7 qap) (T:Txt K mg) (zhJ:Def P w K mg base 1 "is_leap" qai (zjl K)):Def P w K mg base 2 "month_days" qap (zd0 K):=by
 exists S.ok,zk3,0
 all_goals obtain ⟨y,m,rfl,h1,h2,h⟩:=h
 ·rfl
 refine ⟨_,(zf (zH (PW.pt (zcj (zr zQ (pv 1) zd (nomark _)) (zdq (zaD (zp zhJ hr (za (pv 0) ze))))))
  (zi (zl zd))
   zx)
  (zi (zl (zD zaU (zrz T.zhm) (zh zat (pv 1) zd) (fun _ _=>rfl))))),?_⟩
 have tab:∀ a:Addr,(∀ H,SqT K H a [.int 31,.int 28,.int 31,.int 30,.int 31,.int 30,.int 31,.int 31,.int 30,.int 31,.int 30,.int 31])->(m=2->Cal.leap y=false) ->
   ∃ p xs i v,V.ref a=.ref p/\V.int (m-1)=.int i/\SqT K H p xs/\atI xs i=some v/\Q v H:=fun a ha hb=>by
  have q:m=1\/m=2\/m=3\/m=4\/m=5\/m=6\/m=7\/m=8\/m=9\/m=10\/m=11\/m=12:=by ac_rfl
  rcases q with rfl | rfl | rfl | rfl | rfl | rfl | rfl | rfl | rfl | rfl | rfl | rfl
  all_goals refine ⟨_,_,_,_,rfl,rfl,ha H,rfl,qi h (by simp[Cal.mlen,Cal.lp, *])⟩
 nofun
 ·refine ifB (fun hb=>?_) (fun hb=>?_)
  ·exact qi h (by simp[Cal.mlen,Cal.lp, *])
  ·intro a ha
   nofun
   exact tab a ha (fun _=>hb)
 ·intro a ha
  nofun
  exact tab a ha (fun z=>absurd z (by assumption))
def zaA (K:W.Frag):Sp:=fun vs H Q _=>L2.Ee5 fun p C dx d x=>L2.Aa6 (vs=[.ref p,.int d,.int x]) (H p=some (.ins C dx [])) (Cls K C) (zY K C "day") (zY K C "amount") (Q .non (upd H p (.ins C dx [("day", .int d),("amount", .int x)])))
theorem zg6:zo qae qae (zj zR):=by walk_at "sp"
theorem za4 (x:Str) (S:zA K (cA K x) "__init__" "AmountEntry.__init__" zR qae) (T:Txt K mg) (zT:zjE P w K mg base 1 (cA K "Entry") "__init__" qag (zaZ K)):zJ P w K mg base 2 (cA K x) "__init__" qae (zaA K):=by
 exists S.ok,zg6,0
 all_goals obtain ⟨p,C,dx,d,x,rfl,e,hc,n1,n2,h⟩:=h
 ·rfl
 refine ⟨_,(zf (zb3 (zlN zT (zez (v:=.ref (cA K "Entry")) rfl T.zf8 rfl) hr (za (pv 0) (za (pv 1) ze))))
  (zi (zhu (pv 0) (pv 2) rfl))),?_⟩
 nofun
 refine ⟨p,C,dx,[],d,rfl,e,hc,n1,by decide,?_⟩
 nofun
 refine ⟨p,C,dx,_,rfl,zg,hc,n2,ydd (ycz 1) (by decide),?_⟩
 rw[zay]
 exact h
def zcf (K:W.Frag):Sp:=fun vs H Q _=>L2.Ee5 fun p C dx d x=>L2.Aa6 (vs=[.ref p,.int d,.int x]) (H p=some (.ins C dx [])) (Cls K C) (zY K C "day") (zY K C "rate") (Q .non (upd H p (.ins C dx [("day", .int d),("rate", .int x)])))
theorem zih:zo qam qam (zj zaB):=by walk_at "sp"
theorem zeE (x:Str) (S:zA K (cA K x) "__init__" "RateEntry.__init__" zaB qam) (T:Txt K mg) (zT:zjE P w K mg base 1 (cA K "Entry") "__init__" qag (zaZ K)):zJ P w K mg base 2 (cA K x) "__init__" qam (zcf K):=by
 exists S.ok,zih,0
 all_goals obtain ⟨p,C,dx,d,x,rfl,e,hc,n1,n2,h⟩:=h
 ·rfl
 refine ⟨_,(zf (zb3 (zlN zT (zez (v:=.ref (cA K "Entry")) rfl T.zf8 rfl) hr (za (pv 0) (za (pv 1) ze))))
  (zi (zhu (pv 0) (pv 2) rfl))),?_⟩
 nofun
 refine ⟨p,C,dx,[],d,rfl,e,hc,n1,by decide,?_⟩
 nofun
 refine ⟨p,C,dx,_,rfl,zg,hc,n2,ydd (ycz 1) (by decide),?_⟩
 rw[zay]
 exact h
def zg0 (K:W.Frag):Sp:=fun vs H Q _=>L2.Ee5 fun p C dx d x=>L2.Aa6 (vs=[.ref p,.int d,.int x]) (H p=some (.ins C dx [])) (Cls K C) (zY K C "day") (zY K C "until") (Q .non (upd H p (.ins C dx [("day", .int d),("until", .int x)])))
theorem zkX:zo qau qau (zj zc3):=by walk_at "sp"
theorem zmW (x:Str) (S:zA K (cA K x) "__init__" "Still.__init__" zc3 qau) (T:Txt K mg) (zT:zjE P w K mg base 1 (cA K "Entry") "__init__" qag (zaZ K)):zJ P w K mg base 2 (cA K x) "__init__" qau (zg0 K):=by
 exists S.ok,zkX,0
 all_goals obtain ⟨p,C,dx,d,x,rfl,e,hc,n1,n2,h⟩:=h
 ·rfl
 refine ⟨_,(zf (zb3 (zlN zT (zez (v:=.ref (cA K "Entry")) rfl T.zf8 rfl) hr (za (pv 0) (za (pv 1) ze))))
  (zi (zhu (pv 0) (pv 2) rfl))),?_⟩
 nofun
 refine ⟨p,C,dx,[],d,rfl,e,hc,n1,by decide,?_⟩
 nofun
 refine ⟨p,C,dx,_,rfl,zg,hc,n2,ydd (ycz 1) (by decide),?_⟩
 rw[zay]
 exact h
def zhp (K:W.Frag):Sp:=fun vs H Q _=>∃ i a b,vs=[.int i,.int a,.int b]/\(a<=i/\i<=b)/\Q (.bl true) H
theorem zlC:zo qav qav (zj zdF):=by walk_at "sp"
theorem zm6 (S:Src K mg "is_within" zdF qav) (T:Txt K mg) (zav:Def P w K mg base 1 "is_whole" qad (zdQ K)):Def P w K mg base 2 "is_within" qav (zhp K):=by
 exists S.ok,zlC,0
 all_goals obtain ⟨i,a,b,rfl,⟨h1,h2⟩,h⟩:=h
 ·rfl
 refine ⟨_,(zi (zl (zbQ (zp zav hr (za (pv 0) ze)) (zbP (zgC zcr zcr (pv 1) (pv 0) (pv 2)))))),?_⟩
 nofun
 refine ⟨_, "int", rfl,⟨.int i,by simp[kinds]⟩,?_⟩
 nofun
 all_goals first
  | exact absurd rfl (by assumption)
  | (exfalso;ac_rfl)
  | (refine qb h ?_;simp[h1,h2])
def zhv (K:W.Frag):Sp:=fun vs H Q _=>L2.Ee4 fun p xs (es:List Er) w=>L2.Aa6 (vs=[.ref p,.str w]) (SqL K H p xs) (EL K H xs es) (es.length<=61) (AmW w) (∀ q H' ws r,H q=none->Same H H'->H' q=some (.lst ws)->zu K H' ws r->Sby.Tab r (prs w es)->Q (.ref q) H')
theorem zps:zo qac qac (zj zgh):=by walk_at "sp"
theorem zp5 (S:Src K mg "sum_by" zgh qac) (T:Txt K mg) (zdb:Def P w K mg base 1 "summed" qaf (zho K)) (zaK:∀ k:Ek,zJ P w K mg base 1 (cA K k.cls) "word" qaa (zaq k K)):Def P w K mg base 2 "sum_by" qac (zhv K):=by
 exists S.ok,zps,0
 all_goals obtain ⟨p,xs,es,ww,rfl,ep,hE,hl,hw,h⟩:=h
 ·rfl
 refine ⟨_,(zi (zl (zp zdb hr (za (zbq (ix:=[1]) ⟨rfl,by decide +kernel,rfl,by decide +kernel,rfl,(show (["entry", "word"]:List Str).Nodup by decide +kernel),by walk_at "cap", by walk_at "sub", by walk_at "has"⟩ (zaj (pv 0)) (fun b=>(zr zQ (zep K zaK T.clE hr (pv 0)) (pv 1) (nomark _))) (fun b=>(zE (za (zb8 K (pv 0) rfl) (za (zb8 K (pv 0) rfl) ze))))) ze)))),?_⟩
 have sz:=sizeLine_eq
 nofun
 have xl:=hE.length
 refine ⟨⟨_,ep⟩,fun l nl=>?_⟩
 refine zbw (zak ep) nl (by ac_rfl) es xl.symm (isW ww) (fun H' v e=>∃ t,v=.ref t/\H' t=some (.tup [.int e.2.1,.int e.2.2])) (fun v e H1 H2 s ⟨t,e1,e2⟩=>⟨t,e1,s _ _ e2⟩) (fun v e H1 ys zs hL ⟨t,e1,e2⟩=>⟨t,e1,by rw[zv (za8 e2 hL (by intro z;cases z))];exact e2⟩) ?_ ?_ ?_
 ·rintro i x e H' Q' hx he sH hq
  obtain ⟨e',he',a,dx,rfl,hi⟩:=(hE.same sH).get hx
  obtain rfl:e'=e:=Option.some.inj (he'.symm.trans he)
  nofun
  refine ⟨e'.1,a,dx,_,rfl,hi,zfq _ _ _,a,rfl,?_⟩
  nofun
  exact hq
 ·rintro i x e H' Q' hx he fe sH hq
  obtain ⟨e',he',a,dx,rfl,hi⟩:=(hE.same sH).get hx
  obtain rfl:e'=e:=Option.some.inj (he'.symm.trans he)
  nofun
  refine ⟨a,_,dx,_,_,rfl,hi,T.clE _,T.zaP _,zeD _ _ _,?_⟩
  nofun
  refine ⟨a,_,dx,_,_,rfl,hi,T.clE _,T.zcI _,(amt hw fe).1,?_⟩
  nofun
  intro t nt
  exact hq _ _ (zc nt _) ⟨t,rfl,zg⟩
 ·rintro ys H' sH eL hL
  have hR:zu K H' ys (prs ww es):=zkd hL
  nofun
  refine ⟨l,ys,prs ww es,rfl,eL,hR,?_,fun q H2 ws r nq s2 eq hr' tb=>?_⟩
  ·unfold prs
   rw[yab]
   exact yde (yaw _ _) hl
  ·exact h q H2 ws r (zw sH nq) (sH.trans s2) eq hr' tb
def zju (K:W.Frag):Sp:=fun vs H Q _=>L2.Ee4 fun p xs (es:List Er) w=>L2.Aa5 (vs=[.ref p,.str w]) (SqL K H p xs) (EL K H xs es) (es.length<=61) (∀ q H' (ns:List Int),H q=none->Same H H'->H' q=some (.lst (ns.map V.int))->Days ns (dys w es)->Q (.ref q) H')
theorem zoj:zo qac qac (zj zfk):=by walk_at "sp"
theorem zpZ (S:Src K mg "days_of" zfk qac) (T:Txt K mg) (zaK:∀ k:Ek,zJ P w K mg base 1 (cA K k.cls) "word" qaa (zaq k K)):Def P w K mg base 2 "days_of" qac (zju K):=by
 exists S.ok,zoj,0
 all_goals obtain ⟨p,xs,es,ww,rfl,ep,hE,hl,h⟩:=h
 ·rfl
 refine ⟨_,(zi (zl (zG (zhl rfl) rfl T.zcv PyProof.Rows.boot_sorted (za (zal (zfi rfl) rfl T.zig PyProof.Rows.boot_set (za (zbq (ix:=[1]) ⟨rfl,by decide +kernel,rfl,by decide +kernel,rfl,(show (["entry", "word"]:List Str).Nodup by decide +kernel),by walk_at "cap", by walk_at "sub", by walk_at "has"⟩ (zaj (pv 0)) (fun b=>(zr zQ (zep K zaK T.clE hr (pv 0)) (pv 1) (nomark _))) (fun b=>(zb8 K (pv 0) rfl))) ze)) ze)))),?_⟩
 have sz:=sizeLine_eq
 have xl:=hE.length
 nofun
 refine ⟨⟨_,ep⟩,fun l nl=>?_⟩
 refine zbw (zak ep) nl (by ac_rfl) es xl.symm (isW ww) (fun _ v e=>v=.int e.2.1) (fun v e H1 H2 s q=>q) (fun v e H1 ys zs hL q=>q) ?_ ?_ ?_
 ·rintro i x e H' Q' hx he sH hq
  obtain ⟨e',he',a,dx,rfl,hi⟩:=(hE.same sH).get hx
  obtain rfl:e'=e:=Option.some.inj (he'.symm.trans he)
  nofun
  refine ⟨e'.1,a,dx,_,rfl,hi,zfq _ _ _,a,rfl,?_⟩
  nofun
  exact hq
 ·rintro i x e H' Q' hx he fe sH hq
  obtain ⟨e',he',a,dx,rfl,hi⟩:=(hE.same sH).get hx
  obtain rfl:e'=e:=Option.some.inj (he'.symm.trans he)
  nofun
  refine ⟨a,_,dx,_,_,rfl,hi,T.clE _,T.zaP _,zeD _ _ _,?_⟩
  exact hq _ _ (Same.refl _) rfl
 ·rintro ys H' sH eL hL
  have ey:ys=(dys ww es).map V.int:=by
   have:=hL.eqm (g:=fun e:Er=>V.int e.2.1)
   rw[this]
   unfold dys
   rw[ybn]
   rfl
  subst ey
  nofun
  refine ⟨l,dys ww es,rfl,SqL.of eL,ydd zn3 (by ac_rfl),fun p1 H1 ms np1 s1 e1 nd mm ml=>?_⟩
  nofun
  refine ⟨p1,ms,rfl,e1,?_,fun q H2 ns nq s2 eq pm up=>?_⟩
  ·exact ydd (yde (zeR nd fun d hd=>(mm d).mp hd) zn3) (by ac_rfl)
  ·exact h q H2 ns (zw (sH.trans s1) nq) (sH.trans (s1.trans s2)) eq (Days.of nd mm pm up)
def zgS (K:W.Frag):Sp:=fun vs H Q _=>L2.Ee4 fun p xs (es:List Er) w=>L2.Aa7 (vs=[.ref p,.str w]) (SqL K H p xs) (EL K H xs es) (es.length<=61) (RtW w) ((∀ e∈es,0<=e.2.1)) (∀ q H' ws (r:List (Int × Int)),H q=none->Same H H'->H' q=some (.lst ws)->zu K H' ws r->Stills.TabOf (prs w es) r->r=(r.map (·.1)).map (fun d=>(d,Sums.valOf (prs w es) d))->r.length<=61->Q (.ref q) H')
theorem zk1:zo qac qac (zj zcO):=by walk_at "sp"
theorem zmg (S:Src K mg "rate_table" zcO qac) (T:Txt K mg) (zgM:Def P w K mg base 1 "table_of" qaf (ziv K)) (zaK:∀ k:Ek,zJ P w K mg base 1 (cA K k.cls) "word" qaa (zaq k K)):Def P w K mg base 2 "rate_table" qac (zgS K):=by
 exists S.ok,zk1,0
 all_goals obtain ⟨p,xs,es,ww,rfl,ep,hE,hl,hw,e0,h⟩:=h
 ·rfl
 refine ⟨_,(zi (zl (zp zgM hr (za (zbq (ix:=[1]) ⟨rfl,by decide +kernel,rfl,by decide +kernel,rfl,(show (["entry", "word"]:List Str).Nodup by decide +kernel),by walk_at "cap", by walk_at "sub", by walk_at "has"⟩ (zaj (pv 0)) (fun b=>(zr zQ (zep K zaK T.clE hr (pv 0)) (pv 1) (nomark _))) (fun b=>(zE (za (zb8 K (pv 0) rfl) (za (zb8 K (pv 0) rfl) ze))))) ze)))),?_⟩
 have sz:=sizeLine_eq
 nofun
 have xl:=hE.length
 have pl:=yde (zf0 (w:=ww) (es:=es)) hl
 refine ⟨⟨_,ep⟩,fun l nl=>?_⟩
 refine zbw (zak ep) nl (by ac_rfl) es xl.symm (isW ww) (fun H' v e=>∃ t,v=.ref t/\H' t=some (.tup [.int e.2.1,.int e.2.2])) (fun v e H1 H2 s ⟨t,e1,e2⟩=>⟨t,e1,s _ _ e2⟩) (fun v e H1 ys zs hL ⟨t,e1,e2⟩=>⟨t,e1,by rw[zv (za8 e2 hL (by intro z;cases z))];exact e2⟩) ?_ ?_ ?_
 ·rintro i x e H' Q' hx he sH hq
  obtain ⟨e',he',a,dx,rfl,hi⟩:=(hE.same sH).get hx
  obtain rfl:e'=e:=Option.some.inj (he'.symm.trans he)
  nofun
  refine ⟨e'.1,a,dx,_,rfl,hi,zfq _ _ _,a,rfl,?_⟩
  nofun
  exact hq
 ·rintro i x e H' Q' hx he fe sH hq
  obtain ⟨e',he',a,dx,rfl,hi⟩:=(hE.same sH).get hx
  obtain rfl:e'=e:=Option.some.inj (he'.symm.trans he)
  nofun
  refine ⟨a,_,dx,_,_,rfl,hi,T.clE _,T.zaP _,zeD _ _ _,?_⟩
  nofun
  refine ⟨a,_,dx,_,_,rfl,hi,T.clE _,T.zi2 _,rtl hw fe,?_⟩
  nofun
  intro t nt
  exact hq _ _ (zc nt _) ⟨t,rfl,zg⟩
 ·rintro ys H' sH eL hL
  have hR:zu K H' ys (prs ww es):=zkd hL
  nofun
  refine ⟨l,ys,prs ww es,rfl,eL,hR,by ac_rfl,?_,fun q H2 ws r nq s2 eq hr' tb er rl=>?_⟩
  ·intro s hs
   obtain ⟨e,he,rfl⟩:=yag.mp hs
   exact e0 e (yaq.mp he).1
  ·exact h q H2 ws r (zw sH nq) (sH.trans s2) eq hr' tb er (by ac_rfl)
def zf9 (K:W.Frag):Sp:=fun vs H Q _=>∃ (p:Addr) (xs:List V) (es:List Er),vs=[.ref p]/\SqL K H p xs/\EL K H xs es/\es.length<=61 /\
 ∀ q H' ws (r:List (Int × Int)),H q=none->Same H H'->H' q=some (.lst ws)->zu K H' ws r->Spans.Joined r->(∀ d,Spans.Cov r d↔Spans.Cov (prs "still" es) d)->r.length<=61->Q (.ref q) H'
theorem zge:zo ["entries", "stills"] qbd (zj zcu):=by walk_at "sp"
theorem zk8 (S:Src K mg "still_spans" zcu qbd) (T:Txt K mg) (zaK:∀ k:Ek,zJ P w K mg base 1 (cA K k.cls) "word" qaa (zaq k K)) (ziX:Def P w K mg base 1 "joined" ["spans"] (zkm K)):Def P w K mg base 2 "still_spans" qbd (zf9 K):=by
 exists S.ok,zge,0
 all_goals obtain ⟨p,xs,es,rfl,ep,hE,hl,h⟩:=h
 ·rfl
 refine ⟨_,(zf (zhT (i:=1) zge.nd rfl rfl (ix:=[]) ⟨rfl,by decide +kernel,rfl,by decide +kernel,rfl,(show (["entry"]:List Str).Nodup by decide +kernel),by walk_at "cap", by walk_at "sub", by walk_at "has"⟩ (zaj (pv 0)) (fun b=>(zr zQ (zep K zaK T.clE hr (pv 0)) zt (nomark _))) (fun b=>(pv 0)))
  (zi (zl (zp ziX hr (za (zbq (ix:=[]) ⟨rfl,by decide +kernel,rfl,by decide +kernel,rfl,(show (["entry"]:List Str).Nodup by decide +kernel),by walk_at "cap", by walk_at "sub", by walk_at "has"⟩ (zaj (pv 1)) (fun b=>(zr zfj (zb8 K (pv 0) rfl) (zb8 K (pv 0) rfl) (nomark _))) (fun b=>(zE (za (zb8 K (pv 0) rfl) (za (zb8 K (pv 0) rfl) ze))))) ze))))),?_⟩
 have sz:=sizeLine_eq
 nofun
 have xl:=hE.length
 refine ⟨⟨_,ep⟩,fun l nl=>?_⟩
 refine zbw (zak ep) nl (by ac_rfl) es xl.symm (isW "still") (fun H' v e=>∃ a dx,v=.ref a/\zh3 K H' a dx e.1 e.2.1 e.2.2) (fun v e H1 H2 s ⟨t,dx,e1,e2⟩=>⟨t,dx,e1,s _ _ e2⟩) (fun v e H1 ys zs hL ⟨t,dx,e1,e2⟩=>⟨t,dx,e1,by rw[zh3,zv (za8 e2 hL (by intro z;cases z))];exact e2⟩) ?_ ?_ ?_
 ·rintro i x e H' Q' hx he sH hq
  obtain ⟨e',he',a,dx,rfl,hi⟩:=(hE.same sH).get hx
  obtain rfl:e'=e:=Option.some.inj (he'.symm.trans he)
  nofun
  refine ⟨e'.1,a,dx,_,rfl,hi,zfq _ _ _,a,rfl,?_⟩
  nofun
  exact hq
 ·rintro i x e H' Q' hx he fe sH hq
  obtain ⟨e',he',a,dx,rfl,hi⟩:=(hE.same sH).get hx
  obtain rfl:e'=e:=Option.some.inj (he'.symm.trans he)
  nofun
  exact hq _ _ (Same.refl _) ⟨a,dx,rfl,hi⟩
 ·rintro ys H1 s1 eL hL
  have hE1:EL K H1 ys (es.filter (isW "still")):=hL
  have yl:=hE1.length
  have fl:=yaw (isW "still") es
  nofun
  refine ⟨⟨_,SqL.of eL⟩,fun l2 nl2=>?_⟩
  have isS:∀ {i:Nat} {e:Er},(es.filter (isW "still"))[i]?=some e->isW "still" e=true:=fun {i e} he=>(yaq.mp (yai he)).2
  refine zbw (zak (SqL.of eL)) nl2 (by ac_rfl) (es.filter (isW "still")) yl.symm (fun e:Er=>decide (e.2.1<e.2.2)) (fun H' v e=>∃ t,v=.ref t/\H' t=some (.tup [.int e.2.1,.int e.2.2])) (fun v e H1 H2 s ⟨t,e1,e2⟩=>⟨t,e1,s _ _ e2⟩) (fun v e H1 ys zs hL ⟨t,e1,e2⟩=>⟨t,e1,by rw[zv (za8 e2 hL (by intro z;cases z))];exact e2⟩) ?_ ?_ ?_
  ·rintro i x e H' Q' hx he sH hq
   obtain ⟨e',he',a,dx,rfl,hi⟩:=(hE1.same sH).get hx
   obtain rfl:e'=e:=Option.some.inj (he'.symm.trans he)
   nofun
   refine ⟨a,_,dx,_,_,rfl,hi,T.clE _,T.zaP _,zeD _ _ _,?_⟩
   nofun
   refine ⟨a,_,dx,_,_,rfl,hi,T.clE _,T.zhw _,stl (isS he),?_⟩
   nofun
   exact hq
  ·rintro i x e H' Q' hx he fe sH hq
   obtain ⟨e',he',a,dx,rfl,hi⟩:=(hE1.same sH).get hx
   obtain rfl:e'=e:=Option.some.inj (he'.symm.trans he)
   nofun
   refine ⟨a,_,dx,_,_,rfl,hi,T.clE _,T.zaP _,zeD _ _ _,?_⟩
   nofun
   refine ⟨a,_,dx,_,_,rfl,hi,T.clE _,T.zhw _,stl (isS he),?_⟩
   nofun
   intro t nt
   exact hq _ _ (zc nt _) ⟨t,rfl,zg⟩
  ·rintro zs H2 s2 eL2 hL2
   have hR:zu K H2 zs (((es.filter (isW "still")).filter fun e:Er=>decide (e.2.1<e.2.2)).map (·.2)):=zkd hL2
   have em:((es.filter (isW "still")).filter fun e:Er=>decide (e.2.1<e.2.2)).map (·.2)=(prs "still" es).filter fun s=>decide (s.1<s.2):=by
    unfold prs
    rw[List.filter_map]
    rfl
   rw[em] at hR
   have pl:=yaw (fun s:Int × Int=>decide (s.1<s.2)) (prs "still" es)
   have pl2:=zf0 (w:="still") (es:=es)
   nofun
   refine ⟨l2,zs,_,rfl,SqL.of eL2,hR,by ac_rfl,fun s hs=>?_,fun q ws r H3 s3 nq eq rR J cv rl=>?_⟩
   ·simpa using (yaq.mp hs).2
   ·exact h q H3 ws r (zw (s1.trans s2) nq) (s1.trans (s2.trans s3)) eq rR J (fun d=>(cv d).trans (zqP _ d)) (by ac_rfl)
def zcE (K:W.Frag):Sp:=fun vs H Q _=>∃ (a:Addr) (ns:List Int) (k:Int),vs=[.ref a,.int k]/\SqL K H a (ns.map V.int)/\0<=k/\k<=990000/\∀ r,0<=r->r<10 ^ 40->Q (.int r) H
theorem zl6:zo qan qan (zj zdK):=by walk_at "sp"
theorem znE (S:Src K mg "_law_cell" zdK qan) (T:Txt K mg) (zdv:Def P w K mg base 1 "_law_draw" qbb (zhP K)):Def P w K mg base 2 "_law_cell" qan (zcE K):=by
 exists S.ok,zl6,0
 all_goals obtain ⟨a,ns,k,rfl,hS,k0,k1,h⟩:=h
 ·rfl
 refine ⟨_,(zf (zcl (zH (PW.pt (zcj (zr zfj (pv 1) (zG zag rfl T.zbB PySem.boot_len (za (pv 0) ze)) (nomark _)) (zcj (zr zQ (zh zC (zD zX (pv 0) (pv 1) (fun _ _=>rfl)) zd) zd (nomark _)) (zdq (zr zfp (zD zX (pv 0) (pv 1) (fun _ _=>rfl)) (zaQ (v:=1000000000000000000) (by decide +kernel) ⟨by decide,by decide,by decide⟩) (nomark _))))))
  (zi (zl (zh zC (zh zM (zD zX (pv 0) (pv 1) (fun _ _=>rfl)) zd) (zaQ (v:=10000000000000000000000000000000000000000) (by decide +kernel) ⟨by decide,by decide,by decide⟩))))
   zx))
  (zi (zl (zh zy (zh zbh (zp zdv hr (za (pv 0) (za (pv 1) (za (zh zbh zd (zaQ (v:=100000000) (by decide +kernel) ⟨by decide,by decide,by decide⟩)) ze)))) zd) (zp zdv hr (za (pv 0) (za (zh zy (pv 1) zd) (za (zh zbh zd (zaQ (v:=100000000) (by decide +kernel) ⟨by decide,by decide,by decide⟩)) ze)))))))),?_⟩
 have fin:∀ r:Int,Q (.int (r % 10 ^ 40)) H:=fun r=>h _ (ydy r (by decide)) (ydz r (by decide))
 have low:∀ r q:Int,0<=r->r<3*100000000->0<=q->q<3*100000000->Q (.int (r*300000007+q)) H:=fun r q r0 r1 q0 q1=>h _ (by ac_rfl) (Int.lt_trans (show r*300000007+q<10 ^ 18 by ac_rfl) (by decide))
 refine ⟨fun σ' H'=>H=H'/\σ'=[some (.ref a),some (.int k)],?_,?_⟩
 ·nofun
  ·rename_i q
   have at_:atI (ns.map V.int) k=some (.int (ns.getD k.toNat 0)):=znU k0 (by rw[yab] at q;exact q)
   refine ⟨a,_,_,_,rfl,rfl,hS,at_,?_⟩
   nofun
   ·refine ⟨a,_,_,_,rfl,rfl,hS,at_,?_⟩
    nofun
    ·refine ⟨a,_,_,_,rfl,rfl,hS,at_,?_⟩
     nofun
     exact fin _
    ·first | exact ⟨rfl,rfl⟩ | rfl
   ·first | exact ⟨rfl,rfl⟩ | rfl
  ·first | exact ⟨rfl,rfl⟩ | rfl
 rintro σ' H' ⟨rfl,rfl⟩
 nofun
 exact low _ _ (by assumption) (by assumption) (by assumption) (by assumption)
def zg1 (K:W.Frag):Sp:=fun vs H Q _=>L2.Ee6 fun q rs (es:List Er) c b n=>L2.Aa8 (vs=[.ref q,.int c,.int b]) (H q=some (.lst rs)) (RL3 H rs es) ((0<=n/\n<=9/\Sgs n b es)) (es.length<=60) (0<=c) ((0<=b/\b<=999699)) (∀ q' rs' (es':List Er) H',(H q'=none\/q'=q)->Same H H'->H' q'=some (.lst rs')->RL3 H' rs' es'->Sgs (n+1) b es'->(∀ g,zae g es' es)->es.length<=es'.length+1/\es'.length<=es.length+1->Q (.ref q') H')
theorem zs5 (k:Ek):(inV (.str k.word) [.str "rate", .str "late"]=true/\(k=.rate\/k=.late))\/(inV (.str k.word) [.str "rate", .str "late"]=false/\¬ (k=.rate\/k=.late)):=by cases k <;> simp <;> decide
theorem zP:zo ["_law_specs_here", "_law_cell_here", "_law_base", "_law_way", "_law_day", "_law_size", "_law_words", "_law_places_here", "_law_at", "_law_word", "_law_thing", "_law_made"] qak (zj zcM):=by walk_at "sp"
theorem zl2 (S:Src K mg "_law_eased" zcM qak) (T:Txt K mg) (zaX:Def P w K mg base 1 "_law_places" qao (zdd K)):Def P w K mg base 2 "_law_eased" qak (zg1 K):=by
 exists S.ok,zP,0
 all_goals obtain ⟨q,rs,es,c,b,n,rfl,hq,hR,⟨n0,n1,ok⟩,l1,c0,⟨b0,b1⟩,h⟩:=h
 ·rfl
 refine ⟨_,(zf (zq (i:=3) zP.nd rfl (by walk_at "lc") (zh zC (pv 1) zd))
  (zf (zq (i:=4) zP.nd rfl (by walk_at "lc") (zh zy (pv 2) (zh zC (zh zM (pv 1) zd) zd)))
  (zf (zq (i:=5) zP.nd rfl (by walk_at "lc") (zh zy zd (zh zC (zh zM (pv 1) zd) (zD zX (zN (za zd (za (zaQ (v:=1000000) (by decide +kernel) ⟨by decide,by decide,by decide⟩) ze))) (zh zC (zh zM (pv 1) zd) zd) (fun _ _=>rfl)))))
  (zf (zH (zr zQ (pv 3) zd (nomark _))
  (zi (zl (zh zaw (pv 0) (zN (za (zE (za zt (za (pv 4) (za (pv 5) ze)))) ze)))))
   zx)
  (zf (zH (zr zQ (pv 3) zd (nomark _))
  (zi (zl (zh zaw (pv 0) (zN (za (zE (za zt (za (pv 4) (za (zh zat zd (pv 5)) ze)))) ze)))))
   zx)
  (zf (zH (zr zQ (pv 3) zd (nomark _))
  (zi (zl (zh zaw (zN (za (zE (za zt (za (pv 4) (za (zh zy (zh zy (pv 4) zd) (zh zC (pv 5) zd)) ze)))) ze)) (pv 0))))
   zx)
  (zf (zq (i:=6) zP.nd rfl (by walk_at "lc") (zD zX (zN (za (zE (za zt ze)) (za (zE (za zt ze)) (za (zE (za zt ze)) (za (zE (za zt (za zt ze))) (za (zE (za zt ze)) ze)))))) (zh zat (pv 3) zd) (fun _ _=>rfl)))
  (zf (zq (i:=7) zP.nd rfl (by walk_at "lc") (zp zaX hr (za (pv 0) (za (pv 6) ze))))
  (zf (zH (zr (zpL hr.units) (pv 7) (zN ze) (nomark _))
  (zi (zl (pv 0)))
   zx)
  (zf (zq (i:=8) zP.nd rfl (by walk_at "lc") (zD zX (pv 7) (zh zC (zh zM (pv 1) zd) (zG zag rfl T.zbB PySem.boot_len (za (pv 7) ze))) (fun _ _=>rfl)))
  (zf (zjv (zD zX (pv 0) (pv 8) (fun _ _=>rfl)) (zmP rfl (zbC (zar (i:=9) zP.nd rfl (by walk_at "lc")) (zbC (zar (i:=4) zP.nd rfl (by walk_at "lc")) (zbC (zar (i:=10) zP.nd rfl (by walk_at "lc")) zjW)))))
  (zf (zq (i:=11) zP.nd rfl (by walk_at "lc") (zN (za (zE (za (pv 9) (za (pv 4) (za (zh zat (pv 10) (pv 5)) ze)))) ze)))
  (zf (zcl (zH (zr zQ (pv 9) zt (nomark _))
  (zi (zq (i:=11) zP.nd rfl (by walk_at "lc") (zN (za (zE (za (pv 9) (za (zG (zcz rfl) rfl T.zen PyProof.Rows.boot_max (za (pv 2) (za (zh zat (pv 4) (zh zC (zh zM (pv 1) zd) zd)) ze))) (za (zh zy (pv 10) (zh zbh (zh zC (zh zM (pv 1) zd) zd) (pv 5))) ze)))) ze))))
   zx))
  (zf (zcl (zH (zr zQ (pv 9) zt (nomark _))
  (zi (zq (i:=11) zP.nd rfl (by walk_at "lc") (zN ze)))
   zx))
  (zf (zcl (zH (zr zhq (pv 9) (zE (za zt (za zt ze))) (by with_unfolding_all rfl))
  (zi (zq (i:=11) zP.nd rfl (by walk_at "lc") (zN (za (zE (za (pv 9) (za (pv 4) (za (zG (zcz rfl) rfl T.zen PyProof.Rows.boot_max (za zd (za (zh zat (pv 10) (pv 5)) ze))) ze)))) ze))))
   zx))
  (zf (zcl (zH (zr zQ (pv 9) zt (nomark _))
  (zf (zq (i:=11) zP.nd rfl (by walk_at "lc") (zN (za (zE (za (pv 9) (za (zh zy (pv 4) (zh zC (zh zM (pv 1) zd) zd)) (za (zG (zcz rfl) rfl T.zen PyProof.Rows.boot_max (za zd (za (zh zat (pv 10) (zh zbh (zh zC (zh zM (pv 1) zd) zd) (pv 5))) ze))) ze)))) ze)))
  (zi (zH (zr zQ (zh zC (zh zM (pv 1) zd) zd) zd (nomark _))
  (zi (zq (i:=11) zP.nd rfl (by walk_at "lc") (zN ze)))
   zx)))
   zx))
  (zi (zl (zh zaw (zh zaw (zdp zer (pv 0) zex (zeB (pv 8))) (pv 11)) (zdp zer (pv 0) (zeB (zh zy (pv 8) zd)) zex)))))))))))))))))))),?_⟩
 have sz:=sizeLine_eq
 have xl:=hR.length
 nofun
 intro p1 np1
 have s1:=zc np1 (.lst [.int 9,.int 1000000])
 obtain ⟨v,hv1,hm⟩:=zaR (xs:=[.int 9,.int 1000000]) (k:=c / 8 % 2) (by ac_rfl) (by simp;ac_rfl)
 obtain ⟨u,rfl,u0⟩:=(zU ⟨_,rfl,by ac_rfl⟩ (zU ⟨_,rfl,by ac_rfl⟩ zeN):∀ v∈([.int 9,.int 1000000]:List V),∃ w:Int,v=.int w/\0<w) v hm
 nofun
 refine ⟨p1,_,_,_,rfl,rfl,SqL.of zg,hv1,?_⟩
 clear hv1 hm
 generalize upd H p1 _=H1 at s1 ⊢
 have m0:=ydy (c / 480) (show u≠0 by ac_rfl)
 obtain ⟨D,hD⟩:∃ D:Int,D=b+c / 8 % 60:=⟨_,rfl⟩
 have D0:b<=D/\D<=b+59:=by ac_rfl
 have okm:=ok.more (m:=n+1) (by ac_rfl)
 have hq1:=s1 _ _ hq
 dsimp only
 rw[<-hD]
 clear hD
 nofun
 ·intro t1 nt1
  have s2:=zc nt1 (.tup [.str "pay", .int D,.int (1+c / 480 % u)])
  have et:=zk (.tup [.str "pay", .int D,.int (1+c / 480 % u)]) nt1
  nofun
  intro q1 nq1
  have s3:=s2.trans (zc nq1 (.lst [.ref t1]))
  have e3:=zk (.lst [.ref t1]) nq1
  have et3:=zc nq1 (.lst [.ref t1]) _ _ et
  generalize upd (upd H1 t1 (.tup [.str "pay", .int D,.int (1+c / 480 % u)])) q1 (.lst [.ref t1])=H3 at s3 e3 et3 ⊢
  refine ⟨q,q1,_,_,rfl,rfl,s3 _ _ hq1,e3,by show _+1<=_;ac_rfl,fun q2 nq2=>?_⟩
  have s4:=zc nq2 (.lst (rs++[.ref t1]))
  have sA:=s1.trans (s3.trans s4)
  refine h q2 _ (es++[(Ek.pay,D,1+c / 480 % u)]) _ (.inl (zw (s1.trans s3) nq2)) sA zg (LL.append (hR.same sA) (.cons ⟨t1,rfl,s4 _ _ et3⟩ .nil)) (okm.app (Sgs.one ⟨D0.1,by have:=D0.2;show D<=b+59+8*(n+1);ac_rfl,by show 1<=1+c / 480 % u;ac_rfl⟩)) (fun g=>?_) (by rw[yad];show _<=_+1+1/\_+1<=_+1;ac_rfl)
  have:=zqc (g:=g) (A:=es) (B:=[]) (z':=D) (x':=1+c / 480 % u) (by ac_rfl)
  rwa [ybi] at this
 ·intro t1 nt1
  have s2:=zc nt1 (.tup [.str "fee", .int D,.int (0-(1+c / 480 % u))])
  have et:=zk (.tup [.str "fee", .int D,.int (0-(1+c / 480 % u))]) nt1
  nofun
  intro q1 nq1
  have s3:=s2.trans (zc nq1 (.lst [.ref t1]))
  have e3:=zk (.lst [.ref t1]) nq1
  have et3:=zc nq1 (.lst [.ref t1]) _ _ et
  generalize upd (upd H1 t1 (.tup [.str "fee", .int D,.int (0-(1+c / 480 % u))])) q1 (.lst [.ref t1])=H3 at s3 e3 et3 ⊢
  refine ⟨q,q1,_,_,rfl,rfl,s3 _ _ hq1,e3,by show _+1<=_;ac_rfl,fun q2 nq2=>?_⟩
  have s4:=zc nq2 (.lst (rs++[.ref t1]))
  have sA:=s1.trans (s3.trans s4)
  refine h q2 _ (es++[(Ek.fee,D,0-(1+c / 480 % u))]) _ (.inl (zw (s1.trans s3) nq2)) sA zg (LL.append (hR.same sA) (.cons ⟨t1,rfl,s4 _ _ et3⟩ .nil)) (okm.app (Sgs.one ⟨D0.1,by have:=D0.2;show D<=b+59+8*(n+1);ac_rfl,trivial⟩)) (fun g=>?_) (by rw[yad];show _<=_+1+1/\_+1<=_+1;ac_rfl)
  have:=zqB (g:=g) (A:=es) (B:=[]) (z:=D) (x':=0-(1+c / 480 % u)) (by ac_rfl)
  rwa [ybi] at this
 ·intro t1 nt1
  have s2:=zc nt1 (.tup [.str "still", .int D,.int (D+1+(1+c / 480 % u) % 20)])
  have et:=zk (.tup [.str "still", .int D,.int (D+1+(1+c / 480 % u) % 20)]) nt1
  nofun
  intro q1 nq1
  have s3:=s2.trans (zc nq1 (.lst [.ref t1]))
  have e3:=zk (.lst [.ref t1]) nq1
  have et3:=zc nq1 (.lst [.ref t1]) _ _ et
  generalize upd (upd H1 t1 (.tup [.str "still", .int D,.int (D+1+(1+c / 480 % u) % 20)])) q1 (.lst [.ref t1])=H3 at s3 e3 et3 ⊢
  nofun
  refine ⟨q1,q,_,_,rfl,rfl,e3,s3 _ _ hq1,by show 1+_<=_;ac_rfl,fun q2 nq2=>?_⟩
  have s4:=zc nq2 (.lst ([.ref t1]++rs))
  have sA:=s1.trans (s3.trans s4)
  refine h q2 _ ((Ek.still,D,D+1+(1+c / 480 % u) % 20)::es) _ (.inl (zw (s1.trans s3) nq2)) sA zg (.cons ⟨t1,rfl,s4 _ _ et3⟩ (hR.same sA)) ((Sgs.one ⟨D0.1,by have:=D0.2;show D<=b+59+8*(n+1);ac_rfl,by show D<D+1+(1+c / 480 % u) % 20/\D+1+(1+c / 480 % u) % 20<=b+79+0/\D+1+(1+c / 480 % u) % 20<=1000000;ac_rfl⟩).app okm) (fun g=>zpy ok.due fun w hw s hs=>(ok.rate w hw s hs).1) (by show _<=_+1+1/\_+1<=_+1;ac_rfl)
 have w3:3<=c % 8:=by ac_rfl
 intro xA nxA
 have g0:=zc nxA (.tup [.str "pay"])
 have exA:=zk (.tup [.str "pay"]) nxA
 generalize upd H1 xA (.tup [.str "pay"])=G0 at g0 exA ⊢
 nofun
 intro xB nxB
 have g1:=zc nxB (.tup [.str "fee"])
 have exB:=zk (.tup [.str "fee"]) nxB
 generalize upd G0 xB (.tup [.str "fee"])=G1 at g1 exB ⊢
 nofun
 intro xC nxC
 have g2:=zc nxC (.tup [.str "turn"])
 have exC:=zk (.tup [.str "turn"]) nxC
 generalize upd G1 xC (.tup [.str "turn"])=G2 at g2 exC ⊢
 nofun
 intro xD nxD
 have g3:=zc nxD (.tup [.str "rate", .str "late"])
 have exD:=zk (.tup [.str "rate", .str "late"]) nxD
 generalize upd G2 xD (.tup [.str "rate", .str "late"])=G3 at g3 exD ⊢
 nofun
 intro xE nxE
 have g4:=zc nxE (.tup [.str "due"])
 have exE:=zk (.tup [.str "due"]) nxE
 generalize upd G3 xE (.tup [.str "due"])=G4 at g4 exE ⊢
 nofun
 intro pl npl
 have g5:=zc npl (.lst [.ref xA,.ref xB,.ref xC,.ref xD,.ref xE])
 have epl:=zk (.lst [.ref xA,.ref xB,.ref xC,.ref xD,.ref xE]) npl
 generalize upd G4 pl (.lst [.ref xA,.ref xB,.ref xC,.ref xD,.ref xE])=G5 at g5 epl ⊢
 have gA:=g0.trans (g1.trans (g2.trans (g3.trans (g4.trans g5))))
 have sA:=s1.trans gA
 have wk:∃ (tw:Addr) (ks:List Ek),atI [V.ref xA,.ref xB,.ref xC,.ref xD,.ref xE] (c % 8-3)=some (.ref tw)/\G5 tw=some (.tup (ks.map fun k=>V.str k.word))/\∀ k∈ks,k=.pay\/k=.fee\/k=.turn\/(k=.rate\/k=.late)\/k=.due:=by
  rcases (show c % 8=3\/c % 8=4\/c % 8=5\/c % 8=6\/c % 8=7 by ac_rfl) with e | e | e | e | e <;> rw[e]
  ·exact ⟨xA,[.pay],rfl,(g1.trans (g2.trans (g3.trans (g4.trans g5)))) _ _ exA,fun k hk=>.inl (yan.mp hk)⟩
  ·exact ⟨xB,[.fee],rfl,(g2.trans (g3.trans (g4.trans g5))) _ _ exB,fun k hk=>.inr (.inl (yan.mp hk))⟩
  ·exact ⟨xC,[.turn],rfl,(g3.trans (g4.trans g5)) _ _ exC,fun k hk=>.inr (.inr (.inl (yan.mp hk)))⟩
  ·exact ⟨xD,[.rate,.late],rfl,(g4.trans g5) _ _ exD,fun k hk=>.inr (.inr (.inr (.inl (by rcases yal.mp hk with h | h;exact .inl h;exact .inr (yan.mp h)))))⟩
  ·exact ⟨xE,[.due],rfl,g5 _ _ exE,fun k hk=>.inr (.inr (.inr (.inr (yan.mp hk))))⟩
 obtain ⟨tw,ks,aw,ew,hks⟩:=wk
 nofun
 refine ⟨pl,_,_,_,rfl,rfl,SqL.of epl,aw,?_⟩
 clear aw epl exA exB exC exD exE w3 g0 g1 g2 g3 g4 g5
 nofun
 refine ⟨q,tw,rs,es,ks,rfl,sA _ _ hq,hR.same sA,l1,ew,fun pp ps H2 npp s2 ep pok=>?_⟩
 have sB:=sA.trans s2
 nofun
 intro p3 np3
 have s3:=zc np3 (.lst [])
 have e3:=zk (.lst []) np3
 have ep3:=s3 _ _ ep
 generalize upd H2 p3 (.lst [])=H3 at s3 e3 ep3 ⊢
 have sC:=sB.trans s3
 refine ⟨_,_,.lst (SqL.of ep3) (zbM.ints _),.lst (SqL.of e3) .nil,shaped_ints _,shaped_ints [],?_⟩
 rw[show PyData.eqv (.list ((ps.map fun i:Nat=>(i:Int)).map PyData.int)) (.list [])=decide ((ps.map fun i:Nat=>(i:Int))=[]) from ziG _ []]
 by_cases pe:(ps.map fun i:Nat=>(i:Int))=[]
 ·rw[decide_eq_true pe]
  nofun
  exact h q rs es H3 (.inr rfl) sC (sC _ _ hq) (hR.same sC) okm (fun g=>zae.refl g es) ⟨by ac_rfl,by ac_rfl⟩
 rw[decide_eq_false pe]
 have pl':0<(ps.map fun i:Nat=>(i:Int)).length:=ycx.mpr pe
 clear e3
 nofun
 refine ⟨pp,_,rfl,.inl (SqL.of ep3),?_⟩
 rw[yab]
 have z0:=ydy (c / 480) (show ((ps.map fun i:Nat=>(i:Int)).length:Int)≠0 by ac_rfl)
 have z1:=ydz (c / 480) (show (0:Int)<((ps.map fun i:Nat=>(i:Int)).length:Int) by ac_rfl)
 nofun
 obtain ⟨v,hv0,hm⟩:=zaR (xs:=(ps.map fun i:Nat=>(i:Int)).map V.int) (k:=c / 480 % ((ps.map fun i:Nat=>(i:Int)).length:Int)) z0 (by rw[yab (f:=V.int)];exact z1)
 obtain ⟨j,hj,rfl⟩:=yag.mp hm
 obtain ⟨i,im,rfl⟩:=yag.mp hj
 obtain ⟨⟨k,d,x⟩,t,he,hv,ht,kk⟩:=pok i im
 have kk:=hks _ kk
 have il:i<es.length:=(yac.mp he).1
 have oe:=ok _ (yai he)
 refine ⟨pp,_,_,_,rfl,rfl,SqL.of ep3,hv0,?_⟩
 clear hv0 hm hj pok pe pl' z0 z1 ep ep3 im hks
 nofun
 refine ⟨q,_,_,_,rfl,rfl,SqL.of (sC _ _ hq),zbJ hv,?_⟩
 have ht':=(s2.trans s3) _ _ ht
 refine ⟨t,_,rfl,SqT.of ht',rfl,?_⟩
 nofun
 obtain ⟨S,hS⟩:∃ S:Int,S=1+c / 480 % u:=⟨_,rfl⟩
 have S0:1<=S:=by ac_rfl
 dsimp only
 rw[<-hS]
 clear hS m0 s1 s2 s3 sA sB gA np1 npp np3
 have fin:∀ {z y:Int},(Sg (n+1) b (k,z,y))->(∀ g,zae g (es.take i++(k,z,y)::es.drop (i+1)) (es.take i++(k,d,x)::es.drop (i+1)))->Sgs (n+1) b [(k,z,y)]/\∀ g,zae g (es.take i++[(k,z,y)]++es.drop (i+1)) (es.take i++(k,d,x)::es.drop (i+1)):=fun {z y} h1 h2=>⟨Sgs.one h1,fun g=>by rw[ybm];exact h2 g⟩
 have ol:=oe.lo
 have oh:=oe.hi
 dsimp only at ol oh
 intro ta nta
 have ya:=zc nta (.tup [.str k.word,.int d,.int (x-S)])
 have ea:=zk (.tup [.str k.word,.int d,.int (x-S)]) nta
 nofun
 intro la nla
 have yb:=ya.trans (zc nla (.lst [.ref ta]))
 have eb:=zk (.lst [.ref ta]) nla
 have eab:=zc nla (.lst [.ref ta]) _ _ ea
 have f0:k=.fee->Sgs (n+1) b [(k,d,x-S)]/\∀ g,zae g (es.take i++[(k,d,x-S)]++es.drop (i+1)) (es.take i++(k,d,x)::es.drop (i+1)):=fun kf=>by
  subst kf
  exact fin ⟨ol,by show d<=b+59+8*(n+1);ac_rfl,trivial⟩ fun g=>zr4 (by ac_rfl)
 have sD:=sC.trans yb
 generalize upd (upd H3 ta (.tup [.str k.word,.int d,.int (x-S)])) la (.lst [.ref ta])=H4 at sD eb eab ⊢
 clear ya yb ea
 refine ⟨fun σ' H'=>∃ (pm:Addr) (ms:List V) (em:List Er),(Same H H'/\H' pm=some (.lst ms)/\RL3 H' ms em)/\em.length<=1/\(k=.fee\/k=.pay->Sgs (n+1) b em/\∀ g,zae g (es.take i++em++es.drop (i+1)) (es.take i++(k,d,x)::es.drop (i+1)))/\σ'=[some (.ref q),some (.int c),some (.int b),some (.int (c % 8)),some (.int d),some (.int S),some (.ref tw),some (.ref pp),some (.int i),some (.str k.word),some (.int x),some (.ref pm)],?_,?_⟩
 ·nofun
  ·rename_i hc
   obtain rfl:=ze8 k .pay hc
   have c2:x<=x+c / 72 % 2*S:=by
    rcases (show c / 72 % 2=0\/c / 72 % 2=1 by ac_rfl) with e | e <;> rw[e] <;> ac_rfl
   have o1:1<=x:=oe.th
   obtain ⟨Y,hY⟩:∃ Y:Int,Y=x+c / 72 % 2*S:=⟨_,rfl⟩
   rw[<-hY] at c2
   obtain ⟨Z,hZ⟩:∃ Z:Int,Z=if d-c / 8 % 9 > b then d-c / 8 % 9 else b:=⟨_,rfl⟩
   have Z0:b<=Z/\Z<=d:=by rw[hZ];split <;> ac_rfl
   dsimp only [Ek.word]
   nofun
   rw[<-hY,<-hZ]
   clear hY hZ
   intro ta nta
   have ya:=zc nta (.tup [.str "pay", .int Z,.int Y])
   have ea:=zk (.tup [.str "pay", .int Z,.int Y]) nta
   nofun
   intro la nla
   have yb:=ya.trans (zc nla (.lst [.ref ta]))
   have eb:=zk (.lst [.ref ta]) nla
   have eab:=zc nla (.lst [.ref ta]) _ _ ea
   refine ⟨la,[.ref ta],[(Ek.pay,Z,Y)],⟨sD.trans yb,eb,.cons ⟨ta,rfl,eab⟩ .nil⟩,by show 1<=1;decide,fun kf=>?_,rfl⟩
   exact fin ⟨Z0.1,by show Z<=b+59+8*(n+1);ac_rfl,by show 1<=Y;ac_rfl⟩ fun g=>zie Z0.2 c2 (by ac_rfl)
  ·rename_i hc
   exact ⟨la,[.ref ta],[(k,d,x-S)],⟨sD,eb,.cons ⟨ta,rfl,eab⟩ .nil⟩,ycz _,fun kf=>f0 (kf.elim id fun z=>absurd (by rw[z];rfl) hc),rfl⟩
 clear sD eb eab f0 nla nta
 rintro σ' M1 ⟨pm,ms,em,⟨m1,eM,rM⟩,lM,fM,rfl⟩
 refine ⟨fun σ' H'=>∃ (pm:Addr) (ms:List V) (em:List Er),(Same H H'/\H' pm=some (.lst ms)/\RL3 H' ms em)/\em.length<=1/\(k=.fee\/k=.pay\/k=.turn->Sgs (n+1) b em/\∀ g,zae g (es.take i++em++es.drop (i+1)) (es.take i++(k,d,x)::es.drop (i+1)))/\σ'=[some (.ref q),some (.int c),some (.int b),some (.int (c % 8)),some (.int d),some (.int S),some (.ref tw),some (.ref pp),some (.int i),some (.str k.word),some (.int x),some (.ref pm)],?_,?_⟩
 ·nofun
  ·rename_i hc
   obtain rfl:=ze8 k .turn hc
   intro la nla
   refine ⟨la,[],[],⟨m1.trans (zc nla _),zg,.nil⟩,ydc _,fun _=>⟨fun e he=>(by cases he),fun g=>?_⟩,rfl⟩
   rw[ybi]
   exact zly
  ·rename_i hc
   exact ⟨pm,ms,em,⟨m1,eM,rM⟩,lM,fun kf=>fM (by rcases kf with z | z | z;exact .inl z;exact .inr z;exact absurd (by rw[z];rfl) hc),rfl⟩
 clear m1 eM rM lM fM
 rintro σ' M2 ⟨pm,ms,em,⟨m2,eM,rM⟩,lM,fM,rfl⟩
 refine ⟨fun σ' H'=>∃ (pm:Addr) (ms:List V) (em:List Er),(Same H H'/\H' pm=some (.lst ms)/\RL3 H' ms em)/\em.length<=1/\(k=.fee\/k=.pay\/k=.turn\/k=.rate\/k=.late->Sgs (n+1) b em/\∀ g,zae g (es.take i++em++es.drop (i+1)) (es.take i++(k,d,x)::es.drop (i+1)))/\σ'=[some (.ref q),some (.int c),some (.int b),some (.int (c % 8)),some (.int d),some (.int S),some (.ref tw),some (.ref pp),some (.int i),some (.str k.word),some (.int x),some (.ref pm)],?_,?_⟩
 ·nofun
  intro tt ntt
  have yt:=m2.trans (zc ntt (.tup [.str "rate", .str "late"]))
  have eM':=zc ntt (.tup [.str "rate", .str "late"]) _ _ eM
  have rM':=rM.same (zc ntt (.tup [.str "rate", .str "late"]))
  nofun
  refine ⟨tt,_,rfl,.inr (SqT.of zg),rfl,rfl,_,rfl,?_⟩
  generalize upd M2 tt (.tup [.str "rate", .str "late"])=M3 at yt eM' rM' ⊢
  rcases zs5 k with ⟨ei,kr⟩ | ⟨ei,kr⟩ <;> rw[ei]
  ·clear ei
   have o1:0<=x/\x<=1000000:=by
    have:=oe.th
    rcases kr with rfl | rfl <;> exact this
   obtain ⟨Y,hY⟩:∃ Y:Int,Y=if x-S > 0 then x-S else 0:=⟨_,rfl⟩
   have Y0:0<=Y/\Y<=x:=by rw[hY];split <;> ac_rfl
   nofun
   rw[<-hY]
   clear hY
   intro ta nta
   have ya:=zc nta (.tup [.str k.word,.int d,.int Y])
   have ea:=zk (.tup [.str k.word,.int d,.int Y]) nta
   nofun
   intro la nla
   have yb:=ya.trans (zc nla (.lst [.ref ta]))
   have eb:=zk (.lst [.ref ta]) nla
   have eab:=zc nla (.lst [.ref ta]) _ _ ea
   exact ⟨la,[.ref ta],[(k,d,Y)],⟨yt.trans yb,eb,.cons ⟨ta,rfl,eab⟩ .nil⟩,ycz _,fun _=>fin ⟨ol,by show d<=b+59+8*(n+1);ac_rfl,by show Th 0 b k d Y;rcases kr with rfl | rfl <;> exact ⟨Y0.1,by ac_rfl⟩⟩ fun g=>zq8 kr Y0.2,rfl⟩
  ·clear ei
   nofun
   exact ⟨pm,ms,em,⟨yt,eM',rM'⟩,lM,fun kf=>fM (by rcases kf with z | z | z | z;exact .inl z;exact .inr (.inl z);exact .inr (.inr z);exact absurd z kr),rfl⟩
 clear m2 eM rM lM fM
 rintro σ' M2 ⟨pm,ms,em,⟨m2,eM,rM⟩,lM,fM,rfl⟩
 refine ⟨fun σ' H'=>∃ (pm:Addr) (ms:List V) (em:List Er),(Same H H'/\H' pm=some (.lst ms)/\RL3 H' ms em)/\em.length<=1/\(k=.fee\/k=.pay\/k=.turn\/k=.rate\/k=.late\/k=.due->Sgs (n+1) b em/\∀ g,zae g (es.take i++em++es.drop (i+1)) (es.take i++(k,d,x)::es.drop (i+1)))/\σ'=[some (.ref q),some (.int c),some (.int b),some (.int (c % 8)),some (.int d),some (.int S),some (.ref tw),some (.ref pp),some (.int i),some (.str k.word),some (.int x),some (.ref pm)],?_,?_⟩
 ·nofun
  ·rename_i hc _
   obtain rfl:=ze8 k .due hc
   have o1:1<=x:=oe.th
   obtain ⟨Y,hY⟩:∃ Y:Int,Y=if x-c / 72 % 2*S > 1 then x-c / 72 % 2*S else 1:=⟨_,rfl⟩
   have c2:0<=c / 72 % 2*S:=by
    rcases (show c / 72 % 2=0\/c / 72 % 2=1 by ac_rfl) with e | e <;> rw[e] <;> ac_rfl
   have Y0:1<=Y/\Y<=x:=by rw[hY];split <;> ac_rfl
   obtain ⟨Z,hZ⟩:∃ Z:Int,Z=d+c / 8 % 9:=⟨_,rfl⟩
   have Z0:d<=Z/\Z<=d+8:=by ac_rfl
   dsimp only [Ek.word]
   nofun
   rw[<-hY,<-hZ]
   clear hY hZ
   intro ta nta
   have ya:=zc nta (.tup [.str "due", .int Z,.int Y])
   have ea:=zk (.tup [.str "due", .int Z,.int Y]) nta
   nofun
   intro la nla
   have yb:=ya.trans (zc nla (.lst [.ref ta]))
   have eb:=zk (.lst [.ref ta]) nla
   have eab:=zc nla (.lst [.ref ta]) _ _ ea
   have yc:=m2.trans yb
   nofun
   ·intro lb nlb
    refine ⟨lb,[],[],⟨yc.trans (zc nlb _),zg,.nil⟩,ydc _,fun _=>⟨fun e he=>(by cases he),fun g=>?_⟩,rfl⟩
    rw[ybi]
    exact zme (by ac_rfl)
   ·exact ⟨la,[.ref ta],[(Ek.due,Z,Y)],⟨yc,eb,.cons ⟨ta,rfl,eab⟩ .nil⟩,ycz _,fun _=>fin ⟨by show b<=Z;ac_rfl,by show Z<=b+59+8*(n+1);ac_rfl,Y0.1⟩ fun g=>zrr Z0.1 Y0.2 (by ac_rfl),rfl⟩
  ·rename_i hc
   exact ⟨pm,ms,em,⟨m2,eM,rM⟩,lM,fun kf=>fM (by rcases kf with z | z | z | z | z | z;exact .inl z;exact .inr (.inl z);exact .inr (.inr (.inl z));exact .inr (.inr (.inr (.inl z)));exact .inr (.inr (.inr (.inr z)));exact absurd (by rw[z];rfl) hc),rfl⟩
 clear m2 eM rM lM fM
 rintro σ' M2 ⟨pm,ms,em,⟨m2,eM,rM⟩,lM,fM,rfl⟩
 obtain ⟨se,ke⟩:=fM (by rcases kk with z | z | z | (z | z) | z;exact .inr (.inl z);exact .inl z;exact .inr (.inr (.inl z));exact .inr (.inr (.inr (.inl z)));exact .inr (.inr (.inr (.inr (.inl z))));exact .inr (.inr (.inr (.inr (.inr z)))))
 have ee:es.take i++(k,d,x)::es.drop (i+1)=es:=by
  have:=(yac.mp he).2
  rw[<-this,<-ycn il,yck]
 have ml:=rM.length
 clear fM fin
 nofun
 refine ⟨q,rs,rfl,SqL.of (m2 _ _ hq),fun q1 nq1=>?_⟩
 rw[zh9 rs i]
 have s3:=zc nq1 (.lst (rs.take i))
 have e3:=zk (.lst (rs.take i)) nq1
 have eM3:=s3 _ _ eM
 have rM3:=rM.same s3
 generalize upd M2 q1 (.lst (rs.take i))=H3 at s3 e3 eM3 rM3 ⊢
 nofun
 refine ⟨q1,pm,_,_,rfl,rfl,e3,eM3,by rw[yau];ac_rfl,fun q3 nq3=>?_⟩
 have s6:=zc nq3 (.lst (rs.take i++ms))
 have e6:=zk (.lst (rs.take i++ms)) nq3
 have rM6:=rM3.same s6
 generalize upd H3 q3 (.lst (rs.take i++ms))=H6 at s6 e6 rM6 ⊢
 have sC:=m2.trans (s3.trans s6)
 nofun
 refine ⟨q,rs,rfl,SqL.of (sC _ _ hq),fun q4 nq4=>?_⟩
 rw[show ((i:Int)+1)=((i+1:Nat):Int) by ac_rfl,zh4 rs (i+1)]
 have s7:=zc nq4 (.lst (rs.drop (i+1)))
 have e7:=zk (.lst (rs.drop (i+1))) nq4
 have rM7:=rM6.same s7
 generalize upd H6 q4 (.lst (rs.drop (i+1)))=H7 at s7 e7 rM7 ⊢
 refine ⟨q3,q4,_,_,rfl,rfl,s7 _ _ e6,e7,by rw[yad,yau,ybg];ac_rfl,fun q5 nq5=>?_⟩
 have s8:=zc nq5 (.lst (rs.take i++ms++rs.drop (i+1)))
 have sD:=sC.trans (s7.trans s8)
 have hRD:=hR.same sD
 refine h q5 _ (es.take i++em++es.drop (i+1)) _ (.inl (zw (sC.trans s7) nq5)) sD zg (LL.append (LL.append (LL.take hRD i) (rM7.same s8)) (LL.zln hRD (i+1))) (((okm.take i).app se).app (okm.drop (i+1))) (fun g=>?_) ?_
 ·have:=ke g
  rwa [ee] at this
 rw[yad,yad,yau,ybg]
 ac_rfl
def OkH (b:Int) (es:List Er):Prop:=∀ e∈es,e.1≠.base/\b<=e.2.1/\((e.1=.rate\/e.1=.late)->0<=e.2.2/\e.2.2<=1000000)
theorem zaE {n b:Int} {es:List Er} (ok:Sgs n b es):OkH b es:=fun e he=>⟨(ok e he).nb,(ok e he).lo,fun z=>by
 have:=(ok e he).th
 rcases z with z | z <;> rw[z] at this <;> exact this⟩
theorem OkH.app {b:Int} {es fs:List Er} (h:OkH b es) (k:OkH b fs):OkH b (es++fs):=fun e he=>(yam.mp he).elim (h e) (k e)
theorem zaz {b:Int} {k:Ek} {z x:Int} (nb:k≠.base) (lo:b<=z) (r:(k=.rate\/k=.late)->0<=x/\x<=1000000):OkH b [(k,z,x)]:=fun e he=>by
 rw[yan.mp he]
 exact ⟨nb,lo,r⟩
theorem OkH.take {b:Int} {es:List Er} (h:OkH b es) (m:Nat):OkH b (es.take m):=fun e he=>h e (List.mem_of_mem_take he)
theorem OkH.drop {b:Int} {es:List Er} (h:OkH b es) (m:Nat):OkH b (es.drop m):=fun e he=>h e (List.mem_of_mem_drop he)
def zgf (K:W.Frag):Sp:=fun vs H Q _=>L2.Ee5 fun q rs (es:List Er) c b=>L2.Aa8 (vs=[.ref q,.int c,.int b]) (H q=some (.lst rs)) (RL3 H rs es) (Sgs 3 b es) (es.length<=30) (0<=c) ((0<=b/\b<=999699)) (∀ q' rs' (es':List Er) H',H q'=none->Same H H'->H' q'=some (.lst rs')->RL3 H' rs' es'->OkH b es'->Hard es es'->(c % 8≠7->∀ g,zae g es es')->(c % 8=7->Apart es es')->es'.length<=es.length+1->Q (.ref q') H')
theorem zO:zo ["_law_specs_here", "_law_cell_here", "_law_base", "_law_way", "_law_day", "_law_places_here", "_law_at", "_law_word", "_law_thing", "_law_most", "_law_there", "_law_free"] qak (zj zct):=by walk_at "sp"
theorem zk4 (S:Src K mg "_law_harder" zct qak) (T:Txt K mg) (zaX:Def P w K mg base 1 "_law_places" qao (zdd K)):Def P w K mg base 2 "_law_harder" qak (zgf K):=by
 exists S.ok,zO,0
 all_goals obtain ⟨q,rs,es,c,b,rfl,hq,hR,ok,l1,c0,⟨b0,b1⟩,h⟩:=h
 ·rfl
 refine ⟨_,(zf (zq (i:=3) zO.nd rfl (by walk_at "lc") (zh zC (pv 1) zd))
  (zf (zq (i:=4) zO.nd rfl (by walk_at "lc") (zh zy (pv 2) (zh zC (zh zM (pv 1) zd) zd)))
  (zf (zcl (zH (zr zQ (zh zC (zh zM (pv 1) zd) zd) zd (nomark _))
  (zi (zq (i:=4) zO.nd rfl (by walk_at "lc") (zh zy (zh zy (pv 2) zd) (zh zC (zh zM (pv 1) zd) (zh zat zd (pv 2))))))
   zx))
  (zf (zH (PW.pt (zgv (zr zQ (pv 3) zd (nomark _)) (zeI (zr zQ (pv 3) zd (nomark _)))))
  (zf (zq (i:=5) zO.nd rfl (by walk_at "lc") (zp zaX hr (za (pv 0) (za (zE (za zt ze)) ze))))
  (zf (zH (zr (zpL hr.units) (pv 5) (zN ze) (nomark _))
  (zi (zl (zh zaw (pv 0) (zN (za (zE (za zt (za (pv 4) (za zd ze)))) ze)))))
   zx)
  (zf (zq (i:=6) zO.nd rfl (by walk_at "lc") (zD zX (pv 5) (zh zC (zh zM (pv 1) zd) (zG zag rfl T.zbB PySem.boot_len (za (pv 5) ze))) (fun _ _=>rfl)))
  (zf (zjv (zD zX (pv 0) (pv 6) (fun _ _=>rfl)) (zmP rfl (zbC (zar (i:=7) zO.nd rfl (by walk_at "lc")) (zbC (zar (i:=4) zO.nd rfl (by walk_at "lc")) (zbC (zar (i:=8) zO.nd rfl (by walk_at "lc")) zjW)))))
  (zf (zH (PW.pt (zcj (zr zQ (pv 3) zd (nomark _)) (zdq (zr zfp (pv 8) zd (nomark _)))))
  (zi (zl (zh zaw (zh zaw (zdp zer (pv 0) zex (zeB (pv 6))) (zN (za (zE (za (pv 7) (za (pv 4) (za (zh zat (pv 8) zd) ze)))) ze))) (zdp zer (pv 0) (zeB (zh zy (pv 6) zd)) zex))))
   zx)
  (zi (zl (zh zaw (zh zaw (zdp zer (pv 0) zex (zeB (pv 6))) (zN (za (zE (za (pv 7) (za (zh zy (pv 4) zd) (za (pv 8) ze)))) ze))) (zdp zer (pv 0) (zeB (zh zy (pv 6) zd)) zex)))))))))
   zx)
  (zf (zH (zr zQ (pv 3) zd (nomark _))
  (zi (zl (zh zaw (pv 0) (zN (za (zE (za zt (za (pv 4) (za zd ze)))) ze)))))
   zx)
  (zf (zcl (zH (PW.pt (zgv (zr zQ (pv 3) zd (nomark _)) (zeI (zr zQ (pv 3) zd (nomark _)))))
  (zf (zq (i:=7) zO.nd rfl (by walk_at "lc") (zD zX (zN (za zt (za zt ze))) (zh zat (pv 3) zd) (fun _ _=>rfl)))
  (zf (zq (i:=9) zO.nd rfl (by walk_at "lc") (zr8 rfl rfl T.zen (za (zbq (ix:=[7]) ⟨rfl,by decide +kernel,rfl,by decide +kernel,rfl,(show (["_law_spec_here", "_law_word"]:List Str).Nodup by decide +kernel),by walk_at "cap", by walk_at "sub", by walk_at "has"⟩ (zaj (pv 0)) (fun b=>(zr zQ (zD (zaH K) (pv 0) zd (fun _ _=>rfl)) (pv 1) (nomark _))) (fun b=>(zD (zaH K) (pv 0) zd (fun _ _=>rfl)))) ze) zd))
  (zf (zH (zr zfj (pv 9) (zaQ (v:=1000000) (by decide +kernel) ⟨by decide,by decide,by decide⟩) (nomark _))
  (zi (zl (zh zaw (pv 0) (zN (za (zE (za (pv 7) (za (zh zy (zh zy (pv 2) zd) (zh zC (zh zM (pv 1) zd) (zh zat zd (pv 2)))) (za (zh zy (pv 9) zd) ze)))) ze)))))
   zx)
  (zi (zq (i:=3) zO.nd rfl (by walk_at "lc") zd)))))
   zx))
  (zf (zH (zr zQ (pv 3) zd (nomark _))
  (zi (zl (zh zaw (pv 0) (zN (za (zE (za zt (za (pv 4) (za zd ze)))) ze)))))
   zx)
  (zf (zH (zr zQ (pv 3) zd (nomark _))
  (zf (zq (i:=10) zO.nd rfl (by walk_at "lc") (zbq (ix:=[]) ⟨rfl,by decide +kernel,rfl,by decide +kernel,rfl,(show (["_law_spec_here"]:List Str).Nodup by decide +kernel),by walk_at "cap", by walk_at "sub", by walk_at "has"⟩ (zaj (pv 0)) (fun b=>(zr zQ (zD (zaH K) (pv 0) zd (fun _ _=>rfl)) zt (nomark _))) (fun b=>(zD (zaH K) (pv 0) zd (fun _ _=>rfl)))))
  (zf (zhT (i:=11) zO.nd rfl rfl (ix:=[10]) ⟨rfl,by decide +kernel,rfl,by decide +kernel,rfl,(show (["_law_one", "_law_there"]:List Str).Nodup by decide +kernel),by walk_at "cap", by walk_at "sub", by walk_at "has"⟩ (zhG rfl T.zdn (za (pv 2) (za (zh zy (pv 2) zd) ze))) (fun b=>(zr (zlk K) (pv 0) (pv 1) (by with_unfolding_all rfl))) (fun b=>(pv 0)))
  (zf (zcl (zH (zr zfj (pv 4) (zh zy (pv 2) zd) (nomark _))
  (zi (zq (i:=4) zO.nd rfl (by walk_at "lc") (zD zX (pv 11) (zh zC (zh zM (pv 1) zd) (zG zag rfl T.zbB PySem.boot_len (za (pv 11) ze))) (fun _ _=>rfl))))
   zx))
  (zi (zl (zh zaw (pv 0) (zN (za (zE (za zt (za (pv 4) (za zd ze)))) ze))))))))
   zx)
  (zi (zl (zh zaw (pv 0) (zN (za (zE (za zt (za (pv 4) (za zd ze)))) ze))))))))))))),?_⟩
 have sz:=sizeLine_eq
 have xl:=hR.length
 have m0:=ydy (c / 16) (show 999700-b≠0 by ac_rfl)
 have m1:=ydz (c / 16) (show 0<999700-b by ac_rfl)
 nofun
 refine ⟨fun σ' H'=>H=H'/\∃ D:Int,(b<=D/\D<=999799)/\(D<b+60\/b+100<=D)/\σ'=[some (.ref q),some (.int c),some (.int b),some (.int (c % 8)),some (.int D),none,none,none,none,none,none,none],?_,?_⟩
 ·nofun
  ·exact ⟨_,⟨by ac_rfl,by ac_rfl⟩,by ac_rfl,rfl⟩
  ·exact ⟨_,⟨by ac_rfl,by ac_rfl⟩,by ac_rfl,rfl⟩
 rintro σ' H' ⟨rfl,D,⟨D0,D1⟩,D2,rfl⟩
 have E0:b+100<=b+100+c / 16 % (999700-b)/\b+100+c / 16 % (999700-b)<=999799:=by ac_rfl
 obtain ⟨y,hy⟩:∃ y:Int,y=c % 8:=⟨_,rfl⟩
 have y0:0<=y/\y<=7:=by ac_rfl
 rw[<-hy] at h ⊢
 clear m0 m1 hy
 nofun
 ·have y1:y=0:=by assumption
  subst y1
  intro tw ntw
  have s1:=zc ntw (.tup [.str "pay"])
  have ew:=zk (.tup [.str "pay"]) ntw
  generalize upd H tw (.tup [.str "pay"])=H1 at s1 ew ⊢
  nofun
  refine ⟨q,tw,rs,es,[.pay],rfl,s1 _ _ hq,hR.same s1,by ac_rfl,ew,fun pp ps H2 npp s2 ep pok=>?_⟩
  have sB:=s1.trans s2
  nofun
  intro p3 np3
  have s3:=zc np3 (.lst [])
  have e3:=zk (.lst []) np3
  have ep3:=s3 _ _ ep
  generalize upd H2 p3 (.lst [])=H3 at s3 e3 ep3 ⊢
  have sC:=sB.trans s3
  refine ⟨_,_,.lst (SqL.of ep3) (zbM.ints _),.lst (SqL.of e3) .nil,shaped_ints _,shaped_ints [],?_⟩
  rw[show PyData.eqv (.list ((ps.map fun i:Nat=>(i:Int)).map PyData.int)) (.list [])=decide ((ps.map fun i:Nat=>(i:Int))=[]) from ziG _ []]
  by_cases pe:(ps.map fun i:Nat=>(i:Int))=[]
  ·rw[decide_eq_true pe]
   nofun
   intro t1 nt1
   have s2':=zc nt1 (.tup [.str "fee", .int D,.int 1])
   have et:=zk (.tup [.str "fee", .int D,.int 1]) nt1
   nofun
   intro q1 nq1
   have s3':=s2'.trans (zc nq1 (.lst [.ref t1]))
   have e3':=zk (.lst [.ref t1]) nq1
   have et3:=zc nq1 (.lst [.ref t1]) _ _ et
   generalize upd (upd H3 t1 (.tup [.str "fee", .int D,.int 1])) q1 (.lst [.ref t1])=H9 at s3' e3' et3 ⊢
   refine ⟨q,q1,_,_,rfl,rfl,s3' _ _ (sC _ _ hq),e3',by show _+1<=_;ac_rfl,fun q2 nq2=>?_⟩
   have s4':=zc nq2 (.lst (rs++[.ref t1]))
   have sA':=(sC.trans (s3'.trans s4'))
   exact h q2 _ (es++[(Ek.fee,D,1)]) _ (zw (sC.trans s3') nq2) sA' zg (LL.append (hR.same sA') (.cons ⟨t1,rfl,s4' _ _ et3⟩ .nil)) ((zaE ok).app (zaz (by intro z;cases z) (by ac_rfl) (fun z=>by rcases z with z | z <;> cases z))) (zhf (by ac_rfl) (by ac_rfl) (by decide)) (fun _ g=>ziV (by decide)) (fun z=>absurd z (by ac_rfl)) (by rw[yad];exact ycz _)
  rw[decide_eq_false pe]
  have pl':0<(ps.map fun i:Nat=>(i:Int)).length:=ycx.mpr pe
  clear e3
  nofun
  refine ⟨pp,_,rfl,.inl (SqL.of ep3),?_⟩
  rw[yab]
  have z0:=ydy (c / 8) (show ((ps.map fun i:Nat=>(i:Int)).length:Int)≠0 by ac_rfl)
  have z1:=ydz (c / 8) (show (0:Int)<((ps.map fun i:Nat=>(i:Int)).length:Int) by ac_rfl)
  nofun
  obtain ⟨v,hv0,hm⟩:=zaR (xs:=(ps.map fun i:Nat=>(i:Int)).map V.int) (k:=c / 8 % ((ps.map fun i:Nat=>(i:Int)).length:Int)) z0 (by rw[yab (f:=V.int)];exact z1)
  obtain ⟨j,hj,rfl⟩:=yag.mp hm
  obtain ⟨i,im,rfl⟩:=yag.mp hj
  obtain ⟨⟨k,d,x⟩,t,he,hv,ht,kk⟩:=pok i im
  obtain rfl:k=.pay:=yan.mp kk
  have il:=(yac.mp he).1
  have oe:=ok _ (yai he)
  have ol:b<=d:=oe.lo
  have oh:d<=b+59+8*3:=oe.hi
  have ox:1<=x:=oe.th
  have ee:es.take i++(Ek.pay,d,x)::es.drop (i+1)=es:=by
   have:=(yac.mp he).2
   rw[<-this,<-ycn il,yck]
  refine ⟨pp,_,_,_,rfl,rfl,SqL.of ep3,hv0,?_⟩
  clear hv0 hm hj pok pe pl' z0 z1 ep ep3 im kk
  nofun
  refine ⟨q,_,_,_,rfl,rfl,SqL.of (sC _ _ hq),zbJ hv,?_⟩
  have ht':H3 t=some (.tup [.str "pay", .int d,.int x]):=(s2.trans s3) _ _ ht
  refine ⟨t,_,rfl,SqT.of ht',rfl,?_⟩
  nofun
  ·refine ⟨q,rs,rfl,SqL.of (sC _ _ hq),fun q1 nq1=>?_⟩
   rw[zh9 rs i]
   have s4:=zc nq1 (.lst (rs.take i))
   have e4:=zk (.lst (rs.take i)) nq1
   generalize upd H3 q1 (.lst (rs.take i))=H4 at s4 e4 ⊢
   nofun
   intro ta nta
   have s5:=zc nta (.tup [.str "pay", .int d,.int (x-1)])
   have ea:=zk (.tup [.str "pay", .int d,.int (x-1)]) nta
   nofun
   intro q2 nq2
   have s6:=s5.trans (zc nq2 (.lst [.ref ta]))
   have e6:=zk (.lst [.ref ta]) nq2
   have ea6:=zc nq2 (.lst [.ref ta]) _ _ ea
   generalize upd (upd H4 ta (.tup [.str "pay", .int d,.int (x-1)])) q2 (.lst [.ref ta])=H6 at s6 e6 ea6 ⊢
   refine ⟨q1,q2,_,_,rfl,rfl,s6 _ _ e4,e6,by rw[yau];show _+1<=_;ac_rfl,fun q3 nq3=>?_⟩
   have s7:=zc nq3 (.lst (rs.take i++[.ref ta]))
   have e7:=zk (.lst (rs.take i++[.ref ta])) nq3
   have ea7:=s7 _ _ ea6
   generalize upd H6 q3 (.lst (rs.take i++[.ref ta]))=H7 at s7 e7 ea7 ⊢
   have sD:=sC.trans (s4.trans (s6.trans s7))
   nofun
   refine ⟨q,rs,rfl,SqL.of (sD _ _ hq),fun q4 nq4=>?_⟩
   rw[show ((i:Int)+1)=((i+1:Nat):Int) by ac_rfl,zh4 rs (i+1)]
   have s8:=zc nq4 (.lst (rs.drop (i+1)))
   have e8:=zk (.lst (rs.drop (i+1))) nq4
   have ea8:=s8 _ _ ea7
   generalize upd H7 q4 (.lst (rs.drop (i+1)))=H8 at s8 e8 ea8 ⊢
   refine ⟨q3,q4,_,_,rfl,rfl,s8 _ _ e7,e8,by rw[yad,yau,ybg];show _+1+_<=_;ac_rfl,fun q5 nq5=>?_⟩
   have s9:=zc nq5 (.lst (rs.take i++[.ref ta]++rs.drop (i+1)))
   have sE:=sD.trans (s8.trans s9)
   have hRE:=hR.same sE
   have ga:es.take i++[(Ek.pay,d,(x-1))]++es.drop (i+1)=es.take i++(Ek.pay,d,(x-1))::es.drop (i+1):=by rw[ybm];rfl
   have hd:=zhk (A:=es.take i) (B:=es.drop (i+1)) (z:=d) (z':=d) (x:=x) (x':=(x-1)) (by ac_rfl) (by ac_rfl) (by ac_rfl) (by ac_rfl) (by ac_rfl) (by ac_rfl)
   have kd:=fun g=>zie (g:=g) (A:=es.take i) (B:=es.drop (i+1)) (z':=d) (z:=d) (x':=x) (x:=(x-1)) (by ac_rfl) (by ac_rfl) (by ac_rfl)
   rw[ee,<-ga] at hd
   refine h q5 _ (es.take i++[(Ek.pay,d,(x-1))]++es.drop (i+1)) _ (zw (sD.trans s8) nq5) sE zg (LL.append (LL.append (LL.take hRE i) (.cons ⟨ta,rfl,s9 _ _ ea8⟩ .nil)) (LL.zln hRE (i+1))) ((((zaE ok).take i).app (zaz (by intro z;cases z) (by ac_rfl) (fun z=>by rcases z with z | z <;> cases z))).app ((zaE ok).drop (i+1))) hd (fun _ g=>?_) (fun z=>absurd z (by ac_rfl)) ?_
   ·have:=kd g
    rwa [ee,<-ga] at this
   rw[yad,yad,yau,ybg]
   show _+1+_<=_
   ac_rfl
  ·refine ⟨q,rs,rfl,SqL.of (sC _ _ hq),fun q1 nq1=>?_⟩
   rw[zh9 rs i]
   have s4:=zc nq1 (.lst (rs.take i))
   have e4:=zk (.lst (rs.take i)) nq1
   generalize upd H3 q1 (.lst (rs.take i))=H4 at s4 e4 ⊢
   nofun
   intro ta nta
   have s5:=zc nta (.tup [.str "pay", .int (d+1),.int x])
   have ea:=zk (.tup [.str "pay", .int (d+1),.int x]) nta
   nofun
   intro q2 nq2
   have s6:=s5.trans (zc nq2 (.lst [.ref ta]))
   have e6:=zk (.lst [.ref ta]) nq2
   have ea6:=zc nq2 (.lst [.ref ta]) _ _ ea
   generalize upd (upd H4 ta (.tup [.str "pay", .int (d+1),.int x])) q2 (.lst [.ref ta])=H6 at s6 e6 ea6 ⊢
   refine ⟨q1,q2,_,_,rfl,rfl,s6 _ _ e4,e6,by rw[yau];show _+1<=_;ac_rfl,fun q3 nq3=>?_⟩
   have s7:=zc nq3 (.lst (rs.take i++[.ref ta]))
   have e7:=zk (.lst (rs.take i++[.ref ta])) nq3
   have ea7:=s7 _ _ ea6
   generalize upd H6 q3 (.lst (rs.take i++[.ref ta]))=H7 at s7 e7 ea7 ⊢
   have sD:=sC.trans (s4.trans (s6.trans s7))
   nofun
   refine ⟨q,rs,rfl,SqL.of (sD _ _ hq),fun q4 nq4=>?_⟩
   rw[show ((i:Int)+1)=((i+1:Nat):Int) by ac_rfl,zh4 rs (i+1)]
   have s8:=zc nq4 (.lst (rs.drop (i+1)))
   have e8:=zk (.lst (rs.drop (i+1))) nq4
   have ea8:=s8 _ _ ea7
   generalize upd H7 q4 (.lst (rs.drop (i+1)))=H8 at s8 e8 ea8 ⊢
   refine ⟨q3,q4,_,_,rfl,rfl,s8 _ _ e7,e8,by rw[yad,yau,ybg];show _+1+_<=_;ac_rfl,fun q5 nq5=>?_⟩
   have s9:=zc nq5 (.lst (rs.take i++[.ref ta]++rs.drop (i+1)))
   have sE:=sD.trans (s8.trans s9)
   have hRE:=hR.same sE
   have ga:es.take i++[(Ek.pay,(d+1),x)]++es.drop (i+1)=es.take i++(Ek.pay,(d+1),x)::es.drop (i+1):=by rw[ybm];rfl
   have hd:=zhk (A:=es.take i) (B:=es.drop (i+1)) (z:=d) (z':=(d+1)) (x:=x) (x':=x) (by ac_rfl) (by ac_rfl) (by ac_rfl) (by ac_rfl) (by ac_rfl) (by ac_rfl)
   have kd:=fun g=>zie (g:=g) (A:=es.take i) (B:=es.drop (i+1)) (z':=d) (z:=(d+1)) (x':=x) (x:=x) (by ac_rfl) (by ac_rfl) (by ac_rfl)
   rw[ee,<-ga] at hd
   refine h q5 _ (es.take i++[(Ek.pay,(d+1),x)]++es.drop (i+1)) _ (zw (sD.trans s8) nq5) sE zg (LL.append (LL.append (LL.take hRE i) (.cons ⟨ta,rfl,s9 _ _ ea8⟩ .nil)) (LL.zln hRE (i+1))) ((((zaE ok).take i).app (zaz (by intro z;cases z) (by ac_rfl) (fun z=>by rcases z with z | z <;> cases z))).app ((zaE ok).drop (i+1))) hd (fun _ g=>?_) (fun z=>absurd z (by ac_rfl)) ?_
   ·have:=kd g
    rwa [ee,<-ga] at this
   rw[yad,yad,yau,ybg]
   show _+1+_<=_
   ac_rfl
 ·have y1:y=1:=by assumption
  subst y1
  intro tw ntw
  have s1:=zc ntw (.tup [.str "pay"])
  have ew:=zk (.tup [.str "pay"]) ntw
  generalize upd H tw (.tup [.str "pay"])=H1 at s1 ew ⊢
  nofun
  refine ⟨q,tw,rs,es,[.pay],rfl,s1 _ _ hq,hR.same s1,by ac_rfl,ew,fun pp ps H2 npp s2 ep pok=>?_⟩
  have sB:=s1.trans s2
  nofun
  intro p3 np3
  have s3:=zc np3 (.lst [])
  have e3:=zk (.lst []) np3
  have ep3:=s3 _ _ ep
  generalize upd H2 p3 (.lst [])=H3 at s3 e3 ep3 ⊢
  have sC:=sB.trans s3
  refine ⟨_,_,.lst (SqL.of ep3) (zbM.ints _),.lst (SqL.of e3) .nil,shaped_ints _,shaped_ints [],?_⟩
  rw[show PyData.eqv (.list ((ps.map fun i:Nat=>(i:Int)).map PyData.int)) (.list [])=decide ((ps.map fun i:Nat=>(i:Int))=[]) from ziG _ []]
  by_cases pe:(ps.map fun i:Nat=>(i:Int))=[]
  ·rw[decide_eq_true pe]
   nofun
   intro t1 nt1
   have s2':=zc nt1 (.tup [.str "fee", .int D,.int 1])
   have et:=zk (.tup [.str "fee", .int D,.int 1]) nt1
   nofun
   intro q1 nq1
   have s3':=s2'.trans (zc nq1 (.lst [.ref t1]))
   have e3':=zk (.lst [.ref t1]) nq1
   have et3:=zc nq1 (.lst [.ref t1]) _ _ et
   generalize upd (upd H3 t1 (.tup [.str "fee", .int D,.int 1])) q1 (.lst [.ref t1])=H9 at s3' e3' et3 ⊢
   refine ⟨q,q1,_,_,rfl,rfl,s3' _ _ (sC _ _ hq),e3',by show _+1<=_;ac_rfl,fun q2 nq2=>?_⟩
   have s4':=zc nq2 (.lst (rs++[.ref t1]))
   have sA':=(sC.trans (s3'.trans s4'))
   exact h q2 _ (es++[(Ek.fee,D,1)]) _ (zw (sC.trans s3') nq2) sA' zg (LL.append (hR.same sA') (.cons ⟨t1,rfl,s4' _ _ et3⟩ .nil)) ((zaE ok).app (zaz (by intro z;cases z) (by ac_rfl) (fun z=>by rcases z with z | z <;> cases z))) (zhf (by ac_rfl) (by ac_rfl) (by decide)) (fun _ g=>ziV (by decide)) (fun z=>absurd z (by ac_rfl)) (by rw[yad];exact ycz _)
  rw[decide_eq_false pe]
  have pl':0<(ps.map fun i:Nat=>(i:Int)).length:=ycx.mpr pe
  clear e3
  nofun
  refine ⟨pp,_,rfl,.inl (SqL.of ep3),?_⟩
  rw[yab]
  have z0:=ydy (c / 8) (show ((ps.map fun i:Nat=>(i:Int)).length:Int)≠0 by ac_rfl)
  have z1:=ydz (c / 8) (show (0:Int)<((ps.map fun i:Nat=>(i:Int)).length:Int) by ac_rfl)
  nofun
  obtain ⟨v,hv0,hm⟩:=zaR (xs:=(ps.map fun i:Nat=>(i:Int)).map V.int) (k:=c / 8 % ((ps.map fun i:Nat=>(i:Int)).length:Int)) z0 (by rw[yab (f:=V.int)];exact z1)
  obtain ⟨j,hj,rfl⟩:=yag.mp hm
  obtain ⟨i,im,rfl⟩:=yag.mp hj
  obtain ⟨⟨k,d,x⟩,t,he,hv,ht,kk⟩:=pok i im
  obtain rfl:k=.pay:=yan.mp kk
  have il:=(yac.mp he).1
  have oe:=ok _ (yai he)
  have ol:b<=d:=oe.lo
  have oh:d<=b+59+8*3:=oe.hi
  have ox:1<=x:=oe.th
  have ee:es.take i++(Ek.pay,d,x)::es.drop (i+1)=es:=by
   have:=(yac.mp he).2
   rw[<-this,<-ycn il,yck]
  refine ⟨pp,_,_,_,rfl,rfl,SqL.of ep3,hv0,?_⟩
  clear hv0 hm hj pok pe pl' z0 z1 ep ep3 im kk
  nofun
  refine ⟨q,_,_,_,rfl,rfl,SqL.of (sC _ _ hq),zbJ hv,?_⟩
  have ht':H3 t=some (.tup [.str "pay", .int d,.int x]):=(s2.trans s3) _ _ ht
  refine ⟨t,_,rfl,SqT.of ht',rfl,?_⟩
  nofun
  refine ⟨q,rs,rfl,SqL.of (sC _ _ hq),fun q1 nq1=>?_⟩
  rw[zh9 rs i]
  have s4:=zc nq1 (.lst (rs.take i))
  have e4:=zk (.lst (rs.take i)) nq1
  generalize upd H3 q1 (.lst (rs.take i))=H4 at s4 e4 ⊢
  nofun
  intro ta nta
  have s5:=zc nta (.tup [.str "pay", .int (d+1),.int x])
  have ea:=zk (.tup [.str "pay", .int (d+1),.int x]) nta
  nofun
  intro q2 nq2
  have s6:=s5.trans (zc nq2 (.lst [.ref ta]))
  have e6:=zk (.lst [.ref ta]) nq2
  have ea6:=zc nq2 (.lst [.ref ta]) _ _ ea
  generalize upd (upd H4 ta (.tup [.str "pay", .int (d+1),.int x])) q2 (.lst [.ref ta])=H6 at s6 e6 ea6 ⊢
  refine ⟨q1,q2,_,_,rfl,rfl,s6 _ _ e4,e6,by rw[yau];show _+1<=_;ac_rfl,fun q3 nq3=>?_⟩
  have s7:=zc nq3 (.lst (rs.take i++[.ref ta]))
  have e7:=zk (.lst (rs.take i++[.ref ta])) nq3
  have ea7:=s7 _ _ ea6
  generalize upd H6 q3 (.lst (rs.take i++[.ref ta]))=H7 at s7 e7 ea7 ⊢
  have sD:=sC.trans (s4.trans (s6.trans s7))
  nofun
  refine ⟨q,rs,rfl,SqL.of (sD _ _ hq),fun q4 nq4=>?_⟩
  rw[show ((i:Int)+1)=((i+1:Nat):Int) by ac_rfl,zh4 rs (i+1)]
  have s8:=zc nq4 (.lst (rs.drop (i+1)))
  have e8:=zk (.lst (rs.drop (i+1))) nq4
  have ea8:=s8 _ _ ea7
  generalize upd H7 q4 (.lst (rs.drop (i+1)))=H8 at s8 e8 ea8 ⊢
  refine ⟨q3,q4,_,_,rfl,rfl,s8 _ _ e7,e8,by rw[yad,yau,ybg];show _+1+_<=_;ac_rfl,fun q5 nq5=>?_⟩
  have s9:=zc nq5 (.lst (rs.take i++[.ref ta]++rs.drop (i+1)))
  have sE:=sD.trans (s8.trans s9)
  have hRE:=hR.same sE
  have ga:es.take i++[(Ek.pay,(d+1),x)]++es.drop (i+1)=es.take i++(Ek.pay,(d+1),x)::es.drop (i+1):=by rw[ybm];rfl
  have hd:=zhk (A:=es.take i) (B:=es.drop (i+1)) (z:=d) (z':=(d+1)) (x:=x) (x':=x) (by ac_rfl) (by ac_rfl) (by ac_rfl) (by ac_rfl) (by ac_rfl) (by ac_rfl)
  have kd:=fun g=>zie (g:=g) (A:=es.take i) (B:=es.drop (i+1)) (z':=d) (z:=(d+1)) (x':=x) (x:=x) (by ac_rfl) (by ac_rfl) (by ac_rfl)
  rw[ee,<-ga] at hd
  refine h q5 _ (es.take i++[(Ek.pay,(d+1),x)]++es.drop (i+1)) _ (zw (sD.trans s8) nq5) sE zg (LL.append (LL.append (LL.take hRE i) (.cons ⟨ta,rfl,s9 _ _ ea8⟩ .nil)) (LL.zln hRE (i+1))) ((((zaE ok).take i).app (zaz (by intro z;cases z) (by ac_rfl) (fun z=>by rcases z with z | z <;> cases z))).app ((zaE ok).drop (i+1))) hd (fun _ g=>?_) (fun z=>absurd z (by ac_rfl)) ?_
  ·have:=kd g
   rwa [ee,<-ga] at this
  rw[yad,yad,yau,ybg]
  show _+1+_<=_
  ac_rfl
 ·intro t1 nt1
  have s2':=zc nt1 (.tup [.str "due", .int D,.int 1])
  have et:=zk (.tup [.str "due", .int D,.int 1]) nt1
  nofun
  intro q1 nq1
  have s3':=s2'.trans (zc nq1 (.lst [.ref t1]))
  have e3':=zk (.lst [.ref t1]) nq1
  have et3:=zc nq1 (.lst [.ref t1]) _ _ et
  generalize upd (upd H t1 (.tup [.str "due", .int D,.int 1])) q1 (.lst [.ref t1])=H9 at s3' e3' et3 ⊢
  refine ⟨q,q1,_,_,rfl,rfl,s3' _ _ hq,e3',by show _+1<=_;ac_rfl,fun q2 nq2=>?_⟩
  have s4':=zc nq2 (.lst (rs++[.ref t1]))
  have sA':=(s3'.trans s4')
  exact h q2 _ (es++[(Ek.due,D,1)]) _ (zw s3' nq2) sA' zg (LL.append (hR.same sA') (.cons ⟨t1,rfl,s4' _ _ et3⟩ .nil)) ((zaE ok).app (zaz (by intro z;cases z) (by ac_rfl) (fun z=>by rcases z with z | z <;> cases z))) (zpO (by ac_rfl) D1 b1 ok.still (by decide)) (fun _ g=>zqs (by decide)) (fun z=>absurd z (by ac_rfl)) (by rw[yad];exact ycz _)
 refine ⟨fun σ' H'=>Same H H'/\∃ (y':Int) (z1 z2:Option V),((y'=2/\y≠7)\/(y'=y/\(y=2\/y=6\/y=7)))/\σ'=[some (.ref q),some (.int c),some (.int b),some (.int y'),some (.int D),none,none,z1,none,z2,none,none],?_,?_⟩
 ·nofun
  ·intro pw npw
   have s1:=zc npw (.lst [.str "rate", .str "late"])
   have ew:=zk (.lst [.str "rate", .str "late"]) npw
   generalize upd H pw (.lst [.str "rate", .str "late"])=H1 at s1 ew ⊢
   nofun
   have hc:y=4:=by assumption
   refine ⟨pw,_,_,_,rfl,rfl,SqL.of ew,(by rw[hc];rfl:atI [V.str "rate", .str "late"] (y-4)=some (.str "rate")),?_⟩
   nofun
   have hq1:=s1 _ _ hq
   have hR1:=hR.same s1
   refine ⟨⟨_,SqL.of hq1⟩,fun l nl=>?_⟩
   refine zbw (zak (SqL.of hq1)) nl (by ac_rfl) es xl.symm (isW "rate") (fun _ v e=>v=.int e.2.2) (fun _ _ _ _ _ h=>h) (fun _ _ _ _ _ _ h=>h) ?_ ?_ ?_
   ·rintro i v e H' Q' hx he sH hq'
    obtain ⟨e',he',t,rfl,ht⟩:=hR1.get hx
    obtain rfl:e'=e:=Option.some.inj (he'.symm.trans he)
    nofun
    refine ⟨t,_,_,_,rfl,rfl,SqT.of (sH _ _ ht),rfl,?_⟩
    nofun
    exact hq'
   ·rintro i v e H' Q' hx he fe sH hq'
    obtain ⟨e',he',t,rfl,ht⟩:=hR1.get hx
    obtain rfl:e'=e:=Option.some.inj (he'.symm.trans he)
    nofun
    refine ⟨t,_,_,_,rfl,rfl,SqT.of (sH _ _ ht),rfl,?_⟩
    nofun
    exact hq' _ _ (Same.refl _) rfl
   rintro ys H2 s2 eL hP
   have ye:=LL.eqm hP
   have sB:=s1.trans s2
   nofun
   refine ⟨l,(es.filter (isW "rate")).map (·.2.2),rfl,SqL.of (by rw[eL,ye,ybn];rfl),fun M hM=>?_⟩
   have pm:∀ s∈prs "rate" es,s.1<=(b+100+c / 16 % (999700-b))/\s.2<=M:=fun s hs=>by
    obtain ⟨e,he,rfl⟩:=yag.mp hs
    refine ⟨by have:=(ok e (yaq.mp he).1).hi;ac_rfl,?_⟩
    rcases hM with ⟨z,_⟩ | ⟨_,z⟩
    ·exact absurd (yar (f:=fun e:Er=>e.2.2) he) (by rw[z];intro n;cases n)
    ·exact z _ (yar (f:=fun e:Er=>e.2.2) he)
   have M0:0<=M/\M<=1000000:=by
    rcases hM with ⟨_,rfl⟩ | ⟨z,_⟩
    ·ac_rfl
    ·obtain ⟨e,he,rfl⟩:=yag.mp z
     exact ok.rate .rate (.inl rfl) _ (yar (f:=fun e:Er=>e.2) he)
   clear hM eL hP ye
   nofun
   ·intro t1 nt1
    have s2':=zc nt1 (.tup [.str "rate", .int (b+100+c / 16 % (999700-b)),.int (M+1)])
    have et:=zk (.tup [.str "rate", .int (b+100+c / 16 % (999700-b)),.int (M+1)]) nt1
    nofun
    intro q1 nq1
    have s3':=s2'.trans (zc nq1 (.lst [.ref t1]))
    have e3':=zk (.lst [.ref t1]) nq1
    have et3:=zc nq1 (.lst [.ref t1]) _ _ et
    generalize upd (upd H2 t1 (.tup [.str "rate", .int (b+100+c / 16 % (999700-b)),.int (M+1)])) q1 (.lst [.ref t1])=H9 at s3' e3' et3 ⊢
    refine ⟨q,q1,_,_,rfl,rfl,s3' _ _ (sB _ _ hq),e3',by show _+1<=_;ac_rfl,fun q2 nq2=>?_⟩
    have s4':=zc nq2 (.lst (rs++[.ref t1]))
    have sA':=(sB.trans (s3'.trans s4'))
    exact h q2 _ (es++[(Ek.rate,(b+100+c / 16 % (999700-b)),(M+1))]) _ (zw (sB.trans s3') nq2) sA' zg (LL.append (hR.same sA') (.cons ⟨t1,rfl,s4' _ _ et3⟩ .nil)) ((zaE ok).app (zaz (by intro z;cases z) (by ac_rfl) (fun _=>⟨by ac_rfl,by ac_rfl⟩))) (zi9 (b:=b) (.inl rfl) M0.1 pm (by ac_rfl) (by ac_rfl) (by ac_rfl) (by ac_rfl) ok.still) (fun _ g=>zkB (.inl rfl) M0.1 (fun s hs=>(pm s hs).2) (by ac_rfl)) (fun z=>absurd z (by ac_rfl)) (by rw[yad];exact ycz _)
   exact ⟨2,some (.str "rate"),some (.int M),.inl ⟨rfl,by ac_rfl⟩,rfl⟩
  ·intro pw npw
   have s1:=zc npw (.lst [.str "rate", .str "late"])
   have ew:=zk (.lst [.str "rate", .str "late"]) npw
   generalize upd H pw (.lst [.str "rate", .str "late"])=H1 at s1 ew ⊢
   nofun
   have hc:y=5:=by assumption
   refine ⟨pw,_,_,_,rfl,rfl,SqL.of ew,(by rw[hc];rfl:atI [V.str "rate", .str "late"] (y-4)=some (.str "late")),?_⟩
   nofun
   have hq1:=s1 _ _ hq
   have hR1:=hR.same s1
   refine ⟨⟨_,SqL.of hq1⟩,fun l nl=>?_⟩
   refine zbw (zak (SqL.of hq1)) nl (by ac_rfl) es xl.symm (isW "late") (fun _ v e=>v=.int e.2.2) (fun _ _ _ _ _ h=>h) (fun _ _ _ _ _ _ h=>h) ?_ ?_ ?_
   ·rintro i v e H' Q' hx he sH hq'
    obtain ⟨e',he',t,rfl,ht⟩:=hR1.get hx
    obtain rfl:e'=e:=Option.some.inj (he'.symm.trans he)
    nofun
    refine ⟨t,_,_,_,rfl,rfl,SqT.of (sH _ _ ht),rfl,?_⟩
    nofun
    exact hq'
   ·rintro i v e H' Q' hx he fe sH hq'
    obtain ⟨e',he',t,rfl,ht⟩:=hR1.get hx
    obtain rfl:e'=e:=Option.some.inj (he'.symm.trans he)
    nofun
    refine ⟨t,_,_,_,rfl,rfl,SqT.of (sH _ _ ht),rfl,?_⟩
    nofun
    exact hq' _ _ (Same.refl _) rfl
   rintro ys H2 s2 eL hP
   have ye:=LL.eqm hP
   have sB:=s1.trans s2
   nofun
   refine ⟨l,(es.filter (isW "late")).map (·.2.2),rfl,SqL.of (by rw[eL,ye,ybn];rfl),fun M hM=>?_⟩
   have pm:∀ s∈prs "late" es,s.1<=(b+100+c / 16 % (999700-b))/\s.2<=M:=fun s hs=>by
    obtain ⟨e,he,rfl⟩:=yag.mp hs
    refine ⟨by have:=(ok e (yaq.mp he).1).hi;ac_rfl,?_⟩
    rcases hM with ⟨z,_⟩ | ⟨_,z⟩
    ·exact absurd (yar (f:=fun e:Er=>e.2.2) he) (by rw[z];intro n;cases n)
    ·exact z _ (yar (f:=fun e:Er=>e.2.2) he)
   have M0:0<=M/\M<=1000000:=by
    rcases hM with ⟨_,rfl⟩ | ⟨z,_⟩
    ·ac_rfl
    ·obtain ⟨e,he,rfl⟩:=yag.mp z
     exact ok.rate .late (.inr rfl) _ (yar (f:=fun e:Er=>e.2) he)
   clear hM eL hP ye
   nofun
   ·intro t1 nt1
    have s2':=zc nt1 (.tup [.str "late", .int (b+100+c / 16 % (999700-b)),.int (M+1)])
    have et:=zk (.tup [.str "late", .int (b+100+c / 16 % (999700-b)),.int (M+1)]) nt1
    nofun
    intro q1 nq1
    have s3':=s2'.trans (zc nq1 (.lst [.ref t1]))
    have e3':=zk (.lst [.ref t1]) nq1
    have et3:=zc nq1 (.lst [.ref t1]) _ _ et
    generalize upd (upd H2 t1 (.tup [.str "late", .int (b+100+c / 16 % (999700-b)),.int (M+1)])) q1 (.lst [.ref t1])=H9 at s3' e3' et3 ⊢
    refine ⟨q,q1,_,_,rfl,rfl,s3' _ _ (sB _ _ hq),e3',by show _+1<=_;ac_rfl,fun q2 nq2=>?_⟩
    have s4':=zc nq2 (.lst (rs++[.ref t1]))
    have sA':=(sB.trans (s3'.trans s4'))
    exact h q2 _ (es++[(Ek.late,(b+100+c / 16 % (999700-b)),(M+1))]) _ (zw (sB.trans s3') nq2) sA' zg (LL.append (hR.same sA') (.cons ⟨t1,rfl,s4' _ _ et3⟩ .nil)) ((zaE ok).app (zaz (by intro z;cases z) (by ac_rfl) (fun _=>⟨by ac_rfl,by ac_rfl⟩))) (zi9 (b:=b) (.inr rfl) M0.1 pm (by ac_rfl) (by ac_rfl) (by ac_rfl) (by ac_rfl) ok.still) (fun _ g=>zkB (.inr rfl) M0.1 (fun s hs=>(pm s hs).2) (by ac_rfl)) (fun z=>absurd z (by ac_rfl)) (by rw[yad];exact ycz _)
   exact ⟨2,some (.str "late"),some (.int M),.inl ⟨rfl,by ac_rfl⟩,rfl⟩
  exact ⟨Same.refl _,y,none,none,.inr ⟨rfl,by ac_rfl⟩,rfl⟩
 rintro σ' H1 ⟨s1,y',z1,z2,yy,rfl⟩
 nofun
 ·intro t1 nt1
  have s2':=zc nt1 (.tup [.str "fee", .int D,.int 1])
  have et:=zk (.tup [.str "fee", .int D,.int 1]) nt1
  nofun
  intro q1 nq1
  have s3':=s2'.trans (zc nq1 (.lst [.ref t1]))
  have e3':=zk (.lst [.ref t1]) nq1
  have et3:=zc nq1 (.lst [.ref t1]) _ _ et
  generalize upd (upd H1 t1 (.tup [.str "fee", .int D,.int 1])) q1 (.lst [.ref t1])=H9 at s3' e3' et3 ⊢
  refine ⟨q,q1,_,_,rfl,rfl,s3' _ _ (s1 _ _ hq),e3',by show _+1<=_;ac_rfl,fun q2 nq2=>?_⟩
  have s4':=zc nq2 (.lst (rs++[.ref t1]))
  have sA':=(s1.trans (s3'.trans s4'))
  exact h q2 _ (es++[(Ek.fee,D,1)]) _ (zw (s1.trans s3') nq2) sA' zg (LL.append (hR.same sA') (.cons ⟨t1,rfl,s4' _ _ et3⟩ .nil)) ((zaE ok).app (zaz (by intro z;cases z) (by ac_rfl) (fun z=>by rcases z with z | z <;> cases z))) (zhf (by ac_rfl) (by ac_rfl) (by decide)) (fun _ g=>ziV (by decide)) (fun z=>absurd z (by ac_rfl)) (by rw[yad];exact ycz _)
 ·have hq1:=s1 _ _ hq
  have hR1:=hR.same s1
  refine ⟨⟨_,SqL.of hq1⟩,fun l nl=>?_⟩
  refine zbw (zak (SqL.of hq1)) nl (by ac_rfl) es xl.symm (isW "turn") (fun _ v e=>v=.int e.2.1) (fun _ _ _ _ _ h=>h) (fun _ _ _ _ _ _ h=>h) ?_ ?_ ?_
  ·rintro i v e H' Q' hx he sH hq'
   obtain ⟨e',he',t,rfl,ht⟩:=hR1.get hx
   obtain rfl:e'=e:=Option.some.inj (he'.symm.trans he)
   nofun
   refine ⟨t,_,_,_,rfl,rfl,SqT.of (sH _ _ ht),rfl,?_⟩
   nofun
   exact hq'
  ·rintro i v e H' Q' hx he fe sH hq'
   obtain ⟨e',he',t,rfl,ht⟩:=hR1.get hx
   obtain rfl:e'=e:=Option.some.inj (he'.symm.trans he)
   nofun
   refine ⟨t,_,_,_,rfl,rfl,SqT.of (sH _ _ ht),rfl,?_⟩
   nofun
   exact hq' _ _ (Same.refl _) rfl
  rintro ys H2 s2 eL hP
  have ye:ys=(dys "turn" es).map V.int:=(LL.eqm hP).trans (by unfold dys;rw[ybn];rfl)
  subst ye
  clear hP
  nofun
  rw[show (b+60-b).toNat=60 by ac_rfl]
  refine fun l2 nl2=>?_
  refine zkI nl2 (by ac_rfl) (fun i=>!decide (b+(i:Int)∈dys "turn" es)) ?_ ?_ ?_
  ·rintro i H' Q' hi sH hq'
   nofun
   refine ⟨l,_,rfl,.inl (SqL.of (sH _ _ eL)),rfl,by rw[List.all_map];exact ycp.mpr fun k _=>rfl,_,rfl,?_⟩
   rw[znL]
   exact hq'
  ·rintro i H' Q' hi fe sH hq'
   nofun
   exact hq'
  obtain ⟨fs,hfs⟩:∃ fs:List Nat,fs=(yas 60).filter fun i:Nat=>!decide (b+(i:Int)∈dys "turn" es):=⟨_,rfl⟩
  rw[<-hfs]
  have s3:=zc nl2 (.lst (fs.map fun i:Nat=>V.int (b+i)))
  have e3:=zk (.lst (fs.map fun i:Nat=>V.int (b+i))) nl2
  generalize upd H2 l2 (.lst (fs.map fun i:Nat=>V.int (b+i)))=H3 at s3 e3 ⊢
  have sC:=s1.trans (s2.trans s3)
  have f0:0<fs.length:=by
   rcases Nat.eq_zero_or_pos fs.length with z | z
   ·exfalso
    have all:∀ x∈(yas 60).map (fun i:Nat=>b+(i:Int)),x∈dys "turn" es:=fun x hx=>by
     obtain ⟨i,hi,rfl⟩:=yag.mp hx
     by_cases m:b+(i:Int)∈dys "turn" es
     ·exact m
     ·have:i∈fs:=by rw[hfs];exact yaq.mpr ⟨hi,by rw[decide_eq_false m];rfl⟩
      rw[yce.mp z] at this
      cases this
    have:=zgg (List.Pairwise.map (fun i:Nat=>b+(i:Int)) (fun a c h e=>h (by ac_rfl)) List.nodup_range) all
    rw[yab,yby] at this
    have dl:(dys "turn" es).length<=es.length:=by unfold dys;rw[yab];exact yaw _ _
    ac_rfl
   ·exact z
  nofun
  refine ⟨fun σ' H'=>H3=H'/\∃ Z:Int,b<=Z/\Z ∉ dys "turn" es/\σ'=[some (.ref q),some (.int c),some (.int b),some (.int y'),some (.int Z),none,none,z1,none,z2,some (.ref l),some (.ref l2)],?_,?_⟩
  ·nofun
   ·refine ⟨l2,_,rfl,.inl (SqL.of e3),?_⟩
    rw[yab]
    have z0:=ydy (c / 16) (show (fs.length:Int)≠0 by ac_rfl)
    have z1:=ydz (c / 16) (show (0:Int)<(fs.length:Int) by ac_rfl)
    nofun
    obtain ⟨v,hv0,hm⟩:=zaR (xs:=fs.map fun i:Nat=>V.int (b+i)) (k:=c / 16 % (fs.length:Int)) z0 (by rw[yab];exact z1)
    obtain ⟨i,im,rfl⟩:=yag.mp hm
    refine ⟨l2,_,_,_,rfl,rfl,SqL.of e3,hv0,?_⟩
    rw[hfs] at im
    have i2:=(yaq.mp im).2
    nofun
    exact ⟨_,by ac_rfl,(by simpa using i2),rfl⟩
   ·exact ⟨D,D0,(fun m=>by
     obtain ⟨e,he,ed⟩:=yag.mp m
     have:=(ok e (yaq.mp he).1).hi
     have ed:e.2.1=D:=ed
     ac_rfl),rfl⟩
  rintro σ' H' ⟨rfl,Z,zb,nZ,rfl⟩
  nofun
  intro t1 nt1
  have s2':=zc nt1 (.tup [.str "turn", .int Z,.int 0])
  have et:=zk (.tup [.str "turn", .int Z,.int 0]) nt1
  nofun
  intro q1 nq1
  have s3':=s2'.trans (zc nq1 (.lst [.ref t1]))
  have e3':=zk (.lst [.ref t1]) nq1
  have et3:=zc nq1 (.lst [.ref t1]) _ _ et
  generalize upd (upd H3 t1 (.tup [.str "turn", .int Z,.int 0])) q1 (.lst [.ref t1])=H9 at s3' e3' et3 ⊢
  refine ⟨q,q1,_,_,rfl,rfl,s3' _ _ (sC _ _ hq),e3',by show _+1<=_;ac_rfl,fun q2 nq2=>?_⟩
  have s4':=zc nq2 (.lst (rs++[.ref t1]))
  have sA':=(sC.trans (s3'.trans s4'))
  exact h q2 _ (es++[(Ek.turn,Z,0)]) _ (zw (sC.trans s3') nq2) sA' zg (LL.append (hR.same sA') (.cons ⟨t1,rfl,s4' _ _ et3⟩ .nil)) ((zaE ok).app (zaz (by intro z;cases z) (by ac_rfl) (fun z=>by rcases z with z | z <;> cases z))) (zog nZ) (fun _ g=>zpr) (fun z=>absurd z (by ac_rfl)) (by rw[yad];exact ycz _)
 ·intro t1 nt1
  have s2':=zc nt1 (.tup [.str "out", .int D,.int 1])
  have et:=zk (.tup [.str "out", .int D,.int 1]) nt1
  nofun
  intro q1 nq1
  have s3':=s2'.trans (zc nq1 (.lst [.ref t1]))
  have e3':=zk (.lst [.ref t1]) nq1
  have et3:=zc nq1 (.lst [.ref t1]) _ _ et
  generalize upd (upd H1 t1 (.tup [.str "out", .int D,.int 1])) q1 (.lst [.ref t1])=H9 at s3' e3' et3 ⊢
  refine ⟨q,q1,_,_,rfl,rfl,s3' _ _ (s1 _ _ hq),e3',by show _+1<=_;ac_rfl,fun q2 nq2=>?_⟩
  have s4':=zc nq2 (.lst (rs++[.ref t1]))
  have sA':=(s1.trans (s3'.trans s4'))
  exact h q2 _ (es++[(Ek.out,D,1)]) _ (zw (s1.trans s3') nq2) sA' zg (LL.append (hR.same sA') (.cons ⟨t1,rfl,s4' _ _ et3⟩ .nil)) ((zaE ok).app (zaz (by intro z;cases z) (by ac_rfl) (fun z=>by rcases z with z | z <;> cases z))) (zkn (by decide)).hard (fun z=>absurd z (by ac_rfl)) (fun _=>zkn (by decide)) (by rw[yad];exact ycz _)
def zkO (K:W.Frag):Sp:=fun vs H Q _=>L2.Ee4 fun a xs l d=>L2.Aa5 (vs=[.ref a,.int d]) (SqL K H a xs) (zu K H xs l) (Spans.Joined l) (Q (.bl (Spans.isIn l d)) H)
theorem zpl:zo qah qah (zj zgq):=by walk_at "sp"
theorem zp7 (S:Src K mg "stands" zgq qah) (T:Txt K mg) (zey:Def P w K mg base 2 "moved" qah (ziN K)):Def P w K mg base 3 "stands" qah (zkO K):=by
 exists S.ok,zpl,0
 all_goals obtain ⟨a,xs,l,d,rfl,hS,hR,J,h⟩:=h
 ·rfl
 refine ⟨_,(zi (zl (zdl zfp (zp zey hr (za (pv 0) (za (pv 1) ze))) (pv 1) (nomark _)))),?_⟩
 nofun
 refine ⟨a,xs,l,d,rfl,hS,hR,J,?_⟩
 intro m F
 nofun
 refine qb h ?_
 cases b:Spans.isIn l d with
 | true=>exact (decide_eq_true (F.gt.mpr (Spans.zbO.mp b))).symm
 | false=>exact (decide_eq_false fun z=>by rw[Spans.zbO.mpr (F.gt.mp z)] at b;cases b).symm
noncomputable def zdJ:V->V->V->Bool
 | .int y,.int m,.int d=>decide (1<=m) && decide (m<=12) && decide (1<=d) && decide (d<=Cal.mlen y m)
 | _,_,_=>false
theorem zo9 {y m d:Int}:zdJ (.int y) (.int m) (.int d)=true↔Cal.zht y m d:=by
 simp only[zdJ,Bool.and_eq_true,decide_eq_true_eq]
 exact ⟨fun h=>⟨h.1.1.1,h.1.1.2,h.1.2,h.2⟩,fun h=>⟨⟨⟨h.1,h.2⟩,h.3⟩,h.4⟩⟩
theorem zpf {x y z:V} (h:∀ i,x≠.int i):zdJ x y z=false:=by
 cases x <;> first | rfl | exact absurd rfl (h _)
theorem zpm {x y z:V} (h:∀ i,y≠.int i):zdJ x y z=false:=by
 cases x <;> first | rfl | (cases y <;> first | rfl | exact absurd rfl (h _))
theorem zpU {x y z:V} (h:∀ i,z≠.int i):zdJ x y z=false:=by
 cases x <;> first | rfl | (cases y <;> first | rfl | (cases z <;> first | rfl | exact absurd rfl (h _)))
def zjB (K:W.Frag):Sp:=fun vs H Q _=>L2.Ee6 fun x y z S T U=>L2.Aa5 (vs=[x,y,z]) (zhb K H x S) (zhb K H y T) (zhb K H z U) (Q (.bl (zdJ x y z)) H)
theorem zoL:zo qaj qaj (zj zfl):=by walk_at "sp"
theorem zo7 (S:Src K mg "is_date" zfl qaj) (T:Txt K mg) (zav:Def P w K mg base 1 "is_whole" qad (zdQ K)) (zbm:Def P w K mg base 2 "month_days" qap (zd0 K)):Def P w K mg base 3 "is_date" qaj (zjB K):=by
 exists S.ok,zoL,0
 all_goals obtain ⟨x,y,z,Sk,Tk,Uk,rfl,kx,ky,kz,h⟩:=h
 ·rfl
 refine ⟨_,(zf (zH (zbo (PW.pt (zcj (zaD (zp zav hr (za (pv 0) ze))) (zcj (zaD (zp zav hr (za (pv 1) ze))) (zdq (zaD (zp zav hr (za (pv 2) ze))))))))
  (zi (zl za6))
   zx)
  (zi (zl (zbQ (zgC zcr zcr zd (pv 1) zd) (zbP (zgC zcr zcr zd (pv 2) (zp zbm hr (za (pv 0) (za (pv 1) ze))))))))),?_⟩
 nofun
 refine ⟨_,_,rfl,kx,?_⟩
 nofun
 ·rename_i q1
  refine ⟨_,_,rfl,ky,?_⟩
  nofun
  ·rename_i q2
   refine ⟨_,_,rfl,kz,?_⟩
   nofun
   ·rename_i q3
    exact qb h (zpU fun i e=>by subst e;simp[zjh kz.1] at q3)
   ·rename_i q3
    have e3:Uk = "int" := by simpa using q3
    subst q1 q2 e3
    obtain ⟨i,rfl⟩:=ty_int kx.1
    obtain ⟨j,rfl⟩:=ty_int ky.1
    obtain ⟨k,rfl⟩:=ty_int kz.1
    nofun
    ·exact qb h (by simp[zdJ, *])
    ·exact qb h (by simp[zdJ, *])
    ·exact qb h (by simp[zdJ, *])
    ·exact qb h (by simp[zdJ, *])
  ·rename_i q2
   nofun
   exact qb h (zpm fun i e=>by subst e;exact q2 (zjh ky.1))
 ·rename_i q1
  nofun
  exact qb h (zpf fun i e=>by subst e;exact q1 (zjh kx.1))
def zcd (K:W.Frag):Sp:=fun vs H Q _=>L2.Ee6 fun a b xs ys (t u:List (Int × Int))=>L2.Aa4 (vs=[.ref a,.ref b]) ((H a=some (.lst xs)/\zu K H xs t/\t.length<=1000/\(t.Pairwise fun s u=>s.1<u.1)/\(∀ s∈t,0<=s.1))) ((H b=some (.lst ys)/\zu K H ys u/\u.length<=1000/\(u.Pairwise fun s u=>s.1<u.1)/\(∀ s∈u,0<=s.1))) (∀ v:Bool,(v=true↔∀ d:Int,0<=d->d<=999999->Sums.valOf t d<=Sums.valOf u d)->Q (.bl v) H)
theorem zu.app {K:W.Frag} {H:Hp} {xs ys:List V} {l r:List (Int × Int)} (h:zu K H xs l) (g:zu K H ys r):zu K H (xs++ys) (l++r):=by
 induction h with
 | nil=>exact g
 | cons e _ ih=>exact .cons e ih
theorem zed:zo ["one", "other", "days"] qab (zj zbD):=by walk_at "sp"
theorem ziM (S:Src K mg "is_never_above" zbD qab) (T:Txt K mg) (zby:Def P w K mg base 2 "value_at" qat (zfQ K)):Def P w K mg base 3 "is_never_above" qab (zcd K):=by
 exists S.okF,zed,0
 all_goals obtain ⟨a,b,xs,ys,t,u,rfl,⟨ea,ra,la,ua,na⟩,⟨eb,rb,lb,ub,nb⟩,h⟩:=h
 ·rfl
 refine ⟨_,(zf (zhT (i:=2) zed.nd rfl rfl (ix:=[]) ⟨rfl,by decide +kernel,rfl,by decide +kernel,rfl,(show (["row"]:List Str).Nodup by decide +kernel),by walk_at "cap", by walk_at "sub", by walk_at "has"⟩ (zaj (zh zaw (pv 0) (pv 1))) (fun b=>(zr zcr (zD (zaH K) (pv 0) zd (fun _ _=>rfl)) (zeA T.zcU) (nomark _))) (fun b=>(zD (zaH K) (pv 0) zd (fun _ _=>rfl))))
  (zi (zl (zG (zpN rfl) rfl T.zod PyProof.Rows.boot_all (za (zdf (ix:=[0,1]) ⟨rfl,by decide +kernel,rfl,by decide +kernel,rfl,(show (["day", "one", "other"]:List Str).Nodup by decide +kernel),by walk_at "cap", by walk_at "sub", by walk_at "has"⟩ (zaj (pv 2)) (fun b=>(zdl zcr (zp zby hr (za (pv 1) (za (pv 0) ze))) (zp zby hr (za (pv 2) (za (pv 0) ze))) (nomark _)))) ze))))),?_⟩
 have sz:=sizeLine_eq
 have xl:=ra.length
 have yl:=rb.length
 nofun
 refine ⟨a,b,xs,ys,rfl,rfl,ea,eb,by ac_rfl,fun p np=>?_⟩
 have s1:=zc np (.lst (xs++ys))
 have e1:=zk (.lst (xs++ys)) np
 generalize upd H p (.lst (xs++ys))=H1 at s1 e1 ⊢
 have R1:=zu.app (ra.same s1) (rb.same s1)
 have rl:=R1.length
 nofun
 refine ⟨⟨_,SqL.of e1⟩,fun l1 n1=>?_⟩
 refine zbw (zak (SqL.of e1)) n1 (by rw[yad];ac_rfl) (t++u) rl.symm (fun s=>decide (s.1<=999999)) (fun H' v s=>v=.int s.1) (fun v e H1 H2 s e1=>e1) (fun v e H1 ys zs hL e1=>e1) ?_ ?_ ?_
 ·rintro i x s H' Q' hx hs sH hq
  obtain ⟨q,s',rfl,e,ht⟩:=R1.get hx
  obtain rfl:s'=s:=Option.some.inj (e.symm.trans hs)
  have ht':=sH _ _ ht
  nofun
  exact hq
 ·rintro i x s H' Q' hx hs fe sH hq
  obtain ⟨q,s',rfl,e,ht⟩:=R1.get hx
  obtain rfl:s'=s:=Option.some.inj (e.symm.trans hs)
  have ht':=sH _ _ ht
  nofun
  exact hq _ _ (Same.refl _) rfl
 ·rintro zs H2 s2 eL hL
  have ey:=hL.eqm
  have dl:((t++u).filter fun s=>decide (s.1<=999999)).length<=2000:=yde (yaw _ _) (by rw[yad];ac_rfl)
  have nab_eq:=zrD na nb
  unfold nab at nab_eq
  generalize (t++u).filter (fun s=>decide (s.1<=999999))=ds at ey dl nab_eq
  rw[ey] at eL
  have sH:=s1.trans s2
  nofun
  refine ⟨⟨_,SqL.of eL⟩,fun l2 n2=>?_⟩
  refine zl8 (zak (SqL.of eL)) n2 (by rw[yab];ac_rfl) (fun i v _=>∃ s,ds[i]?=some s/\v=.bl (decide (Sums.valOf t s.1<=Sums.valOf u s.1))) (fun _ _ _ _ _ q=>q) (fun _ _ _ _ _ _ q=>q) ?_ ?_
  ·rintro i v H' Q' hv s' hq
   rw[yak] at hv
   obtain ⟨s,hs,rfl⟩:=Option.map_eq_some_iff.mp hv
   have sK:=sH.trans s'
   nofun
   refine ⟨a,xs,t,s.1,rfl,SqL.of (sK _ _ ea),ra.same sK,ua,na,?_⟩
   nofun
   refine ⟨b,ys,u,s.1,rfl,SqL.of (sK _ _ eb),rb.same sK,ub,nb,?_⟩
   nofun
   exact hq _ _ (Same.refl _) ⟨s,hs,rfl⟩
  ·rintro bs H' s' eB bl hp
   have eb2:bs=(ds.map fun s=>decide (Sums.valOf t s.1<=Sums.valOf u s.1)).map V.bl:=by
    apply ybx
    intro j
    cases e:bs[j]? with
    | none=>rw[yap (by have:=List.getElem?_eq_none_iff.mp e;rw[yab,yab];rw[yab] at bl;ac_rfl)]
    | some v =>
     obtain ⟨s,h1,rfl⟩:=hp j v e
     rw[yak,yak,h1]
     rfl
   nofun
   refine ⟨l2,ds.map fun s=>decide (Sums.valOf t s.1<=Sums.valOf u s.1),rfl,SqL.of (by rw[<-eb2];exact eB),sH.trans s',?_⟩
   exact h _ nab_eq
def zf6 (K:W.Frag):Sp:=fun vs H Q _=>∃ c kd g,vs=[.ref c,.int g]/\zcG K H c kd/\(0<=g/\g<=366)/\Q .non H
theorem zke:zo qaw qaw (zj zcp):=by walk_at "sp"
theorem zkU (S:Src K mg "check_terms" zcp qaw) (T:Txt K mg) (zfv:Def P w K mg base 2 "is_within" qav (zhp K)):Def P w K mg base 3 "check_terms" qaw (zf6 K):=by
 exists S.ok,zke,0
 all_goals obtain ⟨c,kd,g,rfl,hc,⟨g0,g1⟩,h⟩:=h
 ·rfl
 refine ⟨_,(zf (zH (zbo (zaD (zG zpw rfl T.zbj PyProof.Rows.boot_isinstance (za (pv 0) (za (zez (v:=.ref (cA K "Count")) rfl T.zia rfl) ze)))))
   zdU
   zx)
  (zi (zH (zbo (zaD (zp zfv hr (za (pv 1) (za zd (za (zeA T.zfd) ze))))))
   zdU
   zx))),?_⟩
 have ty:=tyC (T.cls kd) (T.ikK kd) hc
 nofun
 refine ⟨_,_,_,_,rfl,ty,T.kitK0 kd,?_⟩
 rw[show zsM kd .plain=true from rfl]
 nofun
 exact h
def zf4 (K:W.Frag):Sp:=fun vs H Q _=>L2.Ee6 fun p sp xs ys (es:List Er) l=>L2.Aa6 (vs=[.ref p,.ref sp]) (SqL K H p xs) (EL K H xs es) (es.length<=61) ((SqL K H sp ys/\zu K H ys l/\Spans.Joined l)) (∀ q H' ws r,H q=none->Same H H'->H' q=some (.lst ws)->zu K H' ws r->Sby.Tab r (mvp (mvd l) (prs "due" es))->Q (.ref q) H')
theorem zjY:zo qax qax (zj zco):=by walk_at "sp"
theorem zk7 (S:Src K mg "fallen_dues" zco qax) (T:Txt K mg) (zdb:Def P w K mg base 1 "summed" qaf (zho K)) (zbS:Def P w K mg base 2 "sum_by" qac (zhv K)) (zey:Def P w K mg base 2 "moved" qah (ziN K)):Def P w K mg base 3 "fallen_dues" qax (zf4 K):=by
 exists S.ok,zjY,0
 all_goals obtain ⟨p,sp,xs,ys,es,l,rfl,ep,hE,hl,⟨eS,rS,J⟩,h⟩:=h
 ·rfl
 refine ⟨_,(zi (zl (zp zdb hr (za (zdf (ix:=[1]) ⟨rfl,by decide +kernel,rfl,by decide +kernel,rfl,(show (["row", "spans"]:List Str).Nodup by decide +kernel),by walk_at "cap", by walk_at "sub", by walk_at "has"⟩ (zaj (zp zbS hr (za (pv 0) (za zt ze)))) (fun b=>(zE (za (zp zey hr (za (pv 1) (za (zD (zaH K) (pv 0) zd (fun _ _=>rfl)) ze))) (za (zD (zaH K) (pv 0) zd (fun _ _=>rfl)) ze))))) ze)))),?_⟩
 have sz:=sizeLine_eq
 nofun
 refine ⟨p,xs,es, "due", rfl,ep,hE,hl,.inr (.inr (.inr rfl)),fun q1 H1 ws1 r1 nq1 s1 e1 R1 T1=>?_⟩
 have eS1:=s1.seq eS
 have rS1:=rS.same s1
 have l1:=R1.length
 have pl:=zf0 (w:="due") (es:=es)
 have rl:r1.length<=(prs "due" es).length:=by
  have:=zeR (Sby.zgl T1.up) fun k hk=>(T1.mem k).mp hk
  rw[yab,yab] at this
  exact this
 refine ⟨q1,rfl,⟨_,SqL.of e1⟩,fun lt nlt=>?_⟩
 refine comp_map (zak (SqL.of e1)) nlt (by ac_rfl) r1 l1.symm (fun H' v s=>∃ t,v=.ref t/\H' t=some (.tup [.int (mvd l s.1),.int s.2])) (fun v e H1 H2 s ⟨t,e1,e2⟩=>⟨t,e1,s _ _ e2⟩) (fun v e H1 ys zs hL ⟨t,e1,e2⟩=>⟨t,e1,by rw[zv (za8 e2 hL (by intro z;cases z))];exact e2⟩) ?_ ?_
 ·rintro i x s H' Q' hx hs sH hq
  obtain ⟨u,s',rfl,hs',hu⟩:=(R1.same sH).get hx
  obtain rfl:s'=s:=Option.some.inj (hs'.symm.trans hs)
  nofun
  refine ⟨sp,ys,l,s'.1,rfl,sH.seq eS1,rS1.same sH,J,fun m F=>?_⟩
  obtain rfl:=zpF F
  nofun
  intro t nt
  exact hq _ _ (zc nt _) ⟨t,rfl,zg⟩
 ·rintro zs H2 s2 eL hL
  have ml:(mvp (mvd l) r1).length=r1.length:=yab ..
  nofun
  refine ⟨lt,zs,mvp (mvd l) r1,rfl,eL,zqg hL,by ac_rfl,fun q H3 ws r nq s3 eq hr' tb=>?_⟩
  exact h q H3 ws r (zw (s1.trans s2) nq) (s1.trans (s2.trans s3)) eq hr' (zrY _ T1 tb)
def zg2 (K:W.Frag):Sp:=fun vs H Q _=>L2.Ee5 fun a (ns:List Int) (s m:Int) b=>L2.Aa5 (vs=[.ref a,.int s,.int m,.int b]) ((0<=s/\s<=100/\5<=m/\m<=30)) (SqL K H a (ns.map V.int)) ((0<=b/\b<=999699)) (∀ q rs (es:List Er) H',H q=none->Same H H'->H' q=some (.lst rs)->RL3 H' rs es->Sgs 0 b es->5<=es.length/\es.length<=m.toNat->Q (.ref q) H')
theorem zd8:zo ["_law_script", "_law_start", "_law_most", "_law_base", "_law_specs_here", "_law_k"] qbe (zj zc9):=by walk_at "sp"
theorem zlJ (S:Src K mg "_law_specs" zc9 qbe) (T:Txt K mg) (zaa:Def P w K mg base 2 "_law_cell" qan (zcE K)) (zfH:Def P w K mg base 1 "_law_spec" qbc (zhV K)):Def P w K mg base 3 "_law_specs" qbe (zg2 K):=by
 exists S.ok,zd8,0
 all_goals obtain ⟨a,ns,s,m,b,rfl,⟨s0,s1',m0,m1⟩,hS,⟨b0,b1⟩,h⟩:=h
 ·rfl
 refine ⟨_,(zf (zq (i:=4) zd8.nd rfl (by walk_at "lc") (zN (za (zE (za zt (za (pv 3) (za (zh zbh (zaQ (v:=100000) (by decide +kernel) ⟨by decide,by decide,by decide⟩) (zh zy zd (zh zC (zp zaa hr (za (pv 0) (za (pv 1) ze))) zd))) ze)))) ze)))
  (zf (zha PassesOwn.never rfl (zhG rfl T.zdn (za (zh zy (pv 1) zd) (za (zG (zpR rfl) rfl T.zoY PyProof.Rows.boot_min (za (zh zy (pv 1) (pv 2)) (za (zG (zcz rfl) rfl T.zen PyProof.Rows.boot_max (za (zh zy (pv 1) zd) (za (zG zag rfl T.zbB PySem.boot_len (za (pv 0) ze)) ze))) ze))) ze))) (zar (i:=5) zd8.nd rfl (by walk_at "lc"))
  (zi (zb3 (zjj PySem.F.plainAttrs_list PySem.F.slot_list_append PySem.F.type_list_append zdR (pv 4) (za (zp zfH hr (za (zp zaa hr (za (pv 0) (za (pv 5) ze))) (za (pv 3) ze))) ze)))))
  (zi (zl (pv 4))))),?_⟩
 have sz:=sizeLine_eq
 nofun
 rename_i r r0 r1
 intro t nt
 have s1:=zc nt (.tup [.str "out", .int b,.int (100000*(1+r % 90))])
 have e1:=zk (.tup [.str "out", .int b,.int (100000*(1+r % 90))]) nt
 nofun
 intro q nq
 have s2:=s1.trans (zc nq (.lst [.ref t]))
 have npH:=zw s1 nq
 have e2:=zk (.lst [.ref t]) nq
 have e12:=zc nq (.lst [.ref t]) _ _ e1
 generalize upd (upd H t (.tup [.str "out", .int b,.int (100000*(1+r % 90))])) q (.lst [.ref t])=H1 at s2 e2 e12 ⊢
 nofun
 refine ⟨a,_,rfl,.inl (s2.seq hS),?_⟩
 rw[yab]
 nofun
 refine zkJ (fun j σ H'=>∃ (rs:List V) (es:List Er) (z:Option V),(Same H H'/\H' q=some (.lst rs)/\RL3 H' rs es)/\(Sgs 0 b es/\es.length=1+j)/\σ=[some (.ref a),some (.int s),some (.int m),some (.int b),some (.ref q),z])
  ⟨[.ref t],[(.out,b,100000*(1+r % 90))],_,⟨s2,e2,.cons ⟨t,rfl,e12⟩ .nil⟩,⟨Sgs.one ⟨ydx _,by show b<=b+59+8*0;ac_rfl,by show 1<=100000*(1+r % 90);ac_rfl⟩,rfl⟩,rfl⟩ ?_ ?_
 ·rintro j σ H2 hj ⟨rs,es,z,⟨sH,eQ,hR⟩,⟨ok,el⟩,rfl⟩
  have xl:=hR.length
  have hj':j<29:=by
   split at hj <;> split at hj <;> ac_rfl
  have hSH:=sH.seq hS
  nofun
  refine ⟨.inl ⟨rfl,_,SqL.of eQ⟩,?_⟩
  nofun
  rename_i y y0 y1
  intro t' k d x H3 nt' s3 et' sp
  nofun
  have eQ3:=s3 _ _ eQ
  refine ⟨q,_,_,rfl,rfl,eQ3,by ac_rfl,?_⟩
  refine ⟨_,es++[(k,d,x)],_,⟨zab (sH.trans s3) npH,zg,LL.push (RL3.put (hR.same s3) eQ3) ⟨t',rfl,?_⟩⟩,⟨ok.app (Sgs.one sp),?_⟩,rfl⟩
  ·rw[zv (za8 et' eQ3 (by intro z;cases z))]
   exact et'
  ·rw[yad,el]
   rfl
 ·rintro σ H2 ⟨rs,es,z,⟨sH,eQ,hR⟩,⟨ok,el⟩,rfl⟩
  nofun
  refine h q rs es H2 npH sH eQ hR ok ?_
  rw[el]
  split <;> split <;> ac_rfl
theorem zmG (y:Int):∀ n:Nat,n<=11->((yas n).map fun i:Nat=>Cal.mlen y (1+(i:Int))).sum=Cal.cum y ((n:Int)+1)
 | 0,_=>by simp[Cal.cum]
 | n+1,h=>by
  have ih:=zmG y n (by omega)
  rw[ycs,yat,List.sum_append,ih]
  have cs:=@Cal.zmL y ((n:Int)+1) (by omega) (by omega)
  rw[show ((n+1:Nat):Int)+1=(n:Int)+1+1 by omega,cs]
  simp[Int.add_comm]
theorem zru {xs:List V} {n:Nat} {f:Nat->Int} (hl:xs.length=n) (h:∀ (j:Nat) (v:V),xs[j]?=some v->v=V.int (f j)):xs=((yas n).map f).map V.int:=by
 apply ybx
 intro j
 by_cases hj:j<n
 ·have e:xs[j]?=some xs[j]:=yaa (by omega)
  rw[e,h j _ e,yak,yak,ycg hj]
  rfl
 ·rw[yap (by omega),yap (by simp;omega)]
def zkq (K:W.Frag):Sp:=fun vs H Q _=>∃ y m d,vs=[.int y,.int m,.int d]/\Cal.zht y m d/\0<=Cal.num y m d/\Cal.num y m d<=999999/\Q (.int (Cal.num y m d)) H
theorem zhe:zo ["year", "month", "day", "months_ahead", "number"] qaj (zj zgG):=by walk_at "sp"
theorem zqY (S:Src K mg "day_of" zgG qaj) (T:Txt K mg) (zhx:Def P w K mg base 3 "is_date" qaj (zjB K)) (zbm:Def P w K mg base 2 "month_days" qap (zd0 K)) (zgy:Def P w K mg base 1 "new_year" qai (zis K)) (zi1:Def P w K mg base 2 "is_day" qad (zkj K)):Def P w K mg base 4 "day_of" qaj (zkq K):=by
 exists S.okF,zhe,0
 all_goals obtain ⟨y,m,d,rfl,D,n0,n1,h⟩:=h
 ·rfl
 refine ⟨_,(zf (zH (zbo (zaD (zp zhx hr (za (pv 0) (za (pv 1) (za (pv 2) ze))))))
   zdU
   zx)
  (zf (znY (i:=3) zhe.nd rfl rfl (ix:=[0]) ⟨rfl,by decide +kernel,rfl,by decide +kernel,rfl,(show (["ahead", "year"]:List Str).Nodup by decide +kernel),by walk_at "cap", by walk_at "sub", by walk_at "has"⟩ (zhG rfl T.zdn (za zd (za (pv 1) ze))) (fun b=>(zp zbm hr (za (pv 1) (za (pv 0) ze)))))
  (zf (zq (i:=4) zhe.nd rfl (by walk_at "lc") (zh zat (zh zy (zh zy (zp zgy hr (za (pv 0) ze)) (zG (zpp rfl) rfl T.zoi PyProof.Rows.boot_sum (za (pv 3) ze))) (pv 2)) zd))
  (zf (zH (zbo (zaD (zp zi1 hr (za (pv 4) ze))))
   zdU
   zx)
  (zi (zl (pv 4))))))),?_⟩
 nofun
 refine ⟨_,_,_, "int", "int", "int", rfl,⟨.int y,by decide⟩,⟨.int m,by decide⟩,⟨.int d,by decide⟩,?_⟩
 rw[zo9.mpr D]
 have m1:=D.m1
 have m2:=D.m2
 nofun
 intro l hl
 refine zoG (fun i v=>v=.int (Cal.mlen y (1+(i:Int)))) hl (by have:=sizeLine_eq;ac_rfl) ?_ ?_
 ·intro i H' Q' hi hs hq
  nofun
  exact hq _ rfl
 ·intro xs hx hp
  have ex:=zru hx hp
  nofun
  refine ⟨_,((yas (m-1).toNat).map fun i:Nat=>Cal.mlen y (1+(i:Int))),rfl,SqL.of (by rw[<-ex];exact zg),?_⟩
  have es:=zmG y (m-1).toNat (by ac_rfl)
  rw[show (((m-1).toNat:Nat):Int)+1=m by ac_rfl] at es
  rw[es]
  nofun
  refine ⟨V.int (Cal.num y m d), "int", rfl,⟨.int _,by decide⟩,?_⟩
  have eb:zmk (.int (Cal.num y m d))=true:=by simp[zmk, *]
  rw[eb]
  nofun
  first | exact ⟨zc hl _,h⟩ | exact h
def zij (K:W.Frag):Sp:=fun vs H Q _=>L2.Ee6 fun a b xs ys (t l:List (Int × Int))=>L2.Aa5 (vs=[.ref a,.ref b]) ((H a=some (.lst xs)/\zu K H xs t/\(t.Pairwise fun s u=>s.1<u.1)/\(∀ s∈t,0<=s.1))) ((H b=some (.lst ys)/\zu K H ys l/\Spans.Joined l)) (t.length+2*l.length<63) (∀ p ws (r:List (Int × Int)) H',H p=none->Same H H'->H' p=some (.lst ws)->zu K H' ws r->r.length<=1000->(r.Pairwise fun s u=>s.1<u.1)->(∀ s∈r,0<=s.1)->(∀ d:Int,0<=d->d<=999999->Sums.valOf r d=chv t l d)->Q (.ref p) H')
theorem zim:zo ["table", "spans", "days"] qbf (zj zel):=by walk_at "sp"
theorem zob (S:Src K mg "charging" zel qbf) (T:Txt K mg) (ziZ:Def P w K mg base 1 "breaks" qba (zkp K)) (ziK:Def P w K mg base 3 "stands" qah (zkO K)) (zby:Def P w K mg base 2 "value_at" qat (zfQ K)):Def P w K mg base 4 "charging" qbf (zij K):=by
 exists S.ok,zim,0
 all_goals obtain ⟨a,b,xs,ys,t,l,rfl,⟨ea,ra,ua,na⟩,⟨eb,rb,J⟩,ls,h⟩:=h
 ·rfl
 refine ⟨_,(zf (zq (i:=2) zim.nd rfl (by walk_at "lc") (zh zaw (zN (za zd ze)) (zp ziZ hr (za (pv 0) (za (pv 1) (za zd (za (zh zy (zeA T.zcU) zd) ze)))))))
  (zi (zl (zdf (ix:=[1,0]) ⟨rfl,by decide +kernel,rfl,by decide +kernel,rfl,(show (["day", "spans", "table"]:List Str).Nodup by decide +kernel),by walk_at "cap", by walk_at "sub", by walk_at "has"⟩ (zaj (pv 2)) (fun b=>(zE (za (pv 0) (za (zqG (zaD (zp ziK hr (za (pv 1) (za (pv 0) ze)))) zd (zp zby hr (za (pv 2) (za (pv 0) ze)))) ze)))))))),?_⟩
 have sz:=sizeLine_eq
 have xl:=ra.length
 have yl:=rb.length
 nofun
 intro p np
 have s1:=zc np (.lst [V.int 0])
 have e1:=zk (.lst [V.int 0]) np
 generalize upd H p (.lst [V.int 0])=H1 at s1 e1 ⊢
 nofun
 refine ⟨a,b,xs,ys,t,l,0,_,rfl,SqL.of (s1 _ _ ea),ra.same s1,SqL.of (s1 _ _ eb),rb.same s1,by ac_rfl,fun q ns H2 s2 nq e2 nl up hd=>?_⟩
 nofun
 refine ⟨p,q,_,_,rfl,rfl,s2 _ _ e1,e2,by rw[yab];show 1+_<=_;ac_rfl,fun r nr=>?_⟩
 have s3:=zc nr (.lst ([V.int 0]++ns.map V.int))
 have e3:=zk (.lst ([V.int 0]++ns.map V.int)) nr
 generalize upd H2 r (.lst ([V.int 0]++ns.map V.int))=H3 at s3 e3 ⊢
 have e3':H3 r=some (.lst (((0:Int)::ns).map V.int)):=e3
 have sH:=s1.trans (s2.trans s3)
 clear s1 s2 s3 e1 e2 e3
 nofun
 refine ⟨⟨_,SqL.of e3'⟩,fun l1 n1=>?_⟩
 refine comp_map (zak (SqL.of e3')) n1 (by rw[yab,yax];ac_rfl) ((0:Int)::ns) (by rw[yab]) (fun H' v k=>∃ t',v=.ref t'/\H' t'=some (.tup [.int k,.int (chv t l k)])) (fun v e H1 H2 s ⟨t,e1,e2⟩=>⟨t,e1,s _ _ e2⟩) (fun v e H1 ys zs hL ⟨t,e1,e2⟩=>⟨t,e1,by rw[zv (za8 e2 hL (by intro z;cases z))];exact e2⟩) ?_ ?_
 ·rintro i x k H' Q' hx hk s' hq
  rw[yak,hk] at hx
  cases hx
  have sK:=sH.trans s'
  nofun
  refine ⟨b,ys,l,k,rfl,SqL.of (sK _ _ eb),rb.same sK,J,?_⟩
  cases q:Spans.isIn l k with
  | true =>
   nofun
   intro t' nt
   exact hq _ _ (zc nt _) ⟨t',rfl,by rw[zg];unfold chv;rw[if_pos q]⟩
  | false =>
   nofun
   refine ⟨a,xs,t,k,rfl,SqL.of (sK _ _ ea),ra.same sK,ua,na,?_⟩
   nofun
   intro t' nt
   exact hq _ _ (zc nt _) ⟨t',rfl,by rw[zg];unfold chv;rw[if_neg (by rw[q];decide)]⟩
 ·rintro zs H4 s4 e4 hL
  have hS:zu K H4 zs (((0:Int)::ns).map fun k=>(k,chv t l k)):=by
   clear e4
   revert hL
   generalize (0:Int)::ns=ks
   intro hL
   induction hL with
   | nil=>exact .nil
   | cons h _ ih =>
    obtain ⟨t',rfl,e⟩:=h
    exact .cons e ih
  have k0:∀ k∈ns,0<k:=fun k hk=>((hd k).mp hk).1.1
  refine h l1 zs _ H4 (zw sH n1) (sH.trans s4) e4 hS (by rw[yab,yax];ac_rfl) ?_ ?_ (fun d d0 d1=>zrx hd d0 d1)
  ·rw[ybh]
   exact ybr.mpr ⟨fun k hk=>k0 k hk,up⟩
  ·intro s hs
   obtain ⟨k,hk,rfl⟩:=yag.mp hs
   rcases yal.mp hk with rfl | hk
   ·exact ydx _
   ·exact Int.le_of_lt (k0 k hk)
structure FOk (b:BkT):Prop where
 fu:(b.fees.map (·.1)).Pairwise (·<·)
 fn:∀ s∈b.fees,0<=s.1
 fl:b.fees.length<=1000
theorem zeu {l:List (Int × Int)} (h:(l.map (·.1)).Pairwise (·<·)):(runs 0 l).Pairwise fun s u=>s.1<u.1:=zpa (by rw[zcA];exact h)
theorem zes {l:List (Int × Int)} (h:∀ s∈l,0<=s.1):∀ s∈runs 0 l,0<=s.1:=fun s hs=>by
 have m:s.1∈l.map (·.1):=by rw[<-zcA l 0];exact yar hs
 obtain ⟨r,hr,e⟩:=yag.mp m
 rw[<-e]
 exact h r hr
theorem znV (g:Int) (l:List (Int × Int)):(shf g l).length=l.length:=yab _
theorem zf7 {g:Int} {l:List (Int × Int)} (h:(l.map (·.1)).Pairwise (·<·)):((shf g l).map (·.1)).Pairwise (·<·):=by
 unfold shf
 rw[ybn,ybh]
 rw[ybh] at h
 exact h.imp fun z=>by show _+g<_+g;omega
theorem zgb {g:Int} {l:List (Int × Int)} (g0:0<=g) (h:∀ s∈l,0<=s.1):∀ s∈shf g l,0<=s.1:=fun s hs=>by
 obtain ⟨r,hr,rfl⟩:=yag.mp hs
 have:=h r hr
 show 0<=r.1+g
 omega
def zda (K:W.Frag):Sp:=fun vs H Q _=>L2.Ee6 fun a A (b:BkT) a' A' (c:BkT)=>L2.Aa4 (vs=[.ref a,.ref a']) ((zaM K H a A b/\BOk b/\FOk b)) ((zaM K H a' A' c/\BOk c/\FOk c)) (∀ v:Bool,(v=true↔(∀ d:Int,0<=d->d<=999999->upto c.pays d<=upto b.pays d)/\(∀ d:Int,0<=d->d<=999999->upto b.fees d<=upto c.fees d)/\∀ d:Int,0<=d->d<=999999->upto b.dues (d-b.g)<=upto c.dues (d-c.g))->Q (.bl v) H)
theorem zaW:zo ["one", "other", "pays", "fees", "dues"] qab (zj za0):=by walk_at "sp"
theorem zg7 (S:Src K mg "is_asked_no_more" za0 qab) (T:Txt K mg) (zaf:Def P w K mg base 3 "is_never_above" qab (zcd K)) (zan:Def P w K mg base 1 "running_sums" ["rows"] (zcJ K)) (zdC:zJ P w K mg base 1 (cA K "Book") "pays" qaa (zhH K)) (zdG:zJ P w K mg base 1 (cA K "Book") "fees" qaa (zhF K)) (zdt:Def P w K mg base 2 "late_sums" ["book"] (zhO K)):Def P w K mg base 4 "is_asked_no_more" qab (zda K):=by
 exists S.okF,zaW,0
 all_goals obtain ⟨a,A,b,a',A',c,rfl,⟨B,O,F⟩,⟨C,O',F'⟩,h⟩:=h
 ·rfl
 refine ⟨_,(zf (zq (i:=2) zaW.nd rfl (by walk_at "lc") (zp zaf hr (za (zp zan hr (za (zW zdC T.zB hr (pv 1)) ze)) (za (zp zan hr (za (zW zdC T.zB hr (pv 0)) ze)) ze))))
  (zf (zq (i:=3) zaW.nd rfl (by walk_at "lc") (zp zaf hr (za (zp zan hr (za (zW zdG T.zB hr (pv 0)) ze)) (za (zp zan hr (za (zW zdG T.zB hr (pv 1)) ze)) ze))))
  (zf (zq (i:=4) zaW.nd rfl (by walk_at "lc") (zp zaf hr (za (zp zdt hr (za (pv 0) ze)) (za (zp zdt hr (za (pv 1) ze)) ze))))
  (zi (zl (zbQ (pv 2) (zbQ (pv 3) (zbP (pv 4))))))))),?_⟩
 have sz:=sizeLine_eq
 nofun
 have C1:=C.same (Same.refl _)
 refine ⟨a',A'.dx,_,rfl,C1.ins,rfl,a',A',c,rfl,C1,fun q1 x1 nq1 r1 l1=>?_⟩
 have t1:=zc nq1 (.lst x1)
 have e1:=zk (.lst x1) nq1
 have R1:=r1.same t1
 generalize upd H q1 (.lst x1)=H1 at t1 e1 R1 ⊢
 nofun
 rename_i p2 w2 H2
 intro np2 t2 e2 R2
 nofun
 have B3:=B.same (t1.trans (t2))
 refine ⟨a,A.dx,_,rfl,B3.ins,rfl,a,A,b,rfl,B3,fun q3 x3 nq3 r3 l3=>?_⟩
 have t3:=zc nq3 (.lst x3)
 have e3:=zk (.lst x3) nq3
 have R3:=r3.same t3
 generalize upd H2 q3 (.lst x3)=H3 at t3 e3 R3 ⊢
 nofun
 rename_i p4 w4 H4
 intro np4 t4 e4 R4
 nofun
 refine ⟨p2,p4,w2,w4,runs 0 c.pays,runs 0 b.pays,rfl,⟨(t3.trans t4) _ _ e2,R2.same (t3.trans t4),by rw[zcy];assumption,zeu O'.pu,zes O'.pn⟩,⟨e4,R4,by rw[zcy];assumption,zeu O.pu,zes O.pn⟩,fun b1 hb1=>?_⟩
 have k1:b1=true↔∀ d:Int,0<=d->d<=999999->upto c.pays d<=upto b.pays d:=hb1.trans ⟨fun z d d0 d1=>by rw[<-zaJ O'.pu O'.pn,<-zaJ O.pu O.pn];exact z d d0 d1,fun z d d0 d1=>by rw[zaJ O'.pu O'.pn,zaJ O.pu O.pn];exact z d d0 d1⟩
 nofun
 have B5:=B.same (t1.trans (t2.trans (t3.trans (t4))))
 refine ⟨a,A.dx,_,rfl,B5.ins,rfl,a,A,b,rfl,B5,fun q5 x5 nq5 r5 l5=>?_⟩
 have t5:=zc nq5 (.lst x5)
 have e5:=zk (.lst x5) nq5
 have R5:=r5.same t5
 generalize upd H4 q5 (.lst x5)=H5 at t5 e5 R5 ⊢
 nofun
 rename_i p6 w6 H6
 intro np6 t6 e6 R6
 nofun
 have C7:=C.same (t1.trans (t2.trans (t3.trans (t4.trans (t5.trans (t6))))))
 refine ⟨a',A'.dx,_,rfl,C7.ins,rfl,a',A',c,rfl,C7,fun q7 x7 nq7 r7 l7=>?_⟩
 have t7:=zc nq7 (.lst x7)
 have e7:=zk (.lst x7) nq7
 have R7:=r7.same t7
 generalize upd H6 q7 (.lst x7)=H7 at t7 e7 R7 ⊢
 nofun
 rename_i p8 w8 H8
 intro np8 t8 e8 R8
 nofun
 refine ⟨p6,p8,w6,w8,runs 0 b.fees,runs 0 c.fees,rfl,⟨(t7.trans t8) _ _ e6,R6.same (t7.trans t8),by rw[zcy];assumption,zeu F.fu,zes F.fn⟩,⟨e8,R8,by rw[zcy];assumption,zeu F'.fu,zes F'.fn⟩,fun b2 hb2=>?_⟩
 have k2:b2=true↔∀ d:Int,0<=d->d<=999999->upto b.fees d<=upto c.fees d:=hb2.trans ⟨fun z d d0 d1=>by rw[<-zaJ F.fu F.fn,<-zaJ F'.fu F'.fn];exact z d d0 d1,fun z d d0 d1=>by rw[zaJ F.fu F.fn,zaJ F'.fu F'.fn];exact z d d0 d1⟩
 nofun
 have B9:=B.same (t1.trans (t2.trans (t3.trans (t4.trans (t5.trans (t6.trans (t7.trans (t8))))))))
 refine ⟨a,A,b,rfl,B9,fun p9 w9 H9 np9 t9 e9 R9=>?_⟩
 nofun
 have C10:=C.same (t1.trans (t2.trans (t3.trans (t4.trans (t5.trans (t6.trans (t7.trans (t8.trans (t9)))))))))
 refine ⟨a',A',c,rfl,C10,fun p10 w10 H10 np10 t10 e10 R10=>?_⟩
 nofun
 refine ⟨p9,p10,w9,w10,runs 0 (shf b.g b.dues),runs 0 (shf c.g c.dues),rfl,⟨t10 _ _ e9,R9.same t10,by rw[zcy,znV];have:=O.sz;ac_rfl,zeu (zf7 O.du),zes (zgb O.g0 O.dn)⟩,⟨e10,R10,by rw[zcy,znV];have:=O'.sz;ac_rfl,zeu (zf7 O'.du),zes (zgb O'.g0 O'.dn)⟩,fun b3 hb3=>?_⟩
 have k3:b3=true↔∀ d:Int,0<=d->d<=999999->upto b.dues (d-b.g)<=upto c.dues (d-c.g):=hb3.trans ⟨fun z d d0 d1=>by rw[<-zbW,<-zbW,<-zaJ (zf7 O.du) (zgb O.g0 O.dn),<-zaJ (zf7 O'.du) (zgb O'.g0 O'.dn)];exact z d d0 d1,fun z d d0 d1=>by rw[zaJ (zf7 O.du) (zgb O.g0 O.dn),zaJ (zf7 O'.du) (zgb O'.g0 O'.dn),zbW,zbW];exact z d d0 d1⟩
 have sH:=t1.trans (t2.trans (t3.trans (t4.trans (t5.trans (t6.trans (t7.trans (t8.trans (t9.trans (t10)))))))))
 nofun
 cases b1 with
 | false=>exact ⟨sH,h false ⟨(fun z=>by cases z),fun z=>absurd (k1.mpr z.1) (by decide)⟩⟩
 | true =>
  nofun
  cases b2 with
  | false=>exact ⟨sH,h false ⟨(fun z=>by cases z),fun z=>absurd (k2.mpr z.2.1) (by decide)⟩⟩
  | true =>
   nofun
   exact h b3 ⟨fun z=>⟨k1.mp rfl,k2.mp rfl,k3.mp z⟩,fun z=>k3.mpr z.2.2⟩
def zhQ (K:W.Frag):Sp:=fun vs H Q _=>L2.Ee9 fun a dx c p kd g xs (es:List Er) G=>L2.zsG (vs=[.ref a,.ref c,.int g,.ref p]) (H a=some (.ins (cA K "Book") dx [])) ((G a=none/\Same G H)) (zcG K G c kd) ((0<=g/\g<=366)) (SqL K G p xs) (EL K G xs es) (es.length<=61) ((∀ e∈es,0<=e.2.1)) (∀ A (b:BkT) H',Same G H'->zaM K H' a A b->zbY b->b.kd=kd->b.g=g->b.es=es->Q .non H')
theorem zh5 {r l:List (Int × Int)} (T:Sby.Tab r l):r.length<=l.length:=by
 have:=zeR (Sby.zgl T.up) fun k hk=>(T.mem k).mp hk
 rw[yab,yab] at this
 exact this
theorem zlv:zo qay qay (zj zdA):=by walk_at "sp"
theorem znt (S:zA K (cA K "Book") "__init__" "Book.__init__" zdA qay) (T:Txt K mg) (zdX:Def P w K mg base 3 "check_terms" qaw (zf6 K)) (zbS:Def P w K mg base 2 "sum_by" qac (zhv K)) (zhj:Def P w K mg base 2 "days_of" qac (zju K)) (zcX:Def P w K mg base 2 "rate_table" qac (zgS K)) (zd4:Def P w K mg base 2 "still_spans" qbd (zf9 K)) (zec:Def P w K mg base 3 "fallen_dues" qax (zf4 K)):zJ P w K mg base 4 (cA K "Book") "__init__" qay (zhQ K):=by
 exists S.ok,zlv,0
 all_goals obtain ⟨a,dx,c,p,kd,g,xs,es,G,rfl,ea,⟨na,sG⟩,hc,hg,hp,hE,hl,e0,h⟩:=h
 ·rfl
 refine ⟨_,(zf (zb3 (zp zdX hr (za (pv 1) (za (pv 2) ze))))
  (zf (zH (zr zfp (zG zag rfl T.zbB PySem.boot_len (za (pv 3) ze)) (zeA T.zde) (nomark _))
   zdU
   zx)
  (zf (zbf T.zB T.zbe (pv 0) (pv 1))
  (zf (zbf T.zB T.za9 (pv 0) (pv 2))
  (zf (zbf T.zB T.zbL (pv 0) (zal zas rfl T.zbG PyProof.Rows.boot_list (za (pv 3) ze)))
  (zf (zbf T.zB T.zbs (pv 0) (zp zbS hr (za (pv 3) (za zt ze))))
  (zf (zbf T.zB T.zbr (pv 0) (zp zbS hr (za (pv 3) (za zt ze))))
  (zf (zbf T.zB T.zbv (pv 0) (zp zbS hr (za (pv 3) (za zt ze))))
  (zf (zbf T.zB T.zba (pv 0) (zp zhj hr (za (pv 3) (za zt ze))))
  (zf (zbf T.zB T.zbb (pv 0) (zp zcX hr (za (pv 3) (za zt ze))))
  (zf (zbf T.zB T.zbd (pv 0) (zp zcX hr (za (pv 3) (za zt ze))))
  (zf (zbf T.zB T.zbH (pv 0) (zp zd4 hr (za (pv 3) ze)))
  (zi (zbf T.zB T.zbE (pv 0) (zp zec hr (za (pv 3) (za (zbn T.zB T.zbH (pv 0)) ze))))))))))))))))),?_⟩
 have sz:=sizeLine_eq
 have xl:=hE.length
 have pl:∀ w,(prs w es).length<=61:=fun w=>yde zf0 hl
 nofun
 refine ⟨c,kd,g,rfl,hc.same sG,hg,?_⟩
 have hp0:=sG.seq hp
 nofun
 ·ac_rfl
 refine ⟨a,dx,[],rfl,ea,by decide,?_⟩
 rw[show zax ("own_count" : Str) (V.ref c) ([]:List (Str × V))=([("own_count", V.ref c)]:List (Str × V)) from rfl]
 nofun
 refine ⟨a,dx,_,rfl,zg,ydd (ycz 1) (by decide),?_⟩
 rw[show zax ("own_grace" : Str) (V.int g) ([("own_count", V.ref c)]:List (Str × V))=([("own_count", V.ref c),("own_grace", V.int g)]:List (Str × V)) from rfl]
 rw[zay]
 have e2:upd H a (.ins (cA K "Book") dx [("own_count", V.ref c),("own_grace", V.int g)]) a=some (.ins (cA K "Book") dx [("own_count", V.ref c),("own_grace", V.int g)]):=zg
 have s2:Same G (upd H a (.ins (cA K "Book") dx [("own_count", V.ref c),("own_grace", V.int g)])):=zab sG na
 generalize upd H a (.ins (cA K "Book") dx [("own_count", V.ref c),("own_grace", V.int g)])=H2 at e2 s2 ⊢
 nofun
 refine ⟨p,xs,rfl,.inl (s2.seq hp),fun q3 n3=>?_⟩
 have t3:=zc n3 (.lst xs)
 have z3:=zk (.lst xs) n3
 have c3:=t3 _ _ e2
 nofun
 refine ⟨a,dx,_,rfl,c3,ydd (ycz 2) (by decide),?_⟩
 rw[show zax ("own_entries" : Str) (V.ref q3) ([("own_count", V.ref c),("own_grace", V.int g)]:List (Str × V))=([("own_count", V.ref c),("own_grace", V.int g),("own_entries", V.ref q3)]:List (Str × V)) from rfl]
 have k3:Same (wo H2 a) (wo (upd (upd H2 q3 (.lst xs)) a (.ins (cA K "Book") dx [("own_count", V.ref c),("own_grace", V.int g),("own_entries", V.ref q3)])) a):=zb2 t3
 have s3:Same G (upd (upd H2 q3 (.lst xs)) a (.ins (cA K "Book") dx [("own_count", V.ref c),("own_grace", V.int g),("own_entries", V.ref q3)])):=zab (s2.trans t3) na
 have e3:(upd (upd H2 q3 (.lst xs)) a (.ins (cA K "Book") dx [("own_count", V.ref c),("own_grace", V.int g),("own_entries", V.ref q3)])) a=some (.ins (cA K "Book") dx [("own_count", V.ref c),("own_grace", V.int g),("own_entries", V.ref q3)]):=zg
 have L3:wo (upd (upd H2 q3 (.lst xs)) a (.ins (cA K "Book") dx [("own_count", V.ref c),("own_grace", V.int g),("own_entries", V.ref q3)])) a q3=some (.lst xs):=by rw[zck];exact zl4 z3 c3
 generalize upd (upd H2 q3 (.lst xs)) a (.ins (cA K "Book") dx [("own_count", V.ref c),("own_grace", V.int g),("own_entries", V.ref q3)])=H3 at k3 s3 e3 L3 ⊢
 nofun
 refine ⟨p,xs,es, "out", rfl,s3.seq hp,hE.same s3,hl,.inl rfl,fun q4 G4 w4 r4 n4 t4 z4 R4 T4=>?_⟩
 have c4:=t4 _ _ e3
 nofun
 refine ⟨a,dx,_,rfl,c4,ydd (ycz 3) (by decide),?_⟩
 rw[show zax ("out_sums" : Str) (V.ref q4) ([("own_count", V.ref c),("own_grace", V.int g),("own_entries", V.ref q3)]:List (Str × V))=([("own_count", V.ref c),("own_grace", V.int g),("own_entries", V.ref q3),("out_sums", V.ref q4)]:List (Str × V)) from rfl]
 have k4:Same (wo H3 a) (wo (upd G4 a (.ins (cA K "Book") dx [("own_count", V.ref c),("own_grace", V.int g),("own_entries", V.ref q3),("out_sums", V.ref q4)])) a):=zb2 t4
 have s4:Same G (upd G4 a (.ins (cA K "Book") dx [("own_count", V.ref c),("own_grace", V.int g),("own_entries", V.ref q3),("out_sums", V.ref q4)])):=zab (s3.trans t4) na
 have e4:(upd G4 a (.ins (cA K "Book") dx [("own_count", V.ref c),("own_grace", V.int g),("own_entries", V.ref q3),("out_sums", V.ref q4)])) a=some (.ins (cA K "Book") dx [("own_count", V.ref c),("own_grace", V.int g),("own_entries", V.ref q3),("out_sums", V.ref q4)]):=zg
 have L4:LP K (wo (upd G4 a (.ins (cA K "Book") dx [("own_count", V.ref c),("own_grace", V.int g),("own_entries", V.ref q3),("out_sums", V.ref q4)])) a) q4 r4:=by rw[zck];exact LP.wo ⟨w4,z4,R4,(by have:=zh5 T4;have:=pl "out";ac_rfl)⟩ c4
 generalize upd G4 a (.ins (cA K "Book") dx [("own_count", V.ref c),("own_grace", V.int g),("own_entries", V.ref q3),("out_sums", V.ref q4)])=H4 at k4 s4 e4 L4 ⊢
 nofun
 refine ⟨p,xs,es, "fee", rfl,s4.seq hp,hE.same s4,hl,.inr (.inl rfl),fun q5 G5 w5 r5 n5 t5 z5 R5 T5=>?_⟩
 have c5:=t5 _ _ e4
 nofun
 refine ⟨a,dx,_,rfl,c5,ydd (ycz 4) (by decide),?_⟩
 rw[show zax ("fee_sums" : Str) (V.ref q5) ([("own_count", V.ref c),("own_grace", V.int g),("own_entries", V.ref q3),("out_sums", V.ref q4)]:List (Str × V))=([("own_count", V.ref c),("own_grace", V.int g),("own_entries", V.ref q3),("out_sums", V.ref q4),("fee_sums", V.ref q5)]:List (Str × V)) from rfl]
 have k5:Same (wo H4 a) (wo (upd G5 a (.ins (cA K "Book") dx [("own_count", V.ref c),("own_grace", V.int g),("own_entries", V.ref q3),("out_sums", V.ref q4),("fee_sums", V.ref q5)])) a):=zb2 t5
 have s5:Same G (upd G5 a (.ins (cA K "Book") dx [("own_count", V.ref c),("own_grace", V.int g),("own_entries", V.ref q3),("out_sums", V.ref q4),("fee_sums", V.ref q5)])):=zab (s4.trans t5) na
 have e5:(upd G5 a (.ins (cA K "Book") dx [("own_count", V.ref c),("own_grace", V.int g),("own_entries", V.ref q3),("out_sums", V.ref q4),("fee_sums", V.ref q5)])) a=some (.ins (cA K "Book") dx [("own_count", V.ref c),("own_grace", V.int g),("own_entries", V.ref q3),("out_sums", V.ref q4),("fee_sums", V.ref q5)]):=zg
 have L5:LP K (wo (upd G5 a (.ins (cA K "Book") dx [("own_count", V.ref c),("own_grace", V.int g),("own_entries", V.ref q3),("out_sums", V.ref q4),("fee_sums", V.ref q5)])) a) q5 r5:=by rw[zck];exact LP.wo ⟨w5,z5,R5,(by have:=zh5 T5;have:=pl "fee";ac_rfl)⟩ c5
 generalize upd G5 a (.ins (cA K "Book") dx [("own_count", V.ref c),("own_grace", V.int g),("own_entries", V.ref q3),("out_sums", V.ref q4),("fee_sums", V.ref q5)])=H5 at k5 s5 e5 L5 ⊢
 nofun
 refine ⟨p,xs,es, "pay", rfl,s5.seq hp,hE.same s5,hl,.inr (.inr (.inl rfl)),fun q6 G6 w6 r6 n6 t6 z6 R6 T6=>?_⟩
 have c6:=t6 _ _ e5
 nofun
 refine ⟨a,dx,_,rfl,c6,ydd (ycz 5) (by decide),?_⟩
 rw[show zax ("pay_sums" : Str) (V.ref q6) ([("own_count", V.ref c),("own_grace", V.int g),("own_entries", V.ref q3),("out_sums", V.ref q4),("fee_sums", V.ref q5)]:List (Str × V))=([("own_count", V.ref c),("own_grace", V.int g),("own_entries", V.ref q3),("out_sums", V.ref q4),("fee_sums", V.ref q5),("pay_sums", V.ref q6)]:List (Str × V)) from rfl]
 have k6:Same (wo H5 a) (wo (upd G6 a (.ins (cA K "Book") dx [("own_count", V.ref c),("own_grace", V.int g),("own_entries", V.ref q3),("out_sums", V.ref q4),("fee_sums", V.ref q5),("pay_sums", V.ref q6)])) a):=zb2 t6
 have s6:Same G (upd G6 a (.ins (cA K "Book") dx [("own_count", V.ref c),("own_grace", V.int g),("own_entries", V.ref q3),("out_sums", V.ref q4),("fee_sums", V.ref q5),("pay_sums", V.ref q6)])):=zab (s5.trans t6) na
 have e6:(upd G6 a (.ins (cA K "Book") dx [("own_count", V.ref c),("own_grace", V.int g),("own_entries", V.ref q3),("out_sums", V.ref q4),("fee_sums", V.ref q5),("pay_sums", V.ref q6)])) a=some (.ins (cA K "Book") dx [("own_count", V.ref c),("own_grace", V.int g),("own_entries", V.ref q3),("out_sums", V.ref q4),("fee_sums", V.ref q5),("pay_sums", V.ref q6)]):=zg
 have L6:LP K (wo (upd G6 a (.ins (cA K "Book") dx [("own_count", V.ref c),("own_grace", V.int g),("own_entries", V.ref q3),("out_sums", V.ref q4),("fee_sums", V.ref q5),("pay_sums", V.ref q6)])) a) q6 r6:=by rw[zck];exact LP.wo ⟨w6,z6,R6,(by have:=zh5 T6;have:=pl "pay";ac_rfl)⟩ c6
 generalize upd G6 a (.ins (cA K "Book") dx [("own_count", V.ref c),("own_grace", V.int g),("own_entries", V.ref q3),("out_sums", V.ref q4),("fee_sums", V.ref q5),("pay_sums", V.ref q6)])=H6 at k6 s6 e6 L6 ⊢
 nofun
 refine ⟨p,xs,es, "turn", rfl,s6.seq hp,hE.same s6,hl,fun q7 G7 r7 n7 t7 z7 T7=>?_⟩
 have c7:=t7 _ _ e6
 nofun
 refine ⟨a,dx,_,rfl,c7,ydd (ycz 6) (by decide),?_⟩
 rw[show zax ("turn_days" : Str) (V.ref q7) ([("own_count", V.ref c),("own_grace", V.int g),("own_entries", V.ref q3),("out_sums", V.ref q4),("fee_sums", V.ref q5),("pay_sums", V.ref q6)]:List (Str × V))=([("own_count", V.ref c),("own_grace", V.int g),("own_entries", V.ref q3),("out_sums", V.ref q4),("fee_sums", V.ref q5),("pay_sums", V.ref q6),("turn_days", V.ref q7)]:List (Str × V)) from rfl]
 have k7:Same (wo H6 a) (wo (upd G7 a (.ins (cA K "Book") dx [("own_count", V.ref c),("own_grace", V.int g),("own_entries", V.ref q3),("out_sums", V.ref q4),("fee_sums", V.ref q5),("pay_sums", V.ref q6),("turn_days", V.ref q7)])) a):=zb2 t7
 have s7:Same G (upd G7 a (.ins (cA K "Book") dx [("own_count", V.ref c),("own_grace", V.int g),("own_entries", V.ref q3),("out_sums", V.ref q4),("fee_sums", V.ref q5),("pay_sums", V.ref q6),("turn_days", V.ref q7)])):=zab (s6.trans t7) na
 have e7:(upd G7 a (.ins (cA K "Book") dx [("own_count", V.ref c),("own_grace", V.int g),("own_entries", V.ref q3),("out_sums", V.ref q4),("fee_sums", V.ref q5),("pay_sums", V.ref q6),("turn_days", V.ref q7)])) a=some (.ins (cA K "Book") dx [("own_count", V.ref c),("own_grace", V.int g),("own_entries", V.ref q3),("out_sums", V.ref q4),("fee_sums", V.ref q5),("pay_sums", V.ref q6),("turn_days", V.ref q7)]):=zg
 have L7:wo (upd G7 a (.ins (cA K "Book") dx [("own_count", V.ref c),("own_grace", V.int g),("own_entries", V.ref q3),("out_sums", V.ref q4),("fee_sums", V.ref q5),("pay_sums", V.ref q6),("turn_days", V.ref q7)])) a q7=some (.lst (r7.map V.int)):=by rw[zck];exact zl4 z7 c7
 generalize upd G7 a (.ins (cA K "Book") dx [("own_count", V.ref c),("own_grace", V.int g),("own_entries", V.ref q3),("out_sums", V.ref q4),("fee_sums", V.ref q5),("pay_sums", V.ref q6),("turn_days", V.ref q7)])=H7 at k7 s7 e7 L7 ⊢
 nofun
 refine ⟨p,xs,es, "rate", rfl,s7.seq hp,hE.same s7,hl,.inl rfl,e0,fun q8 G8 w8 r8 n8 t8 z8 R8 T8 T8' y8=>?_⟩
 have c8:=t8 _ _ e7
 nofun
 refine ⟨a,dx,_,rfl,c8,ydd (ycz 7) (by decide),?_⟩
 rw[show zax ("rate_rows" : Str) (V.ref q8) ([("own_count", V.ref c),("own_grace", V.int g),("own_entries", V.ref q3),("out_sums", V.ref q4),("fee_sums", V.ref q5),("pay_sums", V.ref q6),("turn_days", V.ref q7)]:List (Str × V))=([("own_count", V.ref c),("own_grace", V.int g),("own_entries", V.ref q3),("out_sums", V.ref q4),("fee_sums", V.ref q5),("pay_sums", V.ref q6),("turn_days", V.ref q7),("rate_rows", V.ref q8)]:List (Str × V)) from rfl]
 have k8:Same (wo H7 a) (wo (upd G8 a (.ins (cA K "Book") dx [("own_count", V.ref c),("own_grace", V.int g),("own_entries", V.ref q3),("out_sums", V.ref q4),("fee_sums", V.ref q5),("pay_sums", V.ref q6),("turn_days", V.ref q7),("rate_rows", V.ref q8)])) a):=zb2 t8
 have s8:Same G (upd G8 a (.ins (cA K "Book") dx [("own_count", V.ref c),("own_grace", V.int g),("own_entries", V.ref q3),("out_sums", V.ref q4),("fee_sums", V.ref q5),("pay_sums", V.ref q6),("turn_days", V.ref q7),("rate_rows", V.ref q8)])):=zab (s7.trans t8) na
 have e8:(upd G8 a (.ins (cA K "Book") dx [("own_count", V.ref c),("own_grace", V.int g),("own_entries", V.ref q3),("out_sums", V.ref q4),("fee_sums", V.ref q5),("pay_sums", V.ref q6),("turn_days", V.ref q7),("rate_rows", V.ref q8)])) a=some (.ins (cA K "Book") dx [("own_count", V.ref c),("own_grace", V.int g),("own_entries", V.ref q3),("out_sums", V.ref q4),("fee_sums", V.ref q5),("pay_sums", V.ref q6),("turn_days", V.ref q7),("rate_rows", V.ref q8)]):=zg
 have L8:LP K (wo (upd G8 a (.ins (cA K "Book") dx [("own_count", V.ref c),("own_grace", V.int g),("own_entries", V.ref q3),("out_sums", V.ref q4),("fee_sums", V.ref q5),("pay_sums", V.ref q6),("turn_days", V.ref q7),("rate_rows", V.ref q8)])) a) q8 r8:=by rw[zck];exact LP.wo ⟨w8,z8,R8,(by ac_rfl)⟩ c8
 generalize upd G8 a (.ins (cA K "Book") dx [("own_count", V.ref c),("own_grace", V.int g),("own_entries", V.ref q3),("out_sums", V.ref q4),("fee_sums", V.ref q5),("pay_sums", V.ref q6),("turn_days", V.ref q7),("rate_rows", V.ref q8)])=H8 at k8 s8 e8 L8 ⊢
 nofun
 refine ⟨p,xs,es, "late", rfl,s8.seq hp,hE.same s8,hl,.inr rfl,e0,fun q9 G9 w9 r9 n9 t9 z9 R9 T9 T9' y9=>?_⟩
 have c9:=t9 _ _ e8
 nofun
 refine ⟨a,dx,_,rfl,c9,ydd (ycz 8) (by decide),?_⟩
 rw[show zax ("late_rows" : Str) (V.ref q9) ([("own_count", V.ref c),("own_grace", V.int g),("own_entries", V.ref q3),("out_sums", V.ref q4),("fee_sums", V.ref q5),("pay_sums", V.ref q6),("turn_days", V.ref q7),("rate_rows", V.ref q8)]:List (Str × V))=([("own_count", V.ref c),("own_grace", V.int g),("own_entries", V.ref q3),("out_sums", V.ref q4),("fee_sums", V.ref q5),("pay_sums", V.ref q6),("turn_days", V.ref q7),("rate_rows", V.ref q8),("late_rows", V.ref q9)]:List (Str × V)) from rfl]
 have k9:Same (wo H8 a) (wo (upd G9 a (.ins (cA K "Book") dx [("own_count", V.ref c),("own_grace", V.int g),("own_entries", V.ref q3),("out_sums", V.ref q4),("fee_sums", V.ref q5),("pay_sums", V.ref q6),("turn_days", V.ref q7),("rate_rows", V.ref q8),("late_rows", V.ref q9)])) a):=zb2 t9
 have s9:Same G (upd G9 a (.ins (cA K "Book") dx [("own_count", V.ref c),("own_grace", V.int g),("own_entries", V.ref q3),("out_sums", V.ref q4),("fee_sums", V.ref q5),("pay_sums", V.ref q6),("turn_days", V.ref q7),("rate_rows", V.ref q8),("late_rows", V.ref q9)])):=zab (s8.trans t9) na
 have e9:(upd G9 a (.ins (cA K "Book") dx [("own_count", V.ref c),("own_grace", V.int g),("own_entries", V.ref q3),("out_sums", V.ref q4),("fee_sums", V.ref q5),("pay_sums", V.ref q6),("turn_days", V.ref q7),("rate_rows", V.ref q8),("late_rows", V.ref q9)])) a=some (.ins (cA K "Book") dx [("own_count", V.ref c),("own_grace", V.int g),("own_entries", V.ref q3),("out_sums", V.ref q4),("fee_sums", V.ref q5),("pay_sums", V.ref q6),("turn_days", V.ref q7),("rate_rows", V.ref q8),("late_rows", V.ref q9)]):=zg
 have L9:LP K (wo (upd G9 a (.ins (cA K "Book") dx [("own_count", V.ref c),("own_grace", V.int g),("own_entries", V.ref q3),("out_sums", V.ref q4),("fee_sums", V.ref q5),("pay_sums", V.ref q6),("turn_days", V.ref q7),("rate_rows", V.ref q8),("late_rows", V.ref q9)])) a) q9 r9:=by rw[zck];exact LP.wo ⟨w9,z9,R9,(by ac_rfl)⟩ c9
 generalize upd G9 a (.ins (cA K "Book") dx [("own_count", V.ref c),("own_grace", V.int g),("own_entries", V.ref q3),("out_sums", V.ref q4),("fee_sums", V.ref q5),("pay_sums", V.ref q6),("turn_days", V.ref q7),("rate_rows", V.ref q8),("late_rows", V.ref q9)])=H9 at k9 s9 e9 L9 ⊢
 nofun
 refine ⟨p,xs,es,rfl,s9.seq hp,hE.same s9,hl,fun q10 G10 w10 r10 n10 t10 z10 R10 J10 V10 y10=>?_⟩
 have c10:=t10 _ _ e9
 nofun
 refine ⟨a,dx,_,rfl,c10,ydd (ycz 9) (by decide),?_⟩
 rw[show zax ("spans" : Str) (V.ref q10) ([("own_count", V.ref c),("own_grace", V.int g),("own_entries", V.ref q3),("out_sums", V.ref q4),("fee_sums", V.ref q5),("pay_sums", V.ref q6),("turn_days", V.ref q7),("rate_rows", V.ref q8),("late_rows", V.ref q9)]:List (Str × V))=([("own_count", V.ref c),("own_grace", V.int g),("own_entries", V.ref q3),("out_sums", V.ref q4),("fee_sums", V.ref q5),("pay_sums", V.ref q6),("turn_days", V.ref q7),("rate_rows", V.ref q8),("late_rows", V.ref q9),("spans", V.ref q10)]:List (Str × V)) from rfl]
 have k10:Same (wo H9 a) (wo (upd G10 a (.ins (cA K "Book") dx [("own_count", V.ref c),("own_grace", V.int g),("own_entries", V.ref q3),("out_sums", V.ref q4),("fee_sums", V.ref q5),("pay_sums", V.ref q6),("turn_days", V.ref q7),("rate_rows", V.ref q8),("late_rows", V.ref q9),("spans", V.ref q10)])) a):=zb2 t10
 have s10:Same G (upd G10 a (.ins (cA K "Book") dx [("own_count", V.ref c),("own_grace", V.int g),("own_entries", V.ref q3),("out_sums", V.ref q4),("fee_sums", V.ref q5),("pay_sums", V.ref q6),("turn_days", V.ref q7),("rate_rows", V.ref q8),("late_rows", V.ref q9),("spans", V.ref q10)])):=zab (s9.trans t10) na
 have e10:(upd G10 a (.ins (cA K "Book") dx [("own_count", V.ref c),("own_grace", V.int g),("own_entries", V.ref q3),("out_sums", V.ref q4),("fee_sums", V.ref q5),("pay_sums", V.ref q6),("turn_days", V.ref q7),("rate_rows", V.ref q8),("late_rows", V.ref q9),("spans", V.ref q10)])) a=some (.ins (cA K "Book") dx [("own_count", V.ref c),("own_grace", V.int g),("own_entries", V.ref q3),("out_sums", V.ref q4),("fee_sums", V.ref q5),("pay_sums", V.ref q6),("turn_days", V.ref q7),("rate_rows", V.ref q8),("late_rows", V.ref q9),("spans", V.ref q10)]):=zg
 have L10:LP K (wo (upd G10 a (.ins (cA K "Book") dx [("own_count", V.ref c),("own_grace", V.int g),("own_entries", V.ref q3),("out_sums", V.ref q4),("fee_sums", V.ref q5),("pay_sums", V.ref q6),("turn_days", V.ref q7),("rate_rows", V.ref q8),("late_rows", V.ref q9),("spans", V.ref q10)])) a) q10 r10:=by rw[zck];exact LP.wo ⟨w10,z10,R10,(by ac_rfl)⟩ c10
 generalize upd G10 a (.ins (cA K "Book") dx [("own_count", V.ref c),("own_grace", V.int g),("own_entries", V.ref q3),("out_sums", V.ref q4),("fee_sums", V.ref q5),("pay_sums", V.ref q6),("turn_days", V.ref q7),("rate_rows", V.ref q8),("late_rows", V.ref q9),("spans", V.ref q10)])=H10 at k10 s10 e10 L10 ⊢
 nofun
 refine ⟨a,dx,_,_,rfl,e10,rfl,?_⟩
 nofun
 obtain ⟨w10',z10',R10',_⟩:=L10.same zbI
 refine ⟨p,q10,xs,w10',es,r10,rfl,s10.seq hp,hE.same s10,hl,⟨SqL.of z10',R10',J10⟩,fun q11 G11 w11 r11 n11 t11 z11 R11 T11=>?_⟩
 rw[zrF V10] at T11
 have c11:=t11 _ _ e10
 nofun
 refine ⟨a,dx,_,rfl,c11,ydd (ycz 10) (by decide),?_⟩
 rw[show zax ("due_sums" : Str) (V.ref q11) ([("own_count", V.ref c),("own_grace", V.int g),("own_entries", V.ref q3),("out_sums", V.ref q4),("fee_sums", V.ref q5),("pay_sums", V.ref q6),("turn_days", V.ref q7),("rate_rows", V.ref q8),("late_rows", V.ref q9),("spans", V.ref q10)]:List (Str × V))=([("own_count", V.ref c),("own_grace", V.int g),("own_entries", V.ref q3),("out_sums", V.ref q4),("fee_sums", V.ref q5),("pay_sums", V.ref q6),("turn_days", V.ref q7),("rate_rows", V.ref q8),("late_rows", V.ref q9),("spans", V.ref q10),("due_sums", V.ref q11)]:List (Str × V)) from rfl]
 have k11:Same (wo H10 a) (wo (upd G11 a (.ins (cA K "Book") dx [("own_count", V.ref c),("own_grace", V.int g),("own_entries", V.ref q3),("out_sums", V.ref q4),("fee_sums", V.ref q5),("pay_sums", V.ref q6),("turn_days", V.ref q7),("rate_rows", V.ref q8),("late_rows", V.ref q9),("spans", V.ref q10),("due_sums", V.ref q11)])) a):=zb2 t11
 have s11:Same G (upd G11 a (.ins (cA K "Book") dx [("own_count", V.ref c),("own_grace", V.int g),("own_entries", V.ref q3),("out_sums", V.ref q4),("fee_sums", V.ref q5),("pay_sums", V.ref q6),("turn_days", V.ref q7),("rate_rows", V.ref q8),("late_rows", V.ref q9),("spans", V.ref q10),("due_sums", V.ref q11)])):=zab (s10.trans t11) na
 have e11:(upd G11 a (.ins (cA K "Book") dx [("own_count", V.ref c),("own_grace", V.int g),("own_entries", V.ref q3),("out_sums", V.ref q4),("fee_sums", V.ref q5),("pay_sums", V.ref q6),("turn_days", V.ref q7),("rate_rows", V.ref q8),("late_rows", V.ref q9),("spans", V.ref q10),("due_sums", V.ref q11)])) a=some (.ins (cA K "Book") dx [("own_count", V.ref c),("own_grace", V.int g),("own_entries", V.ref q3),("out_sums", V.ref q4),("fee_sums", V.ref q5),("pay_sums", V.ref q6),("turn_days", V.ref q7),("rate_rows", V.ref q8),("late_rows", V.ref q9),("spans", V.ref q10),("due_sums", V.ref q11)]):=zg
 have L11:LP K (wo (upd G11 a (.ins (cA K "Book") dx [("own_count", V.ref c),("own_grace", V.int g),("own_entries", V.ref q3),("out_sums", V.ref q4),("fee_sums", V.ref q5),("pay_sums", V.ref q6),("turn_days", V.ref q7),("rate_rows", V.ref q8),("late_rows", V.ref q9),("spans", V.ref q10),("due_sums", V.ref q11)])) a) q11 r11:=by rw[zck];exact LP.wo ⟨w11,z11,R11,(by have:=zh5 T11;have:(mvp (mvd (prs "still" es)) (prs "due" es)).length=(prs "due" es).length:=yab ..;have:=pl "due";ac_rfl)⟩ c11
 generalize upd G11 a (.ins (cA K "Book") dx [("own_count", V.ref c),("own_grace", V.int g),("own_entries", V.ref q3),("out_sums", V.ref q4),("fee_sums", V.ref q5),("pay_sums", V.ref q6),("turn_days", V.ref q7),("rate_rows", V.ref q8),("late_rows", V.ref q9),("spans", V.ref q10),("due_sums", V.ref q11)])=H11 at k11 s11 e11 L11 ⊢
 nofun
 refine h ⟨dx,c,q3,q4,q5,q6,q7,q8,q9,q10,q11⟩ ⟨kd,g,es,r4,r5,r6,r7,r8,r9,r10,r11⟩ H11 s11 ⟨e11,hc.same s11,⟨xs,(k4.trans (k5.trans (k6.trans (k7.trans (k8.trans (k9.trans (k10.trans (k11.trans zbI)))))))) _ _ L3,hE.same s11⟩,L4.same (k5.trans (k6.trans (k7.trans (k8.trans (k9.trans (k10.trans (k11.trans zbI))))))),L5.same (k6.trans (k7.trans (k8.trans (k9.trans (k10.trans (k11.trans zbI)))))),L6.same (k7.trans (k8.trans (k9.trans (k10.trans (k11.trans zbI))))),(k8.trans (k9.trans (k10.trans (k11.trans zbI)))) _ _ L7,L8.same (k9.trans (k10.trans (k11.trans zbI))),L9.same (k10.trans (k11.trans zbI)),L10.same (k11.trans zbI),L11.same zbI⟩ ⟨T4,T5,T6,T7,⟨T8,T8'⟩,⟨T9,T9'⟩,⟨J10,V10⟩,T11⟩ rfl rfl rfl
def zg3 (K:W.Frag):Sp:=fun vs H Q _=>L2.Ee4 fun r k d x=>L2.Aa4 (vs=[.ref r]) (H r=some (.tup (zcK k d x))) (k≠.base) (∀ a dx H',Same H H'->H a=none->zh3 K H' a dx k d x->Q (.ref a) H')
theorem zcn:zo ["_law_spec_here", "_law_word", "_law_day", "_law_thing"] qbg (zj zc2):=by walk_at "sp"
theorem zmf (S:Src K mg "_law_entry" zc2 qbg) (T:Txt K mg) (zgw:zJ P w K mg base 2 (cA K "Out") "__init__" qae (zaA K)) (zgz:zJ P w K mg base 2 (cA K "Pay") "__init__" qae (zaA K)) (zgt:zJ P w K mg base 2 (cA K "Due") "__init__" qae (zaA K)) (zgR:zJ P w K mg base 2 (cA K "Fee") "__init__" qae (zaA K)) (zfV:zJ P w K mg base 2 (cA K "Rate") "__init__" qam (zcf K)) (zfB:zJ P w K mg base 2 (cA K "Late") "__init__" qam (zcf K)) (zeG:zJ P w K mg base 2 (cA K "Still") "__init__" qau (zg0 K)) (zfs:zJ P w K mg base 1 (cA K "Turn") "__init__" qag (zaZ K)):Def P w K mg base 4 "_law_entry" qbg (zg3 K):=by
 exists S.ok,zcn,0
 all_goals obtain ⟨r,k,d,x,rfl,e,h2,h⟩:=h
 ·rfl
 refine ⟨_,(zf (zjv (pv 0) (zmP rfl (zbC (zar (i:=1) zcn.nd rfl (by walk_at "lc")) (zbC (zar (i:=2) zcn.nd rfl (by walk_at "lc")) (zbC (zar (i:=3) zcn.nd rfl (by walk_at "lc")) zjW)))))
  (zf (zH (zr zQ (pv 1) zt (nomark _))
  (zi (zl (zbA T.zmK zgw hr T.zox (za (pv 2) (za (pv 3) ze)))))
   zx)
  (zf (zH (zr zQ (pv 1) zt (nomark _))
  (zi (zl (zbA T.zl9 zgz hr T.zor (za (pv 2) (za (pv 3) ze)))))
   zx)
  (zf (zH (zr zQ (pv 1) zt (nomark _))
  (zi (zl (zbA T.zmA zgt hr T.zoS (za (pv 2) (za (pv 3) ze)))))
   zx)
  (zf (zH (zr zQ (pv 1) zt (nomark _))
  (zi (zl (zbA T.zl0 zgR hr T.zoH (za (pv 2) (za (pv 3) ze)))))
   zx)
  (zf (zH (zr zQ (pv 1) zt (nomark _))
  (zi (zl (zbA T.zjL zfV hr T.zmV (za (pv 2) (za (pv 3) ze)))))
   zx)
  (zf (zH (zr zQ (pv 1) zt (nomark _))
  (zi (zl (zbA T.zj5 zfB hr T.zmD (za (pv 2) (za (pv 3) ze)))))
   zx)
  (zf (zH (zr zQ (pv 1) zt (nomark _))
  (zi (zl (zbA T.ziF zeG hr T.zkb (za (pv 2) (za (pv 3) ze)))))
   zx)
  (zi (zl (zbA T.zkf zfs hr T.zlO (za (pv 2) ze)))))))))))),?_⟩
 cases k with
 | base=>exact absurd rfl h2
 | turn =>
  dsimp only [zcK,Ek.word] at e
  nofun
  refine ⟨r,_,rfl,SqT.of e,rfl,?_⟩
  nofun
  intro a dx na nd ne
  refine ⟨a,_,dx,[],d,rfl,zg,T.clE .turn,T.zaP .turn,by decide,rfl,?_⟩
  rw[zay]
  exact h a dx _ ((zc nd _).trans (zc (by rw[zv ne.symm];exact na) _)) na zg
 | out =>
  dsimp only [zcK,Ek.word] at e
  nofun
  refine ⟨r,_,rfl,SqT.of e,rfl,?_⟩
  nofun
  intro a dx na nd ne
  refine ⟨a,_,dx,d,x,rfl,zg,T.clE .out,T.zaP .out,T.zcI .out,rfl,?_⟩
  rw[zay]
  nofun
  exact h a dx _ ((zc nd _).trans (zc (by rw[zv ne.symm];exact na) _)) na zg
 | fee =>
  dsimp only [zcK,Ek.word] at e
  nofun
  refine ⟨r,_,rfl,SqT.of e,rfl,?_⟩
  nofun
  intro a dx na nd ne
  refine ⟨a,_,dx,d,x,rfl,zg,T.clE .fee,T.zaP .fee,T.zcI .fee,rfl,?_⟩
  rw[zay]
  nofun
  exact h a dx _ ((zc nd _).trans (zc (by rw[zv ne.symm];exact na) _)) na zg
 | pay =>
  dsimp only [zcK,Ek.word] at e
  nofun
  refine ⟨r,_,rfl,SqT.of e,rfl,?_⟩
  nofun
  intro a dx na nd ne
  refine ⟨a,_,dx,d,x,rfl,zg,T.clE .pay,T.zaP .pay,T.zcI .pay,rfl,?_⟩
  rw[zay]
  nofun
  exact h a dx _ ((zc nd _).trans (zc (by rw[zv ne.symm];exact na) _)) na zg
 | due =>
  dsimp only [zcK,Ek.word] at e
  nofun
  refine ⟨r,_,rfl,SqT.of e,rfl,?_⟩
  nofun
  intro a dx na nd ne
  refine ⟨a,_,dx,d,x,rfl,zg,T.clE .due,T.zaP .due,T.zcI .due,rfl,?_⟩
  rw[zay]
  nofun
  exact h a dx _ ((zc nd _).trans (zc (by rw[zv ne.symm];exact na) _)) na zg
 | rate =>
  dsimp only [zcK,Ek.word] at e
  nofun
  refine ⟨r,_,rfl,SqT.of e,rfl,?_⟩
  nofun
  intro a dx na nd ne
  refine ⟨a,_,dx,d,x,rfl,zg,T.clE .rate,T.zaP .rate,T.zi2 .rate,rfl,?_⟩
  rw[zay]
  nofun
  exact h a dx _ ((zc nd _).trans (zc (by rw[zv ne.symm];exact na) _)) na zg
 | late =>
  dsimp only [zcK,Ek.word] at e
  nofun
  refine ⟨r,_,rfl,SqT.of e,rfl,?_⟩
  nofun
  intro a dx na nd ne
  refine ⟨a,_,dx,d,x,rfl,zg,T.clE .late,T.zaP .late,T.zi2 .late,rfl,?_⟩
  rw[zay]
  nofun
  exact h a dx _ ((zc nd _).trans (zc (by rw[zv ne.symm];exact na) _)) na zg
 | still =>
  dsimp only [zcK,Ek.word] at e
  nofun
  refine ⟨r,_,rfl,SqT.of e,rfl,?_⟩
  nofun
  intro a dx na nd ne
  refine ⟨a,_,dx,d,x,rfl,zg,T.clE .still,T.zaP .still,T.zhw .still,rfl,?_⟩
  rw[zay]
  nofun
  exact h a dx _ ((zc nd _).trans (zc (by rw[zv ne.symm];exact na) _)) na zg
def zcC (K:W.Frag):Sp:=fun vs H Q _=>L2.Ee6 fun a A (b:BkT) a' A' (c:BkT)=>L2.Aa4 (vs=[.ref a,.ref a']) ((zaM K H a A b/\BOk b)) ((zaM K H a' A' c/\BOk c)) (∀ v:Bool,(v=true↔(∀ d:Int,0<=d->d<=999999->chv b.rates b.spans d<=chv c.rates c.spans d)/\∀ d:Int,0<=d->d<=999999->chv b.lates b.spans d<=chv c.lates c.spans d)->Q (.bl v) H)
theorem zbl:zo ["one", "other", "rates", "lates"] qab (zj zaN):=by walk_at "sp"
theorem zgO (S:Src K mg "is_charged_no_more" zaN qab) (T:Txt K mg) (zaf:Def P w K mg base 3 "is_never_above" qab (zcd K)) (zca:Def P w K mg base 4 "charging" qbf (zij K)) (zaY:zJ P w K mg base 1 (cA K "Book") "stills" qaa (zf2 K)) (zcT:zJ P w K mg base 1 (cA K "Book") "rates" qaa (zgX K)) (zcN:zJ P w K mg base 1 (cA K "Book") "lates" qaa (zg5 K)):Def P w K mg base 5 "is_charged_no_more" qab (zcC K):=by
 exists S.okF,zbl,0
 all_goals obtain ⟨a,A,b,a',A',c,rfl,⟨B,O⟩,⟨C,O'⟩,h⟩:=h
 ·rfl
 refine ⟨_,(zf (zq (i:=2) zbl.nd rfl (by walk_at "lc") (zp zaf hr (za (zp zca hr (za (zW zcT T.zB hr (pv 0)) (za (zW zaY T.zB hr (pv 0)) ze))) (za (zp zca hr (za (zW zcT T.zB hr (pv 1)) (za (zW zaY T.zB hr (pv 1)) ze))) ze))))
  (zf (zq (i:=3) zbl.nd rfl (by walk_at "lc") (zp zaf hr (za (zp zca hr (za (zW zcN T.zB hr (pv 0)) (za (zW zaY T.zB hr (pv 0)) ze))) (za (zp zca hr (za (zW zcN T.zB hr (pv 1)) (za (zW zaY T.zB hr (pv 1)) ze))) ze))))
  (zi (zl (zbQ (pv 2) (zbP (pv 3))))))),?_⟩
 have sz:=sizeLine_eq
 nofun
 have B1:=B.same (Same.refl _)
 refine ⟨a,A.dx,_,rfl,B1.ins,rfl,a,A,b,rfl,B1,fun q1 x1 nq1 r1 l1=>?_⟩
 have t1:=zc nq1 (.lst x1)
 have e1:=zk (.lst x1) nq1
 have R1:=r1.same t1
 generalize upd H q1 (.lst x1)=H1 at t1 e1 R1 ⊢
 nofun
 have B2:=B.same (t1)
 refine ⟨a,A.dx,_,rfl,B2.ins,rfl,a,A,b,rfl,B2,fun q2 x2 nq2 r2 l2=>?_⟩
 have t2:=zc nq2 (.lst x2)
 have e2:=zk (.lst x2) nq2
 have R2:=r2.same t2
 generalize upd H1 q2 (.lst x2)=H2 at t2 e2 R2 ⊢
 nofun
 refine ⟨q1,q2,x1,x2,b.rates,b.spans,rfl,⟨t2 _ _ e1,R1.same t2,O.ru,fun s hs=>(O.rn s hs).1⟩,⟨e2,R2,O.jn⟩,by have:=O.sz;ac_rfl,fun p3 w3 v3 H3 np3 t3 e3 R3 l3 up3 nn3 vv3=>?_⟩
 nofun
 have C4:=C.same (t1.trans (t2.trans (t3)))
 refine ⟨a',A'.dx,_,rfl,C4.ins,rfl,a',A',c,rfl,C4,fun q4 x4 nq4 r4 l4=>?_⟩
 have t4:=zc nq4 (.lst x4)
 have e4:=zk (.lst x4) nq4
 have R4:=r4.same t4
 generalize upd H3 q4 (.lst x4)=H4 at t4 e4 R4 ⊢
 nofun
 have C5:=C.same (t1.trans (t2.trans (t3.trans (t4))))
 refine ⟨a',A'.dx,_,rfl,C5.ins,rfl,a',A',c,rfl,C5,fun q5 x5 nq5 r5 l5=>?_⟩
 have t5:=zc nq5 (.lst x5)
 have e5:=zk (.lst x5) nq5
 have R5:=r5.same t5
 generalize upd H4 q5 (.lst x5)=H5 at t5 e5 R5 ⊢
 nofun
 refine ⟨q4,q5,x4,x5,c.rates,c.spans,rfl,⟨t5 _ _ e4,R4.same t5,O'.ru,fun s hs=>(O'.rn s hs).1⟩,⟨e5,R5,O'.jn⟩,by have:=O'.sz;ac_rfl,fun p6 w6 v6 H6 np6 t6 e6 R6 l6 up6 nn6 vv6=>?_⟩
 nofun
 refine ⟨p3,p6,w3,w6,v3,v6,rfl,⟨(t4.trans (t5.trans t6)) _ _ e3,R3.same (t4.trans (t5.trans t6)),l3,up3,nn3⟩,⟨e6,R6,l6,up6,nn6⟩,fun b1 hb1=>?_⟩
 have k1:b1=true↔∀ d:Int,0<=d->d<=999999->chv b.rates b.spans d<=chv c.rates c.spans d:=hb1.trans ⟨fun z d d0 d1=>by rw[<-vv3 d d0 d1,<-vv6 d d0 d1];exact z d d0 d1,fun z d d0 d1=>by rw[vv3 d d0 d1,vv6 d d0 d1];exact z d d0 d1⟩
 nofun
 have B7:=B.same (t1.trans (t2.trans (t3.trans (t4.trans (t5.trans (t6))))))
 refine ⟨a,A.dx,_,rfl,B7.ins,rfl,a,A,b,rfl,B7,fun q7 x7 nq7 r7 l7=>?_⟩
 have t7:=zc nq7 (.lst x7)
 have e7:=zk (.lst x7) nq7
 have R7:=r7.same t7
 generalize upd H6 q7 (.lst x7)=H7 at t7 e7 R7 ⊢
 nofun
 have B8:=B.same (t1.trans (t2.trans (t3.trans (t4.trans (t5.trans (t6.trans (t7)))))))
 refine ⟨a,A.dx,_,rfl,B8.ins,rfl,a,A,b,rfl,B8,fun q8 x8 nq8 r8 l8=>?_⟩
 have t8:=zc nq8 (.lst x8)
 have e8:=zk (.lst x8) nq8
 have R8:=r8.same t8
 generalize upd H7 q8 (.lst x8)=H8 at t8 e8 R8 ⊢
 nofun
 refine ⟨q7,q8,x7,x8,b.lates,b.spans,rfl,⟨t8 _ _ e7,R7.same t8,O.lu,fun s hs=>(O.ln s hs).1⟩,⟨e8,R8,O.jn⟩,by have:=O.sz;ac_rfl,fun p9 w9 v9 H9 np9 t9 e9 R9 l9 up9 nn9 vv9=>?_⟩
 nofun
 have C10:=C.same (t1.trans (t2.trans (t3.trans (t4.trans (t5.trans (t6.trans (t7.trans (t8.trans (t9)))))))))
 refine ⟨a',A'.dx,_,rfl,C10.ins,rfl,a',A',c,rfl,C10,fun q10 x10 nq10 r10 l10=>?_⟩
 have t10:=zc nq10 (.lst x10)
 have e10:=zk (.lst x10) nq10
 have R10:=r10.same t10
 generalize upd H9 q10 (.lst x10)=H10 at t10 e10 R10 ⊢
 nofun
 have C11:=C.same (t1.trans (t2.trans (t3.trans (t4.trans (t5.trans (t6.trans (t7.trans (t8.trans (t9.trans (t10))))))))))
 refine ⟨a',A'.dx,_,rfl,C11.ins,rfl,a',A',c,rfl,C11,fun q11 x11 nq11 r11 l11=>?_⟩
 have t11:=zc nq11 (.lst x11)
 have e11:=zk (.lst x11) nq11
 have R11:=r11.same t11
 generalize upd H10 q11 (.lst x11)=H11 at t11 e11 R11 ⊢
 nofun
 refine ⟨q10,q11,x10,x11,c.lates,c.spans,rfl,⟨t11 _ _ e10,R10.same t11,O'.lu,fun s hs=>(O'.ln s hs).1⟩,⟨e11,R11,O'.jn⟩,by have:=O'.sz;ac_rfl,fun p12 w12 v12 H12 np12 t12 e12 R12 l12 up12 nn12 vv12=>?_⟩
 nofun
 refine ⟨p9,p12,w9,w12,v9,v12,rfl,⟨(t10.trans (t11.trans t12)) _ _ e9,R9.same (t10.trans (t11.trans t12)),l9,up9,nn9⟩,⟨e12,R12,l12,up12,nn12⟩,fun b2 hb2=>?_⟩
 have k2:b2=true↔∀ d:Int,0<=d->d<=999999->chv b.lates b.spans d<=chv c.lates c.spans d:=hb2.trans ⟨fun z d d0 d1=>by rw[<-vv9 d d0 d1,<-vv12 d d0 d1];exact z d d0 d1,fun z d d0 d1=>by rw[vv9 d d0 d1,vv12 d d0 d1];exact z d d0 d1⟩
 have sH:=t1.trans (t2.trans (t3.trans (t4.trans (t5.trans (t6.trans (t7.trans (t8.trans (t9.trans (t10.trans (t11.trans (t12)))))))))))
 nofun
 cases b1 with
 | false=>exact ⟨sH,h false ⟨(fun z=>by cases z),fun z=>absurd (k1.mpr z.1) (by decide)⟩⟩
 | true =>
  nofun
  exact h b2 ⟨fun z=>⟨k1.mp rfl,k2.mp z⟩,fun z=>k2.mpr z.2⟩
theorem zsy:∀ k c:Kd,V.str (nm k)=V.str (nm c)->k=c:=by
 intro k c
 cases k <;> cases c <;> first | exact fun _=>rfl | (intro h;injection h with h;exact absurd h (by decide +kernel))
def zhN (K:W.Frag):Sp:=fun vs H Q _=>L2.Ee6 fun a A (b:BkT) a' A' (c:BkT)=>L2.Aa4 (vs=[.ref a,.ref a']) ((zaM K H a A b/\BOk b/\FOk b/\b.turns.length<32)) ((zaM K H a' A' c/\BOk c/\FOk c/\c.turns.length<32)) (∀ v:Bool,(v=true↔Kinder b c)->Q (.bl v) H)
theorem zl1:zo qab qab (zj zdO):=by walk_at "sp"
theorem znf (S:Src K mg "is_kinder" zdO qab) (T:Txt K mg) (zdx:zJ P w K mg base 1 (cA K "Book") "outs" qaa (zhs K)) (zgQ:∀ kd:Kd,zJ P w K mg base 1 (cA K kd.cls) "name" qaa (zcD kd K)) (zc8:zJ P w K mg base 1 (cA K "Book") "count" qaa (zgV K)) (zc5:zJ P w K mg base 1 (cA K "Book") "turns" qaa (zgZ K)) (zbF:Def P w K mg base 5 "is_charged_no_more" qab (zcC K)) (zb1:Def P w K mg base 4 "is_asked_no_more" qab (zda K)):Def P w K mg base 6 "is_kinder" qab (zhN K):=by
 exists S.okF,zl1,0
 all_goals obtain ⟨a,A,b,a',A',c,rfl,⟨B,O,F,tb⟩,⟨C,O',F',tc⟩,h⟩:=h
 ·rfl
 refine ⟨_,(zf (zH (PW.pt (zgv (zr zoF (zko zgQ T.cls hr (zW zc8 T.zB hr (pv 0))) (zko zgQ T.cls hr (zW zc8 T.zB hr (pv 1))) (nomark _)) (zeI (zr (zsE hr.units) (zW zdx T.zB hr (pv 0)) (zW zdx T.zB hr (pv 1)) (nomark _)))))
  (zi (zl za6))
   zx)
  (zf (zH (zr zfp (zG znk rfl T.zbB PySem.boot_len (za (zh zo4 (zal (zfi rfl) rfl T.zig PyProof.Rows.boot_set (za (zW zc5 T.zB hr (pv 0)) ze)) (zal (zfi rfl) rfl T.zig PyProof.Rows.boot_set (za (zW zc5 T.zB hr (pv 1)) ze))) ze)) zd (nomark _))
  (zi (zl za6))
   zx)
  (zi (zl (zbQ (zp zb1 hr (za (pv 0) (za (pv 1) ze))) (zbP (zp zbF hr (za (pv 0) (za (pv 1) ze))))))))),?_⟩
 have sz:=sizeLine_eq
 nofun
 refine ⟨a,A.dx,_,rfl,B.ins,rfl,a,A,b,rfl,B,?_⟩
 nofun
 refine ⟨b.kd,A.c,rfl,B.cnt,?_⟩
 nofun
 refine ⟨a',A'.dx,_,rfl,C.ins,rfl,a',A',c,rfl,C,?_⟩
 nofun
 refine ⟨c.kd,A'.c,rfl,C.cnt,?_⟩
 nofun
 ·rename_i n
  exact ⟨Same.refl _,h false ⟨(fun z=>by cases z),fun z=>absurd (by rw[z.kd]) n⟩⟩
 rename_i n
 have ek:=zsy _ _ n
 clear n
 nofun
 refine ⟨a,A.dx,_,rfl,B.ins,rfl,a,A,b,rfl,B,fun q1 x1 nq1 r1 l1=>?_⟩
 have t1:=zc nq1 (.lst x1)
 have e1:=zk (.lst x1) nq1
 have R1:=r1.same t1
 generalize upd H q1 (.lst x1)=H1 at t1 e1 R1 ⊢
 have C1:=C.same t1
 nofun
 refine ⟨a',A'.dx,_,rfl,C1.ins,rfl,a',A',c,rfl,C1,fun q2 x2 nq2 r2 l2=>?_⟩
 have t2:=zc nq2 (.lst x2)
 have e2:=zk (.lst x2) nq2
 have R2:=r2.same t2
 generalize upd H1 q2 (.lst x2)=H2 at t2 e2 R2 ⊢
 refine ⟨_,_,.lst (SqL.of (t2 _ _ e1)) (R1.same t2).rd,.lst (SqL.of e2) R2.rd,zil _,zil _,?_⟩
 rw[zpM]
 have sA:=t1.trans t2
 by_cases eo:b.outs=c.outs
 rotate_left
 ·rw[decide_eq_false eo]
  nofun
  exact h false ⟨(fun z=>by cases z),fun z=>absurd z.outs eo⟩
 rw[decide_eq_true eo]
 have B2:=B.same sA
 have C2:=C.same sA
 clear t1 t2 e1 e2 R1 R2 r1 r2
 nofun
 refine ⟨a,A.dx,_,rfl,B2.ins,rfl,a,A,b,rfl,B2,fun q3 nq3=>?_⟩
 have t3:=zc nq3 (.lst (b.turns.map V.int))
 have e3:=zk (.lst (b.turns.map V.int)) nq3
 generalize upd H2 q3 (.lst (b.turns.map V.int))=H3 at t3 e3 ⊢
 nofun
 refine ⟨q3,b.turns,rfl,SqL.of e3,by ac_rfl,fun p3 H4 m3 np3 t4 e4 nd3 mm3 ml3=>?_⟩
 have C4:=C2.same (t3.trans t4)
 nofun
 refine ⟨a',A'.dx,_,rfl,C4.ins,rfl,a',A',c,rfl,C4,fun q5 nq5=>?_⟩
 have t5:=zc nq5 (.lst (c.turns.map V.int))
 have e5:=zk (.lst (c.turns.map V.int)) nq5
 generalize upd H4 q5 (.lst (c.turns.map V.int))=H5 at t5 e5 ⊢
 nofun
 refine ⟨q5,c.turns,rfl,SqL.of e5,by ac_rfl,fun p6 H6 m6 np6 t6 e6 nd6 mm6 ml6=>?_⟩
 nofun
 refine ⟨p3,p6,m3,m6,rfl,rfl,t6 _ _ (t5 _ _ e4),e6,by ac_rfl,by ac_rfl,fun p7 H7 ls np7 t7 e7 mm7=>?_⟩
 have sB:=t3.trans (t4.trans (t5.trans (t6.trans t7)))
 have s7:=sA.trans sB
 have B7:=B2.same sB
 have C7:=C2.same sB
 have sub:ls=[]↔∀ d∈b.turns,d∈c.turns:=by
  constructor
  ·intro z d hd
   apply Classical.byContradiction
   intro q
   have:d∈ls:=(mm7 d).mpr ⟨(mm3 d).mpr hd,fun y=>q ((mm6 d).mp y)⟩
   rw[z] at this
   cases this
  ·intro z
   cases e:ls with
   | nil=>rfl
   | cons d l =>
    have:=(mm7 d).mp (by rw[e];exact yaj)
    exact absurd ((mm6 d).mpr (z d ((mm3 d).mp this.1))) this.2
 clear t3 t4 t5 t6 t7 mm7 mm3 mm6
 nofun
 refine ⟨p7,ls,rfl,e7,?_⟩
 nofun
 ·rename_i n
  exact h false ⟨(fun z=>by cases z),fun z=>absurd (sub.mpr z.turns) (fun q=>by rw[q] at n;exact absurd n (by decide))⟩
 rename_i n
 have es:ls=[]:=by
  cases ls with
  | nil=>rfl
  | cons d l=>exact absurd (show (0:Int)<((l.length+1:Nat):Int) by ac_rfl) n
 nofun
 refine ⟨a,A,b,a',A',c,rfl,⟨B7,O,F⟩,⟨C7,O',F'⟩,fun v1 h1=>?_⟩
 cases v1 with
 | false =>
  nofun
  exact h false ⟨(fun z=>by cases z),fun z=>absurd (h1.mpr ⟨z.pays,z.fees,z.dues⟩) (by decide)⟩
 | true =>
  obtain ⟨k1,k2,k3⟩:=h1.mp rfl
  nofun
  refine ⟨a,A,b,a',A',c,rfl,⟨B7,O⟩,⟨C7,O'⟩,fun v2 h2=>?_⟩
  exact ⟨s7,h v2 ⟨fun z=>⟨ek,eo,sub.mp es,k1,k2,k3,(h2.mp z).1,(h2.mp z).2⟩,fun z=>h2.mpr ⟨z.rates,z.lates⟩⟩⟩
def zeX (K:W.Frag):Sp:=fun vs H Q _=>L2.Ee5 fun q n g rs (es:List Er)=>L2.Aa7 (vs=[.ref q,.int n,.int g]) ((0<=g/\g<=366)) (SqL K H q rs) (LL (fun v e=>∃ t,v=.ref t/\H t=some (.tup (zcK e.1 e.2.1 e.2.2))) rs es) (es.length<=61) ((∀ e∈es,e.1≠.base/\0<=e.2.1)) (∀ a A (b:BkT) H',H a=none->Same H H'->zaM K H' a A b->zbY b->b.kd=kdN n->b.g=g->b.es=es->Q (.ref a) H')
theorem zlE:zo qaq qaq (zj zdN):=by walk_at "sp"
theorem znB (S:Src K mg "_law_book" zdN qaq) (T:Txt K mg) (zfE:zJ P w K mg base 4 (cA K "Book") "__init__" qay (zhQ K)) (zeM:Def P w K mg base 4 "_law_entry" qbg (zg3 K)) (zeP:Def P w K mg base 1 "_law_count" qas (zgT K)):Def P w K mg base 6 "_law_book" qaq (zeX K):=by
 exists S.ok,zlE,0
 all_goals obtain ⟨q,n,g,rs,es,rfl,hg,hq,hL,hl,ok,h⟩:=h
 ·rfl
 refine ⟨_,(zi (zl (zbA T.zjJ zfE hr T.zlV (za (zp zeP hr (za (pv 1) ze)) (za (pv 2) (za (zdf (ix:=[]) ⟨rfl,by decide +kernel,rfl,by decide +kernel,rfl,(show (["_law_spec_here"]:List Str).Nodup by decide +kernel),by walk_at "cap", by walk_at "sub", by walk_at "has"⟩ (zaj (pv 0)) (fun b=>(zp zeM hr (za (pv 0) ze)))) ze)))))),?_⟩
 have sz:=sizeLine_eq
 have xl:=hL.length
 nofun
 intro c H1 nc s1 hc
 nofun
 refine ⟨⟨_,s1.seq hq⟩,fun l nl=>?_⟩
 refine comp_map (zak (s1.seq hq)) nl (by ac_rfl) es xl.symm (fun H' v e=>∃ a dx,v=.ref a/\zh3 K H' a dx e.1 e.2.1 e.2.2) (fun v e H1 H2 s ⟨t,dx,e1,e2⟩=>⟨t,dx,e1,s _ _ e2⟩) (fun v e H1 ys zs hL ⟨t,dx,e1,e2⟩=>⟨t,dx,e1,by rw[zh3,zv (za8 e2 hL (by intro z;cases z))];exact e2⟩) ?_ ?_
 ·rintro i x e H' Q' hx he sH hq'
  obtain ⟨e',he',t,rfl,ht⟩:=hL.get hx
  obtain rfl:e'=e:=Option.some.inj (he'.symm.trans he)
  nofun
  refine ⟨t,e'.1,e'.2.1,e'.2.2,rfl,sH _ _ (s1 _ _ ht),(ok e' (yai he)).1,fun a dx H2 s2 na ha=>?_⟩
  exact hq' _ _ s2 ⟨a,dx,rfl,ha⟩
 ·rintro ys H2 s2 eL hE
  nofun
  intro a dx na nd ne
  have s3:Same H2 (upd (upd H2 dx (.own a)) a (.ins (cA K "Book") dx [])):=(zc nd _).trans (zc (by rw[zv ne.symm];exact na) _)
  refine ⟨a,dx,c,l,kdN n,g,ys,es,H2,rfl,zg,⟨na,s3⟩,hc.same s2,hg,SqL.of eL,hE,hl,fun e he=>(ok e he).2,fun A b H3 sH3 B I e1 e2 e3=>⟨rfl,?_⟩⟩
  exact h a A b H3 (zw (s1.trans s2) na) (s1.trans (s2.trans sH3)) B I e1 e2 e3
def zeK (K:W.Frag):Sp:=fun vs H Q _=>L2.Ee7 fun a A (b:BkT) a' A' (c:BkT) (v:Bool)=>L2.Aa5 (vs=[.ref a,.ref a',.bl v]) ((zaM K H a A b/\BOk b/\FOk b/\b.turns.length<32)) ((zaM K H a' A' c/\BOk c/\FOk c/\c.turns.length<32)) ((v=true↔Kinder b c)) (Q (.bl true) H)
theorem zhD:zo ["_law_one", "_law_other", "_law_due", "_law_found"] qaz (zj zdw):=by walk_at "sp"
theorem zns (S:Src K mg "_law_says" zdw qaz) (T:Txt K mg) (zfO:Def P w K mg base 6 "is_kinder" qab (zhN K)):Def P w K mg base 7 "_law_says" qaz (zeK K):=by
 exists S.ok,zhD,0
 all_goals obtain ⟨a,A,b,a',A',c,v,rfl,hb,hc,hv,h⟩:=h
 ·rfl
 refine ⟨_,(zf (zq (i:=3) zhD.nd rfl (by walk_at "lc") (zp zfO hr (za (pv 0) (za (pv 1) ze))))
  (zi (zl (zbQ (zG zfT rfl T.zbj PyProof.Rows.boot_isinstance (za (pv 3) (za (zjT (v:=.ty "bool") rfl T.zjy PyProof.Rows.boot_bool rfl) ze))) (zbP (zdl zQ (pv 3) (pv 2) (nomark _))))))),?_⟩
 nofun
 refine ⟨a,A,b,a',A',c,rfl,hb,hc,fun u hu=>?_⟩
 have e:u=v:=by rw[Bool.eq_iff_iff,hu,hv]
 subst e
 nofun
 refine ⟨_,_,_,true,rfl,.bl u,(by rfl),?_⟩
 nofun
 refine qb h ?_
 simp
theorem okH {c:BkT} (I:zbY c) {b:Int} (ok:OkH b c.es) (b0:0<=b) (g0:0<=c.g) (hl:c.es.length<=31):BOk c/\FOk c/\c.turns.length<32:=by
 refine ⟨zsJ I b0 g0 (fun e he=>(ok e he).2.1) (fun w hw s hs=>?_) hl,⟨I.fees.up,fun s hs=>?_,?_⟩,?_⟩
 ·obtain ⟨e,he,rfl⟩:=yag.mp hs
  obtain ⟨x1,x2⟩:=yaq.mp he
  rcases hw with rfl | rfl
  ·exact (ok e x1).2.2 (.inl (zdr (k:=.rate) x2))
  ·exact (ok e x1).2.2 (.inr (zdr (k:=.late) x2))
 ·obtain ⟨u,hu,e⟩:=yag.mp ((I.fees.mem s.1).mp (yar hs))
  obtain ⟨e',he,rfl⟩:=yag.mp hu
  have:=(ok e' (yaq.mp he).1).2.1
  omega
 ·have:=zgg (Sby.zgl I.fees.up) fun k hk=>(I.fees.mem k).mp hk
  have pl:=zf0 (w:="fee") (es:=c.es)
  rw[yab,yab] at this
  omega
 ·have:=zgg (Sby.zgl I.turns.up) fun k hk=>(I.turns.mem k).mp hk
  have pl:(dys "turn" c.es).length<=c.es.length:=by unfold dys;rw[yab];exact yaw _ _
  omega
theorem zrC {y m:Int} (h:2000<=y/\y<=4699) (hm:m=1\/m=3\/m=5\/m=7\/m=8\/m=10\/m=12):Cal.zht y m 30/\9<=Cal.num y m 30/\Cal.num y m 30<=999990:=by
 have l:=Cal.ztf y
 refine ⟨⟨by omega,by omega,by decide,?_⟩,?_⟩
 ·rcases hm with rfl | rfl | rfl | rfl | rfl | rfl | rfl <;> (unfold Cal.mlen;rw[if_neg (by decide)];decide)
 ·have c:0<=Cal.cum y m/\Cal.cum y m<=335:=by
   unfold Cal.cum
   rcases hm with rfl | rfl | rfl | rfl | rfl | rfl | rfl <;> simp <;> omega
  unfold Cal.num Cal.ny
  omega
theorem zsX {k:Ek} {D:Int} (hk:k=.rate\/k=.late):OkH (D-9) (wl0 k D):=by
 have a:OkH (D-9) [(.out,D-9,1000)]:=zaz (by intro z;cases z) (ydx _) (fun z=>by rcases z with z | z <;> cases z)
 exact a.app (zaz (by rcases hk with rfl | rfl <;> (intro z;cases z)) (ydx _) fun _=>⟨by decide,by decide⟩)
theorem OkH.nb {b:Int} {es:List Er} (h:OkH b es) (b0:0<=b):∀ e∈es,e.1≠.base/\0<=e.2.1:=fun e he=>⟨(h e he).1,yea b0 (h e he).2.1⟩
def zdS (K:W.Frag):Sp:=fun vs H Q _=>∃ (a:Addr) (ns:List Int),vs=[.ref a]/\SqL K H a (ns.map V.int)/\∀ H',Q (.bl true) H'
theorem zS:zo ["_law_script", "_law_cell_here", "_law_day", "_law_word", "_law_specs_here", "_law_kind", "_law_hard"] qal (zj za7):=by walk_at "sp"
theorem zii (S:Src K mg "_law_weightless" za7 qal) (T:Txt K mg) (zaa:Def P w K mg base 2 "_law_cell" qan (zcE K)) (zi3:Def P w K mg base 4 "day_of" qaj (zkq K)) (zam:Def P w K mg base 6 "_law_book" qaq (zeX K)) (zac:Def P w K mg base 7 "_law_says" qaz (zeK K)):Def P w K mg base 8 "_law_weightless" qal (zdS K):=by
 exists S.ok,zS,0
 all_goals obtain ⟨a,ns,rfl,hS,h⟩:=h
 ·rfl
 refine ⟨_,(zf (zq (i:=1) zS.nd rfl (by walk_at "lc") (zp zaa hr (za (pv 0) (za zd ze))))
  (zf (zq (i:=2) zS.nd rfl (by walk_at "lc") (zp zi3 hr (za (zh zy zd (zh zC (pv 1) zd)) (za (zD zX (zN (za zd (za zd (za zd (za zd (za zd (za zd (za zd ze)))))))) (zh zC (zh zM (pv 1) zd) zd) (fun _ _=>rfl)) (za zd ze)))))
  (zf (zq (i:=3) zS.nd rfl (by walk_at "lc") (zD zX (zN (za zt (za zt ze))) (zh zC (zh zM (pv 1) zd) zd) (fun _ _=>rfl)))
  (zf (zq (i:=4) zS.nd rfl (by walk_at "lc") (zN (za (zE (za zt (za (zh zat (pv 2) zd) (za zd ze)))) (za (zE (za (pv 3) (za (zh zat (pv 2) zd) (za zd ze)))) ze))))
  (zf (zq (i:=5) zS.nd rfl (by walk_at "lc") (zp zam hr (za (pv 4) (za zd (za zd ze)))))
  (zf (zq (i:=6) zS.nd rfl (by walk_at "lc") (zp zam hr (za (zh zaw (pv 4) (zN (za (zE (za (pv 3) (za (pv 2) (za zd ze)))) (za (zE (za (pv 3) (za (zh zy (pv 2) zd) (za zd ze)))) ze)))) (za zd (za zd ze)))))
  (zf (zH (PW.pt (zgv (zbo (zaD (zp zac hr (za (pv 6) (za (pv 5) (za za6 ze)))))) (zeI (zbo (zaD (zp zac hr (za (pv 5) (za (pv 6) (za za6 ze)))))))))
  (zi (zl za6))
   zx)
  (zf (zq (i:=4) zS.nd rfl (by walk_at "lc") (zN (za (zE (za zt (za (zh zat (pv 2) zd) (za zd ze)))) (za (zE (za (pv 3) (za (zh zat (pv 2) zd) (za zd ze)))) ze))))
  (zf (zq (i:=6) zS.nd rfl (by walk_at "lc") (zp zam hr (za (pv 4) (za zd (za zd ze)))))
  (zf (zq (i:=5) zS.nd rfl (by walk_at "lc") (zp zam hr (za (zh zaw (pv 4) (zN (za (zE (za zt (za (pv 2) (za (zh zy (pv 2) zd) ze)))) ze))) (za zd (za zd ze)))))
  (zi (zl (zbQ (zp zac hr (za (pv 6) (za (pv 5) (za za6 ze)))) (zbP (zp zac hr (za (pv 5) (za (pv 6) (za za6 ze)))))))))))))))))),?_⟩
 have sz:=sizeLine_eq
 nofun
 rename_i y y0 y1
 intro p1 np1
 have s1:=zc np1 (.lst [.int 1,.int 3,.int 5,.int 7,.int 8,.int 10,.int 12])
 obtain ⟨v,hv,hm⟩:=zaR (xs:=[.int 1,.int 3,.int 5,.int 7,.int 8,.int 10,.int 12]) (k:=y / 2700 % 7) (by ac_rfl) (by simp;ac_rfl)
 obtain ⟨m,rfl,m0⟩:=((zU ⟨_,rfl,by simp⟩ (zU ⟨_,rfl,by simp⟩ (zU ⟨_,rfl,by simp⟩ (zU ⟨_,rfl,by simp⟩ (zU ⟨_,rfl,by simp⟩ (zU ⟨_,rfl,by simp⟩ (zU ⟨_,rfl,by simp⟩ zeN))))))):∀ v∈([.int 1,.int 3,.int 5,.int 7,.int 8,.int 10,.int 12]:List V),∃ m:Int,v=.int m/\(m=1\/m=3\/m=5\/m=7\/m=8\/m=10\/m=12)) v hm
 nofun
 refine ⟨p1,_,_,_,rfl,rfl,SqL.of zg,hv,?_⟩
 clear hv hm
 generalize upd H p1 (.lst [.int 1,.int 3,.int 5,.int 7,.int 8,.int 10,.int 12])=H1 at s1 ⊢
 nofun
 obtain ⟨wd,wa,wb⟩:=zrC (y:=2000+y % 2700) (by ac_rfl) m0
 refine ⟨wd,by ac_rfl,by ac_rfl,?_⟩
 obtain ⟨D,hD⟩:∃ D:Int,D=Cal.num (2000+y % 2700) m 30:=⟨_,rfl⟩
 dsimp only
 rw[<-hD] at wa wb ⊢
 clear hD wd m0
 nofun
 intro p2 np2
 have s2:=zc np2 (.lst [.str "rate", .str "late"])
 obtain ⟨v,hv,hm⟩:=zaR (xs:=[.str "rate", .str "late"]) (k:=y / 18900 % 2) (by ac_rfl) (by simp;ac_rfl)
 obtain ⟨k,rfl,hk⟩:=((zU ⟨.rate,rfl,.inl rfl⟩ (zU ⟨.late,rfl,.inr rfl⟩ zeN)):∀ v∈([.str "rate", .str "late"]:List V),∃ k:Ek,v=.str k.word/\(k=.rate\/k=.late)) v hm
 nofun
 refine ⟨p2,_,_,_,rfl,rfl,SqL.of zg,hv,?_⟩
 clear hv hm
 generalize upd H1 p2 (.lst [.str "rate", .str "late"])=H2 at s2 ⊢
 have nbk:k≠.base:=by rcases hk with rfl | rfl <;> (intro z;cases z)
 have ok0:OkH (D-9) (wl0 k D):=zsX hk
 nofun
 intro t1 nt1
 have x1:=zc nt1 (.tup [.str "out", .int (D-9),.int 1000])
 have y1':=zk (.tup [.str "out", .int (D-9),.int 1000]) nt1
 nofun
 intro t2 nt2
 have x2:=zc nt2 (.tup [.str k.word,.int (D-9),.int 500])
 have y2:=zk (.tup [.str k.word,.int (D-9),.int 500]) nt2
 nofun
 intro q1 nq1
 have x3:=zc nq1 (.lst [.ref t1,.ref t2])
 have z1:=(x2.trans x3) _ _ y1'
 have z2:=x3 _ _ y2
 have z3:=zk (.lst [.ref t1,.ref t2]) nq1
 have xA:=x1.trans (x2.trans x3)
 generalize upd (upd (upd H2 t1 (.tup [.str "out", .int (D-9),.int 1000])) t2 (.tup [.str k.word,.int (D-9),.int 500])) q1 (.lst [.ref t1,.ref t2])=G1 at z1 z2 z3 xA ⊢
 have R1:RL3 G1 [.ref t1,.ref t2] (wl0 k D):=.cons ⟨t1,rfl,z1⟩ (.cons ⟨t2,rfl,z2⟩ .nil)
 clear x1 x2 x3 y1' y2 z1 z2 nt1 nt2 nq1
 nofun
 refine ⟨q1,2,0,_,_,rfl,⟨by decide,by decide⟩,SqL.of z3,R1,by show 2<=61;decide,ok0.nb (by ac_rfl),fun a1 A1 c1 G2 na1 u1 B1 I1 k1 g1 e1=>?_⟩
 nofun
 intro t3 nt3
 have x1:=zc nt3 (.tup [.str k.word,.int D,.int 501])
 have y3:=zk (.tup [.str k.word,.int D,.int 501]) nt3
 nofun
 intro t4 nt4
 have x2:=zc nt4 (.tup [.str k.word,.int (D+1),.int 500])
 have y4:=zk (.tup [.str k.word,.int (D+1),.int 500]) nt4
 nofun
 intro q2 nq2
 have x3:=zc nq2 (.lst [.ref t3,.ref t4])
 have w1:=(x2.trans x3) _ _ y3
 have w2:=x3 _ _ y4
 have w3:=zk (.lst [.ref t3,.ref t4]) nq2
 have xB:=x1.trans (x2.trans x3)
 generalize upd (upd (upd G2 t3 (.tup [.str k.word,.int D,.int 501])) t4 (.tup [.str k.word,.int (D+1),.int 500])) q2 (.lst [.ref t3,.ref t4])=G3 at w1 w2 w3 xB ⊢
 clear x1 x2 x3 y3 y4 nt3 nt4 nq2
 have uB:=u1.trans xB
 refine ⟨q1,q2,_,_,rfl,rfl,uB _ _ z3,w3,by show 2+2<=_;ac_rfl,fun q3 nq3=>?_⟩
 have x4:=zc nq3 (.lst ([.ref t1,.ref t2]++[.ref t3,.ref t4]))
 have w4:=zk (.lst ([.ref t1,.ref t2]++[.ref t3,.ref t4])) nq3
 have R3:=LL.append (R1.same (uB.trans x4)) (.cons ⟨t3,rfl,x4 _ _ w1⟩ (.cons ⟨t4,rfl,x4 _ _ w2⟩ .nil):RL3 _ _ [(k,D,501),(k,D+1,500)])
 have B1a:=B1.same (xB.trans x4)
 generalize upd G3 q3 (.lst ([.ref t1,.ref t2]++[.ref t3,.ref t4]))=G4 at x4 w4 R3 B1a ⊢
 have ok1:OkH (D-9) (wl0 k D++[(k,D,501),(k,D+1,500)]):=ok0.app ((zaz nbk (by ac_rfl) fun _=>⟨by decide,by decide⟩:OkH (D-9) [(k,D,501)]).app (zaz nbk (by ac_rfl) fun _=>⟨by decide,by decide⟩))
 nofun
 refine ⟨q3,2,0,_,_,rfl,⟨by decide,by decide⟩,SqL.of w4,R3,by show 4<=61;decide,ok1.nb (by ac_rfl),fun a2 A2 c2 G5 na2 u2 B2 I2 k2 g2 e2=>?_⟩
 have B1b:=B1a.same u2
 have o1:=okH I1 (b:=D-9) (by rw[e1];exact ok0) (by ac_rfl) (by ac_rfl) (by rw[e1];show 2<=31;decide)
 have o2:=okH I2 (b:=D-9) (by rw[e2];exact ok1) (by ac_rfl) (by ac_rfl) (by rw[e2];show 4<=31;decide)
 have kd:Kinder c1 c2:=zae.kinder I1 I2 (by rw[k1,k2]) (by rw[g1,g2]) (by rw[g1,e1,e2];exact zsz hk wa)
 have nk:¬ Kinder c2 c1:=zrE hk wa (by ac_rfl) c1 c2 I1 I2 (by rw[g1,g2]) (by ac_rfl) e1 e2
 nofun
 refine ⟨a2,A2,c2,a1,A1,c1,false,rfl,⟨B2,o2⟩,⟨B1b,o1⟩,⟨fun z=>(by cases z),fun z=>absurd z nk⟩,?_⟩
 nofun
 refine ⟨a1,A1,c1,a2,A2,c2,true,rfl,⟨B1b,o1⟩,⟨B2,o2⟩,⟨fun _=>kd,fun _=>rfl⟩,?_⟩
 clear kd nk o1 o2 B1b B2 B1a B1 I1 I2 R3 R1 w1 w2 w3 w4 z3 e1 e2
 nofun
 intro t1 nt1
 have x1:=zc nt1 (.tup [.str "out", .int (D-9),.int 1000])
 have y1':=zk (.tup [.str "out", .int (D-9),.int 1000]) nt1
 nofun
 intro t2 nt2
 have x2:=zc nt2 (.tup [.str k.word,.int (D-9),.int 500])
 have y2:=zk (.tup [.str k.word,.int (D-9),.int 500]) nt2
 nofun
 intro q1 nq1
 have x3:=zc nq1 (.lst [.ref t1,.ref t2])
 have z1:=(x2.trans x3) _ _ y1'
 have z2:=x3 _ _ y2
 have z3:=zk (.lst [.ref t1,.ref t2]) nq1
 have xC:=x1.trans (x2.trans x3)
 generalize upd (upd (upd G5 t1 (.tup [.str "out", .int (D-9),.int 1000])) t2 (.tup [.str k.word,.int (D-9),.int 500])) q1 (.lst [.ref t1,.ref t2])=G6 at z1 z2 z3 xC ⊢
 have R6:RL3 G6 [.ref t1,.ref t2] (wl0 k D):=.cons ⟨t1,rfl,z1⟩ (.cons ⟨t2,rfl,z2⟩ .nil)
 clear x1 x2 x3 y1' y2 z1 z2 nt1 nt2 nq1
 nofun
 refine ⟨q1,0,0,_,_,rfl,⟨by decide,by decide⟩,SqL.of z3,R6,by show 2<=61;decide,ok0.nb (by ac_rfl),fun a1 A1 c1 G7 na1 u1 B1 I1 k1 g1 e1=>?_⟩
 nofun
 intro t3 nt3
 have x1:=zc nt3 (.tup [.str "still", .int D,.int (D+1)])
 have y3:=zk (.tup [.str "still", .int D,.int (D+1)]) nt3
 nofun
 intro q2 nq2
 have x3:=zc nq2 (.lst [.ref t3])
 have w1:=x3 _ _ y3
 have w3:=zk (.lst [.ref t3]) nq2
 have xB:=x1.trans x3
 generalize upd (upd G7 t3 (.tup [.str "still", .int D,.int (D+1)])) q2 (.lst [.ref t3])=G8 at w1 w3 xB ⊢
 clear x1 x3 y3 nt3 nq2
 have uB:=u1.trans xB
 refine ⟨q1,q2,_,_,rfl,rfl,uB _ _ z3,w3,by show 2+1<=_;ac_rfl,fun q3 nq3=>?_⟩
 have x4:=zc nq3 (.lst ([.ref t1,.ref t2]++[.ref t3]))
 have w4:=zk (.lst ([.ref t1,.ref t2]++[.ref t3])) nq3
 have R8:=LL.append (R6.same (uB.trans x4)) (.cons ⟨t3,rfl,x4 _ _ w1⟩ .nil:RL3 _ _ [(.still,D,D+1)])
 have B1a:=B1.same (xB.trans x4)
 generalize upd G8 q3 (.lst ([.ref t1,.ref t2]++[.ref t3]))=G9 at x4 w4 R8 B1a ⊢
 have ok2:OkH (D-9) (wl0 k D++[(.still,D,D+1)]):=ok0.app (zaz (by intro z;cases z) (by ac_rfl) (fun z=>by rcases z with z | z <;> cases z))
 nofun
 refine ⟨q3,0,0,_,_,rfl,⟨by decide,by decide⟩,SqL.of w4,R8,by show 3<=61;decide,ok2.nb (by ac_rfl),fun a2 A2 c2 G10 na2 u2 B2 I2 k2 g2 e2=>?_⟩
 have B1b:=B1a.same u2
 have o1:=okH I1 (b:=D-9) (by rw[e1];exact ok0) (by ac_rfl) (by ac_rfl) (by rw[e1];show 2<=31;decide)
 have o2:=okH I2 (b:=D-9) (by rw[e2];exact ok2) (by ac_rfl) (by ac_rfl) (by rw[e2];show 3<=31;decide)
 have kd:Kinder c2 c1:=zae.kinder I2 I1 (by rw[k1,k2]) (by rw[g1,g2]) (by rw[g2,e1,e2];exact zrn hk wa)
 have nk:¬ Kinder c1 c2:=zqR hk wa (by ac_rfl) c2 c1 I2 I1 (by rw[g1,g2]) (by ac_rfl) e2 e1
 nofun
 refine ⟨a1,A1,c1,a2,A2,c2,false,rfl,⟨B1b,o1⟩,⟨B2,o2⟩,⟨fun z=>(by cases z),fun z=>absurd z nk⟩,?_⟩
 nofun
 refine ⟨a2,A2,c2,a1,A1,c1,true,rfl,⟨B2,o2⟩,⟨B1b,o1⟩,⟨fun _=>kd,fun _=>rfl⟩,?_⟩
 nofun
 first | exact h _ | trace_state
theorem zrm (n r:Int) (h:0<=r/\r<=2):kdN n≠kdN (n+1+r):=by
 unfold kdN
 have:(n+1+r) % 4≠n % 4:=by omega
 rcases (show n % 4=0\/n % 4=1\/n % 4=2\/n % 4=3 by omega) with e | e | e | e <;> rcases (show (n+1+r) % 4=0\/(n+1+r) % 4=1\/(n+1+r) % 4=2\/(n+1+r) % 4=3 by omega) with u | u | u | u <;> first | (exfalso;omega) | (rw[e,u];simp)
def zlK (K:W.Frag):Sp:=fun vs H Q _=>∃ (a:Addr) (ns:List Int),vs=[.ref a]/\SqL K H a (ns.map V.int)/\ns.length<=63/\∀ H',Q (.bl true) H'
theorem zbk:zo ["_law_script", "_law_base", "_law_others", "_law_specs_here", "_law_k", "_law_grace", "_law_way", "_law_change", "_law_kind", "_law_other", "_law_hard", "_law_apart"] qal (zj zjn):=by walk_at "sp"
theorem zs4 (S:Src K mg "law" zjn qal) (T:Txt K mg) (zaa:Def P w K mg base 2 "_law_cell" qan (zcE K)) (zeF:Def P w K mg base 3 "_law_specs" qbe (zg2 K)) (zeU:Def P w K mg base 2 "_law_eased" qak (zg1 K)) (zam:Def P w K mg base 6 "_law_book" qaq (zeX K)) (zeb:Def P w K mg base 2 "_law_harder" qak (zgf K)) (zac:Def P w K mg base 7 "_law_says" qaz (zeK K)) (zce:Def P w K mg base 8 "_law_weightless" qal (zdS K)):Def P w K mg base 9 "law" qal (zlK K):=by
 exists S.ok,zbk,0
 all_goals obtain ⟨a,ns,rfl,hS,hl,h⟩:=h
 ·rfl
 refine ⟨_,(zf (zq (i:=1) zbk.nd rfl (by walk_at "lc") (zh zC (zp zaa hr (za (pv 0) (za zd ze))) zd))
  (zf (zq (i:=2) zbk.nd rfl (by walk_at "lc") (zp zeF hr (za (pv 0) (za zd (za zd (za (pv 1) ze))))))
  (zf (zq (i:=3) zbk.nd rfl (by walk_at "lc") (zal zas rfl T.zbG PyProof.Rows.boot_list (za (pv 2) ze)))
  (zf (zha PassesOwn.never rfl (zkl rfl T.zdn (za (zh zC (zp zaa hr (za (pv 0) (za zd ze))) zd) ze)) (zar (i:=4) zbk.nd rfl (by walk_at "lc"))
  (zi (zq (i:=3) zbk.nd rfl (by walk_at "lc") (zp zeU hr (za (pv 3) (za (zp zaa hr (za (pv 0) (za (zh zy zd (pv 4)) ze))) (za (pv 1) ze)))))))
  (zf (zq (i:=5) zbk.nd rfl (by walk_at "lc") (zh zC (zp zaa hr (za (pv 0) (za zd ze))) zd))
  (zf (zq (i:=6) zbk.nd rfl (by walk_at "lc") (zp zaa hr (za (pv 0) (za zd ze))))
  (zf (zq (i:=7) zbk.nd rfl (by walk_at "lc") (zp zaa hr (za (pv 0) (za zd ze))))
  (zf (zq (i:=8) zbk.nd rfl (by walk_at "lc") (zp zam hr (za (pv 3) (za (pv 6) (za (pv 5) ze)))))
  (zf (zq (i:=9) zbk.nd rfl (by walk_at "lc") (zp zam hr (za (pv 2) (za (pv 6) (za (pv 5) ze)))))
  (zf (zq (i:=10) zbk.nd rfl (by walk_at "lc") (zp zam hr (za (zp zeb hr (za (pv 3) (za (pv 7) (za (pv 1) ze)))) (za (pv 6) (za (pv 5) ze)))))
  (zf (zH (PW.pt (zgv (zbo (zaD (zp zac hr (za (pv 10) (za (pv 8) (za za6 ze)))))) (zeI (zbo (zaD (zp zac hr (za (pv 8) (za (pv 10) (za (zdl zoF (zh zC (pv 7) zd) zd (nomark _)) ze)))))))))
  (zi (zl za6))
   zx)
  (zf (zq (i:=11) zbk.nd rfl (by walk_at "lc") (zp zam hr (za (pv 3) (za (zh zy (zh zy (pv 6) zd) (zh zC (zh zM (pv 7) zd) zd)) (za (pv 5) ze)))))
  (zf (zH (PW.pt (zgv (zbo (zaD (zp zac hr (za (pv 11) (za (pv 8) (za za6 ze)))))) (zeI (zbo (zaD (zp zac hr (za (pv 8) (za (pv 11) (za za6 ze)))))))))
  (zi (zl za6))
   zx)
  (zf (zH (PW.pt (zgv (zbo (zaD (zp zac hr (za (pv 8) (za (pv 9) (za za6 ze)))))) (zeI (zbo (zaD (zp zac hr (za (pv 8) (za (pv 8) (za za6 ze)))))))))
  (zi (zl za6))
   zx)
  (zi (zl (zp zce hr (za (pv 0) ze)))))))))))))))))),?_⟩
 have sz:=sizeLine_eq
 nofun
 rename_i y y0 y1
 obtain ⟨b,hb⟩:∃ b:Int,b=y % 999700:=⟨_,rfl⟩
 have b0:0<=b/\b<=999699:=by ac_rfl
 dsimp only
 rw[<-hb]
 clear hb y0 y1
 refine ⟨a,ns,10,12,b,rfl,⟨by decide,by decide,by decide,by decide⟩,hS,b0,fun q1 rs1 es1 H1 nq1 s1 e1 R1 ok1 ⟨l1,l1'⟩=>?_⟩
 nofun
 refine ⟨q1,rs1,rfl,.inl (SqL.of e1),fun q2 nq2=>?_⟩
 have s2:=s1.trans (zc nq2 (.lst rs1))
 have e2:=zk (.lst rs1) nq2
 have e12:=zc nq2 (.lst rs1) _ _ e1
 have R2:=R1.same (zc nq2 (.lst rs1))
 generalize upd H1 q2 (.lst rs1)=H2 at s2 e2 e12 R2 ⊢
 have hS2:=s2.seq hS
 nofun
 rename_i r r0 r1
 refine zkJ (fun j σ H'=>L2.Ee4 fun (q:Addr) (rs:List V) (es:List Er) (z:Option V)=>L2.Aa3 ((Same H2 H'/\H' q=some (.lst rs)/\RL3 H' rs es)) ((Sgs (j:Nat) b es/\(∀ g,zae g es es1)/\es1.length<=es.length+j/\es.length<=es1.length+j)) (σ=[some (.ref a),some (.int b),some (.ref q1),some (.ref q),z,none,none,none,none,none,none,none]))
  ⟨q2,rs1,es1,none,⟨Same.refl _,e2,R2⟩,⟨ok1,fun g=>zae.refl g _,by ac_rfl,by ac_rfl⟩,rfl⟩ ?_ ?_
 ·rintro j σ H' hj ⟨q,rs,es,z,⟨sH,eq,hR⟩,⟨ok,ke,la,lb⟩,rfl⟩
  have hSH:=(s2.trans sH).seq hS
  nofun
  rename_i y y0 y1
  refine ⟨q,rs,es,y,b,j,rfl,eq,hR,⟨by ac_rfl,by ac_rfl,ok⟩,by ac_rfl,y0,b0,fun q' rs' es' H3 nq' s3 eq' R' ok' ke' ⟨lc,ld⟩=>?_⟩
  refine ⟨q',rs',es',_,⟨sH.trans s3,eq',R'⟩,⟨?_,fun g=>(ke' g).trans (ke g),by ac_rfl,by ac_rfl⟩,rfl⟩
  rw[show ((j+1:Nat):Int)=(j:Int)+1 by ac_rfl]
  exact ok'
 rintro σ H3 ⟨q3,rs3,es3,z,⟨s3,e3,R3⟩,⟨ok3,ke3,la3,lb3⟩,rfl⟩
 have ok3:=ok3.more (m:=3) (by ac_rfl)
 have hS3:=(s2.trans s3).seq hS
 have l3:es3.length<=15/\es1.length<=12:=by ac_rfl
 have R13:=R2.same s3
 have e13:=s3 _ _ e12
 clear la3 lb3 r0 r1 e12 e2 R2 R1 nq2 hS2
 nofun
 rename_i y2 _ _ W w0 w1 C c0 c1
 obtain ⟨G,hG⟩:∃ G:Int,G=y2 % 41:=⟨_,rfl⟩
 have G0:0<=G/\G<=40:=by ac_rfl
 dsimp only
 rw[<-hG]
 clear hG
 refine ⟨q3,W,G,rs3,es3,rfl,⟨by ac_rfl,by ac_rfl⟩,SqL.of e3,R3,by ac_rfl,fun e he=>⟨(ok3 e he).nb,by have:=(ok3 e he).lo;ac_rfl⟩,fun a1 A1 c1 H4 na1 s4 B1 I1 k1 g1 x1=>?_⟩
 nofun
 refine ⟨q1,W,G,rs1,es1,rfl,⟨by ac_rfl,by ac_rfl⟩,SqL.of (s4 _ _ e13),R13.same s4,by ac_rfl,fun e he=>⟨(ok1 e he).nb,by have:=(ok1 e he).lo;ac_rfl⟩,fun a2 A2 c2 H5 na2 s5 B2 I2 k2 g2 x2=>?_⟩
 nofun
 have s45:=s4.trans s5
 refine ⟨q3,rs3,es3,C,b,rfl,s45 _ _ e3,R3.same s45,ok3,by ac_rfl,c0,b0,fun q4 rs4 es4 H6 nq4 s6 e4 R4 oh hd kd ap l4=>?_⟩
 nofun
 refine ⟨q4,W,G,rs4,es4,rfl,⟨by ac_rfl,by ac_rfl⟩,SqL.of e4,R4,by ac_rfl,oh.nb b0.1,fun a3 A3 c3 H7 na3 s7 B3 I3 k3 g3 x3=>?_⟩
 have o1:=okH I1 (b:=b) (by rw[x1];exact zaE ok3) b0.1 (by ac_rfl) (by rw[x1];ac_rfl)
 have o2:=okH I2 (b:=b) (by rw[x2];exact zaE ok1) b0.1 (by ac_rfl) (by rw[x2];ac_rfl)
 have o3:=okH I3 (b:=b) (by rw[x3];exact oh) b0.1 (by ac_rfl) (by rw[x3];ac_rfl)
 have n31:¬ Kinder c3 c1:=hd c1 c3 I1 I3 (by rw[g1,g3]) (by ac_rfl) x1 x3
 have s67:=s6.trans s7
 have B1a:=B1.same (s5.trans s67)
 have B2a:=B2.same s67
 have sA:=s45.trans s67
 have hS7:=sA.seq hS3
 have k13:C % 8≠7->Kinder c1 c3:=fun z=>zae.kinder I1 I3 (by rw[k1,k3]) (by rw[g1,g3]) (by rw[g1,x1,x3];exact kd z G)
 have n13:C % 8=7->¬ Kinder c1 c3:=fun z k=>ap z c1 c3 I1 I3 x1 x3 k.outs
 clear hd kd ap
 nofun
 refine ⟨a3,A3,c3,a1,A1,c1,false,rfl,⟨B3,o3⟩,⟨B1a,o1⟩,⟨fun z=>(by cases z),fun z=>absurd z n31⟩,?_⟩
 nofun
 refine ⟨a1,A1,c1,a3,A3,c3,_,rfl,⟨B1a,o1⟩,⟨B3,o3⟩,⟨fun z=>k13 fun e=>?_,fun k=>?_⟩,?_⟩
 ·simp[e] at z
 ·by_cases e:C % 8=7
  ·exact absurd k (n13 e)
  ·simp[e]
 clear k13 n13 n31 o3 B3
 nofun
 refine ⟨q3,_,G,rs3,es3,rfl,⟨by ac_rfl,by ac_rfl⟩,SqL.of (sA _ _ e3),R3.same sA,by ac_rfl,fun e he=>⟨(ok3 e he).nb,by have:=(ok3 e he).lo;ac_rfl⟩,fun a4 A4 c4 H8 na4 s8 B4 I4 k4 g4 x4=>?_⟩
 have o4:=okH I4 (b:=b) (by rw[x4];exact zaE ok3) b0.1 (by ac_rfl) (by rw[x4];ac_rfl)
 have B1b:=B1a.same s8
 have B2b:=B2a.same s8
 have hS8:=s8.seq hS7
 have ne:c1.kd≠c4.kd:=by rw[k1,k4];exact zrm W _ (by ac_rfl)
 nofun
 refine ⟨a4,A4,c4,a1,A1,c1,false,rfl,⟨B4,o4⟩,⟨B1b,o1⟩,⟨fun z=>(by cases z),fun z=>absurd z.kd.symm ne⟩,?_⟩
 nofun
 refine ⟨a1,A1,c1,a4,A4,c4,false,rfl,⟨B1b,o1⟩,⟨B4,o4⟩,⟨fun z=>(by cases z),fun z=>absurd z.kd ne⟩,?_⟩
 nofun
 refine ⟨a1,A1,c1,a2,A2,c2,true,rfl,⟨B1b,o1⟩,⟨B2b,o2⟩,⟨fun _=>zae.kinder I1 I2 (by rw[k1,k2]) (by rw[g1,g2]) (by rw[x1,x2];exact ke3 _),fun _=>rfl⟩,?_⟩
 nofun
 refine ⟨a1,A1,c1,a1,A1,c1,true,rfl,⟨B1b,o1⟩,⟨B1b,o1⟩,⟨fun _=>zp6 _,fun _=>rfl⟩,?_⟩
 nofun
 first | exact ⟨a,ns,rfl,hS8,fun H'=>h _⟩ | exact ⟨hS8,h⟩ | trace_state
end
theorem zsj {K:W.Frag} {mg:Str->Option Value} (T:Txt K mg) (zgi:Src K mg "table_of" zeo qaf) (zjP:Src K mg "begun" zh7 qar) (zdk:Src K mg "running_sums" zb4 ["rows"]) (zi4:Src K mg "joined" zgK ["spans"]) (ziI:Src K mg "breaks" zgH qba) (zgk:Src K mg "is_whole" zei qad) (zhM:Src K mg "is_leap" zff qai) (zgo:Src K mg "new_year" zee qai) (ziW:Src K mg "summed" zgN qaf) (zfr:Src K mg "_law_draw" zdM qbb) (zfP:Src K mg "_law_spec" zdL qbc) (ze9:Src K mg "_law_count" zcH qas) (zd9:Src K mg "_law_places" zcs qao) (zgI:Src K mg "value_at" zeh qat) (zfR:Src K mg "late_sums" zds ["book"]) (zj4:Src K mg "moved" zhY qah) (ziD:Src K mg "is_day" zgx qad) (zeO:Src K mg "month_days" zc7 qap) (zfK:Src K mg "is_within" zdF qav) (zi5:Src K mg "sum_by" zgh qac) (zhK:Src K mg "days_of" zfk qac) (zeH:Src K mg "rate_table" zcO qac) (zdY:Src K mg "still_spans" zcu qbd) (zfA:Src K mg "_law_cell" zdK qan) (ze2:Src K mg "_law_eased" zcM qak) (zdW:Src K mg "_law_harder" zct qak) (ziS:Src K mg "stands" zgq qah) (zhU:Src K mg "is_date" zfl qaj) (zcx:Src K mg "is_never_above" zbD qab) (zea:Src K mg "check_terms" zcp qaw) (zd7:Src K mg "fallen_dues" zco qax) (ze1:Src K mg "_law_specs" zc9 qbe) (ziL:Src K mg "day_of" zgG qaj) (zgB:Src K mg "charging" zel qbf) (zbV:Src K mg "is_asked_no_more" za0 qab) (zeJ:Src K mg "_law_entry" zc2 qbg) (zbx:Src K mg "is_charged_no_more" zaN qab) (zfD:Src K mg "is_kinder" zdO qab) (zfL:Src K mg "_law_book" zdN qaq) (zfW:Src K mg "_law_says" zdw qaz) (zcg:Src K mg "_law_weightless" za7 qal) (zlq:Src K mg "law" zjn qal) (zeS:zA K (cA K (Ek.cls .out)) "word" "Out.word" zef qaa) (zfc:zA K (cA K (Ek.cls .fee)) "word" "Fee.word" zej qaa) (zeT:zA K (cA K (Ek.cls .pay)) "word" "Pay.word" zeg qaa) (zeL:zA K (cA K (Ek.cls .due)) "word" "Due.word" zeq qaa) (zd6:zA K (cA K (Ek.cls .turn)) "word" "Turn.word" zdE qaa) (zd1:zA K (cA K (Ek.cls .rate)) "word" "Rate.word" zdB qaa) (zd5:zA K (cA K (Ek.cls .late)) "word" "Late.word" zdy qaa) (zdj:zA K (cA K (Ek.cls .still)) "word" "Still.word" zcR qaa) (zd3:zA K (cA K (Ek.cls .base)) "word" "Entry.word" zc6 qaa) (zgp:zA K (cA K "Due") "__init__" "AmountEntry.__init__" zR qae) (zgE:zA K (cA K "Fee") "__init__" "AmountEntry.__init__" zR qae) (zfN:zA K (cA K "Late") "__init__" "RateEntry.__init__" zaB qam) (zgu:zA K (cA K "Out") "__init__" "AmountEntry.__init__" zR qae) (zgm:zA K (cA K "Pay") "__init__" "AmountEntry.__init__" zR qae) (zfw:zA K (cA K "Rate") "__init__" "RateEntry.__init__" zaB qam) (ze6:zA K (cA K "Still") "__init__" "Still.__init__" zc3 qau) (zfy:zA K (cA K "Turn") "__init__" "Entry.__init__" zaS qag) (zdc:zlr K (cA K "Entry") "__init__" "Entry.__init__" zaS qag) (ze7:zA K (cA K "Book") "count" "Book.count" zcP qaa) (zfG:zA K (cA K "Book") "dues" "Book.dues" zdH qaa) (zft:zA K (cA K "Book") "fees" "Book.fees" zdD qaa) (zeV:zA K (cA K "Book") "grace" "Book.grace" zc1 qaa) (zeW:zA K (cA K "Book") "lates" "Book.lates" zcS qaa) (zfx:zA K (cA K "Book") "outs" "Book.outs" zdz qaa) (zfu:zA K (cA K "Book") "pays" "Book.pays" zdu qaa) (ze4:zA K (cA K "Book") "rates" "Book.rates" zcY qaa) (zd2:zA K (cA K "Book") "stills" "Book.stills" zcq qaa) (ze5:zA K (cA K "Book") "turns" "Book.turns" zcZ qaa) (zfI:zA K (cA K "Book") "__init__" "Book.__init__" zdA qay) (zeC:zA K (cA K (Kd.cls .plain)) "name" "Count.name" zcW qaa) (zfU:zA K (cA K (Kd.cls .bank)) "name" "Bank.name" zdI qaa) (zdZ:zA K (cA K (Kd.cls .thirty)) "name" "Thirty.name" zcm qaa) (ze0:zA K (cA K (Kd.cls .exact)) "name" "Exact.name" zcQ qaa) {P:Program} {w:World} {base:Heap}:Def P w K mg base 9 "law" qal (zlK K):=by
 have zgM:=zoD (P:=P) (w:=w) (base:=base) zgi T
 have zew:=zr7 (P:=P) (w:=w) (base:=base) zjP T
 have zan:=zkg (P:=P) (w:=w) (base:=base) zdk T
 have ziX:=zq5 (P:=P) (w:=w) (base:=base) zi4 T
 have ziZ:=zqu (P:=P) (w:=w) (base:=base) ziI T
 have zav:=zoB (P:=P) (w:=w) (base:=base) zgk T
 have zhJ:=zo2 (P:=P) (w:=w) (base:=base) zhM T
 have zgy:=zoC (P:=P) (w:=w) (base:=base) zgo T
 have zgQ:∀ kd:Kd,zJ P w K mg base 1 (cA K kd.cls) "name" qaa (zcD kd K):=fun kd=>by
  cases kd
  ·exact zlx .plain (by simp) zeC T
  ·exact zm8 .bank (by simp) zfU T
  ·exact zld .thirty (by simp) zdZ T
  ·exact zlz .exact (by simp) ze0 T
 have zT:=zk6 (P:=P) (w:=w) (base:=base) zdc T
 have zfs:=zmi (P:=P) (w:=w) (base:=base) "Turn" zfy T
 have zaK:∀ k:Ek,zJ P w K mg base 1 (cA K k.cls) "word" qaa (zaq k K):=fun k=>by
  cases k
  ·exact zov .out (by simp) zeS T
  ·exact zoh .fee (by simp) zfc T
  ·exact zok .pay (by simp) zeT T
  ·exact zot .due (by simp) zeL T
  ·exact znm .turn (by simp) zd6 T
  ·exact zm5 .rate (by simp) zd1 T
  ·exact znu .late (by simp) zd5 T
  ·exact zmo .still (by simp) zdj T
  ·exact zlQ .base (by simp) zd3 T
 have zdb:=zqI (P:=P) (w:=w) (base:=base) ziW T
 have zc8:=zmr (P:=P) (w:=w) (base:=base) ze7 T
 have zfM:=znc (P:=P) (w:=w) (base:=base) zfG T
 have zdG:=znx (P:=P) (w:=w) (base:=base) zft T
 have ze3:=zls (P:=P) (w:=w) (base:=base) zeV T
 have zcN:=zmM (P:=P) (w:=w) (base:=base) zeW T
 have zdx:=zni (P:=P) (w:=w) (base:=base) zfx T
 have zdC:=zm7 (P:=P) (w:=w) (base:=base) zfu T
 have zcT:=zmc (P:=P) (w:=w) (base:=base) ze4 T
 have zaY:=zk2 (P:=P) (w:=w) (base:=base) zd2 T
 have zc5:=zmY (P:=P) (w:=w) (base:=base) ze5 T
 have zdv:=zmZ (P:=P) (w:=w) (base:=base) zfr T
 have zfH:=znD (P:=P) (w:=w) (base:=base) zfP T
 have zeP:=zmI (P:=P) (w:=w) (base:=base) ze9 T
 have zaX:=zll (P:=P) (w:=w) (base:=base) zd9 T
 have zby:=zoo zgI T zew
 have zdt:=znC zfR T zan zfM ze3
 have zey:=zrL zj4 T zew
 have zi1:=zq6 ziD T zav
 have zbm:=zlH zeO T zhJ
 have zgt:=za4 "Due" zgp T zT
 have zgR:=za4 "Fee" zgE T zT
 have zgw:=za4 "Out" zgu T zT
 have zgz:=za4 "Pay" zgm T zT
 have zfB:=zeE "Late" zfN T zT
 have zfV:=zeE "Rate" zfw T zT
 have zeG:=zmW "Still" ze6 T zT
 have zfv:=zm6 zfK T zav
 have zbS:=zp5 zi5 T zdb zaK
 have zhj:=zpZ zhK T zaK
 have zcX:=zmg zeH T zgM zaK
 have zd4:=zk8 zdY T zaK ziX
 have zaa:=znE zfA T zdv
 have zeU:=zl2 ze2 T zaX
 have zeb:=zk4 zdW T zaX
 have ziK:=zp7 ziS T zey
 have zhx:=zo7 zhU T zav zbm
 have zaf:=ziM zcx T zby
 have zdX:=zkU zea T zfv
 have zec:=zk7 zd7 T zdb zbS zey
 have zeF:=zlJ ze1 T zaa zfH
 have zi3:=zqY ziL T zhx zbm zgy zi1
 have zca:=zob zgB T ziZ ziK zby
 have zb1:=zg7 zbV T zaf zan zdC zdG zdt
 have zfE:=znt zfI T zdX zbS zhj zcX zd4 zec
 have zeM:=zmf zeJ T zgw zgz zgt zgR zfV zfB zeG zfs
 have zbF:=zgO zbx T zaf zca zaY zcT zcN
 have zfO:=znf zfD T zdx zgQ zc8 zc5 zbF zb1
 have zam:=znB zfL T zfE zeM zeP
 have zac:=zns zfW T zfO
 have zce:=zii zcg T zaa zi3 zam zac
 have ztd:=zs4 zlq T zaa zeF zeU zam zeb zac zce
 exact ztd
end My
local macro_rules | `(tactic| walk_at "m")=>do
 let [i,f,k,l,c,b]:=[`i,`f,`k,`l,`c,`b].map Lean.mkIdent | unreachable!
 `(tactic| ((case $i:ident=>k_is);(case $f:ident=>k_is);(case $k:ident=>k_is);(case $l:ident=>k_is);(case $c:ident=>k_is);(case $b:ident=>walk_at "s1")))
local macro_rules | `(tactic| walk_at "n")=>do
 let [a,l,c,k,b]:=[`a,`l,`c,`k,`b].map Lean.mkIdent | unreachable!
 `(tactic| ((case $a:ident=>k_is);(case $l:ident=>k_is);(case $c:ident=>k_is);(case $k:ident=>k_is);(case $b:ident=>walk_at "s1")))
local macro_rules | `(tactic| exists $x:term,$y:term,$z:term,$t:term,$u:term)=>do
 let [i,f,k,l,c,b]:=[`i,`f,`k,`l,`c,`b].map Lean.mkIdent | unreachable!
 `(tactic| (refine' L2.zL (m:=$x) (qual:=$y) (st:=$z) (ps:=$t) $u ?$i ?$f ?$k ?$l ?$c ?$b;walk_at "m"))
local macro_rules | `(tactic| exists $x:term,$y:term,$t:term)=>do
 let [X,G,a,l,c,k,b]:=[`KX,`G,`a,`l,`c,`k,`b].map Lean.mkIdent | unreachable!
 `(tactic| (refine' L2.zF (x:=$x) (st:=$y) (ps:=$t) $X $G ?$a ?$l ?$c ?$k ?$b;walk_at "n"))
open PySem PySem.W PyProof.Rows L2 My
set_option maxRecDepth 100000 in
set_option maxHeartbeats 0 in
theorem PySem.Challenge.cw_loanroll_k73_harder_by_one_holds : PySem.Challenge.rw_loanroll_k73_harder_by_one.Holds := by
 refine _root_.hd ?_
 k_fill
 refine zqF (l:=PySem.Challenge.rw_loanroll_k73_harder_by_one) (lv:=9) (sp:=zlK) (x:="_law_script") (st:=zjn) rfl rfl rfl ⟨rfl,by decide,by decide⟩ (fun w h Y=>PySem.W.kIn_of Y) ?F (fun K H a ns hl hS=>⟨a,ns,rfl,hS,hl,fun _=>rfl⟩)
 case F =>
  intro w mg h KX G
  have zod:mg "all" = none:=mg_none_of KX G (by k_is)
  have zjy:mg "bool" = none:=mg_none_of KX G (by k_is)
  have zms:mg "dict" = none:=mg_none_of KX G (by k_is)
  have zoc:mg "int" = none:=mg_none_of KX G (by k_is)
  have zbj:mg "isinstance" = none:=mg_none_of KX G (by k_is)
  have zbB:mg "len" = none:=mg_none_of KX G (by k_is)
  have zbG:mg "list" = none:=mg_none_of KX G (by k_is)
  have zen:mg "max" = none:=mg_none_of KX G (by k_is)
  have zoY:mg "min" = none:=mg_none_of KX G (by k_is)
  have zdn:mg "range" = none:=mg_none_of KX G (by k_is)
  have zig:mg "set" = none:=mg_none_of KX G (by k_is)
  have zcv:mg "sorted" = none:=mg_none_of KX G (by k_is)
  have zoi:mg "sum" = none:=mg_none_of KX G (by k_is)
  have a_Bank:=by refine' za1 (x:="Bank") KX ?a;case a=>k_is
  have a_Book:=by refine' za1 (x:="Book") KX ?a;case a=>k_is
  have a_Count:=by refine' za1 (x:="Count") KX ?a;case a=>k_is
  have a_Due:=by refine' za1 (x:="Due") KX ?a;case a=>k_is
  have a_Entry:=by refine' za1 (x:="Entry") KX ?a;case a=>k_is
  have a_Exact:=by refine' za1 (x:="Exact") KX ?a;case a=>k_is
  have a_Fee:=by refine' za1 (x:="Fee") KX ?a;case a=>k_is
  have a_Late:=by refine' za1 (x:="Late") KX ?a;case a=>k_is
  have a_Out:=by refine' za1 (x:="Out") KX ?a;case a=>k_is
  have a_Pay:=by refine' za1 (x:="Pay") KX ?a;case a=>k_is
  have a_Rate:=by refine' za1 (x:="Rate") KX ?a;case a=>k_is
  have a_Still:=by refine' za1 (x:="Still") KX ?a;case a=>k_is
  have a_Thirty:=by refine' za1 (x:="Thirty") KX ?a;case a=>k_is
  have a_Turn:=by refine' za1 (x:="Turn") KX ?a;case a=>k_is
  have cls_Count:=by refine' za3 a_Count ?_ ?_ ?_ ?_;all_goals k_is
  have zpK:=by refine' zjs a_Count ?_ ?_ ?_;all_goals k_is
  have cls_Bank:=by refine' za3 a_Bank ?_ ?_ ?_ ?_;all_goals k_is
  have zqh:=by refine' zjs a_Bank ?_ ?_ ?_;all_goals k_is
  have cls_Thirty:=by refine' za3 a_Thirty ?_ ?_ ?_ ?_;all_goals k_is
  have zoK:=by refine' zjs a_Thirty ?_ ?_ ?_;all_goals k_is
  have cls_Exact:=by refine' za3 a_Exact ?_ ?_ ?_ ?_;all_goals k_is
  have zpc:=by refine' zjs a_Exact ?_ ?_ ?_;all_goals k_is
  have zeC:=by exists "name","Count.name",zcW,qaa,a_Count
  have zfU:=by exists "name","Bank.name",zdI,qaa,a_Bank
  have zdZ:=by exists "name","Thirty.name",zcm,qaa,a_Thirty
  have ze0:=by exists "name","Exact.name",zcQ,qaa,a_Exact
  have ikK_Count:=by refine' zib a_Count ?_ ?_ ?_ ?_;all_goals k_is
  have kS_Count:=by refine' zic (v:=false) (n:="str") a_Count ?_;kit_is
  have kK_Count_Count:=by refine' zjc (v:=true) a_Count a_Count ?_;kit_is
  have ikK_Bank:=by refine' zib a_Bank ?_ ?_ ?_ ?_;all_goals k_is
  have kS_Bank:=by refine' zic (v:=false) (n:="str") a_Bank ?_;kit_is
  have kK_Bank_Count:=by refine' zjc (v:=true) a_Bank a_Count ?_;kit_is
  have ikK_Thirty:=by refine' zib a_Thirty ?_ ?_ ?_ ?_;all_goals k_is
  have kS_Thirty:=by refine' zic (v:=false) (n:="str") a_Thirty ?_;kit_is
  have kK_Thirty_Count:=by refine' zjc (v:=true) a_Thirty a_Count ?_;kit_is
  have ikK_Exact:=by refine' zib a_Exact ?_ ?_ ?_ ?_;all_goals k_is
  have kS_Exact:=by refine' zic (v:=false) (n:="str") a_Exact ?_;kit_is
  have kK_Exact_Count:=by refine' zjc (v:=true) a_Exact a_Count ?_;kit_is
  have zlG:=zc4 KX G a_Bank
  have zlV:=zc4 KX G a_Book
  have zia:=zc4 KX G a_Count
  have zoS:=zc4 KX G a_Due
  have zf8:=zc4 KX G a_Entry
  have zjO:=zc4 KX G a_Exact
  have zoH:=zc4 KX G a_Fee
  have zmD:=zc4 KX G a_Late
  have zox:=zc4 KX G a_Out
  have zor:=zc4 KX G a_Pay
  have zmV:=zc4 KX G a_Rate
  have zkb:=zc4 KX G a_Still
  have ziB:=zc4 KX G a_Thirty
  have zlO:=zc4 KX G a_Turn
  have zB:=by refine' za3 a_Book ?_ ?_ ?_ ?_;all_goals k_is
  have zjJ:=by refine' zcF a_Book ?_ ?_;all_goals k_is
  have clE_Out:=by refine' za3 a_Out ?_ ?_ ?_ ?_;all_goals k_is
  have clE_Fee:=by refine' za3 a_Fee ?_ ?_ ?_ ?_;all_goals k_is
  have clE_Pay:=by refine' za3 a_Pay ?_ ?_ ?_ ?_;all_goals k_is
  have clE_Due:=by refine' za3 a_Due ?_ ?_ ?_ ?_;all_goals k_is
  have clE_Turn:=by refine' za3 a_Turn ?_ ?_ ?_ ?_;all_goals k_is
  have clE_Rate:=by refine' za3 a_Rate ?_ ?_ ?_ ?_;all_goals k_is
  have clE_Late:=by refine' za3 a_Late ?_ ?_ ?_ ?_;all_goals k_is
  have clE_Still:=by refine' za3 a_Still ?_ ?_ ?_ ?_;all_goals k_is
  have clE_Entry:=by refine' za3 a_Entry ?_ ?_ ?_ ?_;all_goals k_is
  have zjX:=by
   refine' zK (name:="amount") a_Out ?_
   k_is
  have zkc:=by
   refine' zK (name:="amount") a_Fee ?_
   k_is
  have zj9:=by
   refine' zK (name:="amount") a_Pay ?_
   k_is
  have zjF:=by
   refine' zK (name:="amount") a_Due ?_
   k_is
  have zjx:=by
   refine' zK (name:="amount") a_Turn ?_
   k_is
  have zjA:=by
   refine' zK (name:="amount") a_Rate ?_
   k_is
  have zjb:=by
   refine' zK (name:="amount") a_Late ?_
   k_is
  have ziO:=by
   refine' zK (name:="amount") a_Still ?_
   k_is
  have zi6:=by
   refine' zK (name:="amount") a_Entry ?_
   k_is
  have zm4:=by
   refine' zK (name:="day") a_Out ?_
   k_is
  have znr:=by
   refine' zK (name:="day") a_Fee ?_
   k_is
  have znw:=by
   refine' zK (name:="day") a_Pay ?_
   k_is
  have znp:=by
   refine' zK (name:="day") a_Due ?_
   k_is
  have zlA:=by
   refine' zK (name:="day") a_Turn ?_
   k_is
  have zmS:=by
   refine' zK (name:="day") a_Rate ?_
   k_is
  have zlT:=by
   refine' zK (name:="day") a_Late ?_
   k_is
  have zkY:=by
   refine' zK (name:="day") a_Still ?_
   k_is
  have zkP:=by
   refine' zK (name:="day") a_Entry ?_
   k_is
  have zlR:=by
   refine' zK (name:="rate") a_Out ?_
   k_is
  have zmh:=by
   refine' zK (name:="rate") a_Fee ?_
   k_is
  have zl5:=by
   refine' zK (name:="rate") a_Pay ?_
   k_is
  have zmR:=by
   refine' zK (name:="rate") a_Due ?_
   k_is
  have zkT:=by
   refine' zK (name:="rate") a_Turn ?_
   k_is
  have zlg:=by
   refine' zK (name:="rate") a_Rate ?_
   k_is
  have zle:=by
   refine' zK (name:="rate") a_Late ?_
   k_is
  have zka:=by
   refine' zK (name:="rate") a_Still ?_
   k_is
  have zj2:=by
   refine' zK (name:="rate") a_Entry ?_
   k_is
  have zli:=by
   refine' zK (name:="until") a_Out ?_
   k_is
  have zlh:=by
   refine' zK (name:="until") a_Fee ?_
   k_is
  have zk9:=by
   refine' zK (name:="until") a_Pay ?_
   k_is
  have zkV:=by
   refine' zK (name:="until") a_Due ?_
   k_is
  have zj6:=by
   refine' zK (name:="until") a_Turn ?_
   k_is
  have zjI:=by
   refine' zK (name:="until") a_Rate ?_
   k_is
  have zjD:=by
   refine' zK (name:="until") a_Late ?_
   k_is
  have zjo:=by
   refine' zK (name:="until") a_Still ?_
   k_is
  have zjm:=by
   refine' zK (name:="until") a_Entry ?_
   k_is
  have zmA:=by refine' zcF a_Due ?_ ?_;all_goals k_is
  have zl0:=by refine' zcF a_Fee ?_ ?_;all_goals k_is
  have zj5:=by refine' zcF a_Late ?_ ?_;all_goals k_is
  have zmK:=by refine' zcF a_Out ?_ ?_;all_goals k_is
  have zl9:=by refine' zcF a_Pay ?_ ?_;all_goals k_is
  have zjL:=by refine' zcF a_Rate ?_ ?_;all_goals k_is
  have ziF:=by refine' zcF a_Still ?_ ?_;all_goals k_is
  have zkf:=by refine' zcF a_Turn ?_ ?_;all_goals k_is
  have zeS:=by exists "word","Out.word",zef,qaa,a_Out
  have zfc:=by exists "word","Fee.word",zej,qaa,a_Fee
  have zeT:=by exists "word","Pay.word",zeg,qaa,a_Pay
  have zeL:=by exists "word","Due.word",zeq,qaa,a_Due
  have zd6:=by exists "word","Turn.word",zdE,qaa,a_Turn
  have zd1:=by exists "word","Rate.word",zdB,qaa,a_Rate
  have zd5:=by exists "word","Late.word",zdy,qaa,a_Late
  have zdj:=by exists "word","Still.word",zcR,qaa,a_Still
  have zd3:=by exists "word","Entry.word",zc6,qaa,a_Entry
  have zgp:=by exists "__init__","AmountEntry.__init__",zR,qae,a_Due
  have zgE:=by exists "__init__","AmountEntry.__init__",zR,qae,a_Fee
  have zfN:=by exists "__init__","RateEntry.__init__",zaB,qam,a_Late
  have zgu:=by exists "__init__","AmountEntry.__init__",zR,qae,a_Out
  have zgm:=by exists "__init__","AmountEntry.__init__",zR,qae,a_Pay
  have zfw:=by exists "__init__","RateEntry.__init__",zaB,qam,a_Rate
  have ze6:=by exists "__init__","Still.__init__",zc3,qau,a_Still
  have zfy:=by exists "__init__","Entry.__init__",zaS,qag,a_Turn
  have zdc:=by
   refine' zsa (m:="__init__") (qual:="Entry.__init__") (st:=zaS) (ps:=qag) a_Entry ?x1 ?x2 ?x3 ?x4 ?k ?l ?c ?b
   (case x1|x2|x3=>k_is);(case x4=>rfl);(case k|l|c=>k_is)
   case b=>exact L2.us2 fun _ _=>rfl
  have zbE:=by
   refine' zK (name:="due_sums") a_Book ?_
   k_is
  have zbr:=by
   refine' zK (name:="fee_sums") a_Book ?_
   k_is
  have zbd:=by
   refine' zK (name:="late_rows") a_Book ?_
   k_is
  have zbs:=by
   refine' zK (name:="out_sums") a_Book ?_
   k_is
  have zbe:=by
   refine' zK (name:="own_count") a_Book ?_
   k_is
  have zbL:=by
   refine' zK (name:="own_entries") a_Book ?_
   k_is
  have za9:=by
   refine' zK (name:="own_grace") a_Book ?_
   k_is
  have zbv:=by
   refine' zK (name:="pay_sums") a_Book ?_
   k_is
  have zbb:=by
   refine' zK (name:="rate_rows") a_Book ?_
   k_is
  have zbH:=by
   refine' zK (name:="spans") a_Book ?_
   k_is
  have zba:=by
   refine' zK (name:="turn_days") a_Book ?_
   k_is
  have ze7:=by exists "count","Book.count",zcP,qaa,a_Book
  have zfG:=by exists "dues","Book.dues",zdH,qaa,a_Book
  have zft:=by exists "fees","Book.fees",zdD,qaa,a_Book
  have zeV:=by exists "grace","Book.grace",zc1,qaa,a_Book
  have zeW:=by exists "lates","Book.lates",zcS,qaa,a_Book
  have zfx:=by exists "outs","Book.outs",zdz,qaa,a_Book
  have zfu:=by exists "pays","Book.pays",zdu,qaa,a_Book
  have ze4:=by exists "rates","Book.rates",zcY,qaa,a_Book
  have zd2:=by exists "stills","Book.stills",zcq,qaa,a_Book
  have ze5:=by exists "turns","Book.turns",zcZ,qaa,a_Book
  have zfI:=by exists "__init__","Book.__init__",zdA,qay,a_Book
  have zfa:=by refine' zh1 (mg:=mg) (x:="FIRST_YEAR") (i:=2000) KX G ?a;case a=>k_is
  have zcU:=by refine' zh1 (mg:=mg) (x:="LAST_DAY") (i:=999999) KX G ?a;case a=>k_is
  have zhm:=by
   refine' zr6 (mg:=mg) (x:="LENGTHS") (xs:=[.int 31,.int 28,.int 31,.int 30,.int 31,.int 30,.int 31,.int 31,.int 30,.int 31,.int 30,.int 31]) KX G ?a ?l ?r ?z
   case a|l=>k_is
   (case r=>repeat (first | exact .nil | refine .cons ⟨_,rfl⟩ ?_))
   (case z=>decide)
  have zde:=by refine' zh1 (mg:=mg) (x:="MOST_ENTRIES") (i:=500) KX G ?a;case a=>k_is
  have zfd:=by refine' zh1 (mg:=mg) (x:="MOST_GRACE") (i:=366) KX G ?a;case a=>k_is
  have zgi:=by exists "table_of",zeo,qaf
  have zjP:=by exists "begun",zh7,qar
  have zdk:=by exists "running_sums",zb4,["rows"]
  have zi4:=by exists "joined",zgK,["spans"]
  have ziI:=by exists "breaks",zgH,qba
  have zgk:=by exists "is_whole",zei,qad
  have zhM:=by exists "is_leap",zff,qai
  have zgo:=by exists "new_year",zee,qai
  have ziW:=by exists "summed",zgN,qaf
  have zfr:=by exists "_law_draw",zdM,qbb
  have zfP:=by exists "_law_spec",zdL,qbc
  have ze9:=by exists "_law_count",zcH,qas
  have zd9:=by exists "_law_places",zcs,qao
  have zgI:=by exists "value_at",zeh,qat
  have zfR:=by exists "late_sums",zds,["book"]
  have zj4:=by exists "moved",zhY,qah
  have ziD:=by exists "is_day",zgx,qad
  have zeO:=by exists "month_days",zc7,qap
  have zfK:=by exists "is_within",zdF,qav
  have zi5:=by exists "sum_by",zgh,qac
  have zhK:=by exists "days_of",zfk,qac
  have zeH:=by exists "rate_table",zcO,qac
  have zdY:=by exists "still_spans",zcu,qbd
  have zfA:=by exists "_law_cell",zdK,qan
  have ze2:=by exists "_law_eased",zcM,qak
  have zdW:=by exists "_law_harder",zct,qak
  have ziS:=by exists "stands",zgq,qah
  have zhU:=by exists "is_date",zfl,qaj
  have zcx:=by exists "is_never_above",zbD,qab
  have zea:=by exists "check_terms",zcp,qaw
  have zd7:=by exists "fallen_dues",zco,qax
  have ze1:=by exists "_law_specs",zc9,qbe
  have ziL:=by exists "day_of",zgG,qaj
  have zgB:=by exists "charging",zel,qbf
  have zbV:=by exists "is_asked_no_more",za0,qab
  have zeJ:=by exists "_law_entry",zc2,qbg
  have zbx:=by exists "is_charged_no_more",zaN,qab
  have zfD:=by exists "is_kinder",zdO,qab
  have zfL:=by exists "_law_book",zdN,qaq
  have zfW:=by exists "_law_says",zdw,qaz
  have zcg:=by exists "_law_weightless",za7,qal
  have zlq:=by exists "law",zjn,qal
  exact ⟨zlq,fun base=>zsj (⟨zod,zjy,zms,zoc,zbj,zbB,zbG,zen,zoY,zdn,zig,zcv,zoi,(fun kd=>match kd with | .plain=>cls_Count | .bank=>cls_Bank | .thirty=>cls_Thirty | .exact=>cls_Exact),(fun kd=>match kd with | .plain=>zpK | .bank=>zqh | .thirty=>zoK | .exact=>zpc),(fun kd=>match kd with | .plain=>ikK_Count | .bank=>ikK_Bank | .thirty=>ikK_Thirty | .exact=>ikK_Exact),(fun k=>match k with | .plain=>kK_Count_Count | .bank=>kK_Bank_Count | .thirty=>kK_Thirty_Count | .exact=>kK_Exact_Count),(fun kd=>match kd with | .plain=>kS_Count | .bank=>kS_Bank | .thirty=>kS_Thirty | .exact=>kS_Exact),zlG,zlV,zia,zoS,zf8,zjO,zoH,zmD,zox,zor,zmV,zkb,ziB,zlO,zB,zjJ,(fun k=>match k with | .out=>clE_Out | .fee=>clE_Fee | .pay=>clE_Pay | .due=>clE_Due | .turn=>clE_Turn | .rate=>clE_Rate | .late=>clE_Late | .still=>clE_Still | .base=>clE_Entry),(fun k=>match k with | .out=>zjX | .fee=>zkc | .pay=>zj9 | .due=>zjF | .turn=>zjx | .rate=>zjA | .late=>zjb | .still=>ziO | .base=>zi6),(fun k=>match k with | .out=>zm4 | .fee=>znr | .pay=>znw | .due=>znp | .turn=>zlA | .rate=>zmS | .late=>zlT | .still=>zkY | .base=>zkP),(fun k=>match k with | .out=>zlR | .fee=>zmh | .pay=>zl5 | .due=>zmR | .turn=>zkT | .rate=>zlg | .late=>zle | .still=>zka | .base=>zj2),(fun k=>match k with | .out=>zli | .fee=>zlh | .pay=>zk9 | .due=>zkV | .turn=>zj6 | .rate=>zjI | .late=>zjD | .still=>zjo | .base=>zjm),zmA,zl0,zj5,zmK,zl9,zjL,ziF,zkf,zbE,zbr,zbd,zbs,zbe,zbL,za9,zbv,zbb,zbH,zba,zfa,zcU,zhm,zde,zfd⟩:My.Txt _ mg) zgi zjP zdk zi4 ziI zgk zhM zgo ziW zfr zfP ze9 zd9 zgI zfR zj4 ziD zeO zfK zi5 zhK zeH zdY zfA ze2 zdW ziS zhU zcx zea zd7 ze1 ziL zgB zbV zeJ zbx zfD zfL zfW zcg zlq zeS zfc zeT zeL zd6 zd1 zd5 zdj zd3 zgp zgE zfN zgu zgm zfw ze6 zfy zdc ze7 zfG zft zeV zeW zfx zfu ze4 zd2 ze5 zfI zeC zfU zdZ ze0⟩
