import PyProof.Rows.All
import Wide.All
import OpenK.KSplit
import OpenK.KNot
import OpenK.KApp
import KE.KIsAll
import KE.RegKIsAll
import KE.LcSums
import KE.KItem
import KE.KSortTup
import KE.KSortAsk
import KE.KDictOf
import KE.KItemsList
import Wide.FinOn
import Lean
import PyProof.EqAt
import PyProof.EqKinds
import PyProof.TupleCall
import PyProof.IsRules
import PyProof.DictDisplay
import PySem.Challenge.RW_loanroll_k67_no_days_no_room
import KE.KTryMore
set_option Elab.async false
set_option linter.all false
set_option maxRecDepth 100000
set_option maxHeartbeats 20000000
noncomputable section
set_option genSizeOf false
set_option compiler.extract_closed false
namespace PySem.W.Fast
local macro_rules | `(command| #check [$x,*])=>do
 return Lean.mkNullNode (<-x.getElems.mapM λ x=>`(command| noncomputable def $(Lean.mkIdent (.mkSimple s!"tw{x.raw.isNatLit?.get!}")):ident:=0))
#check [2937031921306681465,690539893999619301,2408532460042181342,861502493610598483,16580059889774706942,10673173482417419163,10405434455219669512,6430397310068524805,4549447344703680948,16549743009188526336,7774113678449685934,4670614919966055157,10334059593023228548,9692319085095946327,17026682123665591243,2323540548168759778,9302633422176391920,1807303495852506956,4666538515292985638,10223898402276761379,13700598899030691371,5617726103321767126,9531498673976155525,7350815061649186375,6172094611929405055,5341297951324810720,14572810596863954285,14036186469904095446,15675113775076693554,10539347186207431242,11153126096140912846,11317637306720784765,8833496514701923757,15548556159435276069,17382457898008728272,9296065175928017463,13567515925198824819,12747814925858328940,14935156969734317764,12884060626414724322,7212858340449540239,8997383693586321770,1408037953688414895,14479964200598819128,14329579894275425762,16721508838639397229,8171798328758944481,12408111787983249662,15538050117781545361,14611616552423853409,6094820017090691545,3475869608268796686,5890639436620234070,2931988195819169919,1181674027530198351,17590705303994421779,424408320835691240,726351398001015727,1915925776726481438,14081431093454284249,18328257000508772394,14391293386007564604,12930229547647579594,1070438729232803039,12843764043397292189,7900394595670775223,17817366049700826239,9806118890596472461,6105849179199505303,12750670339961964742,17713387462200973399,4493901809537577575,8996207646774452837,16380965088707415623,8757050672659960515,9215358943560890414,12064304430848566033,5388589039460942527,13601115934706021691,15621415185263527259,12542895121996172375,11263768400469242888,18315589098978748413,8166255043249204926,16309811473084048462,5444512763150141072,6145912378217320015,4290864757253303354,640624198105042115,8232614014015475128,2997492091776894028,8169181323010550108,11564986514327137767,18335596039185421423,4565167180653195659,15052318979288761249,15438627641174518403,12549542988036985293,13813618637161013713,9433028549170029634,2015444344454546412,10295913840692754127,16060203290454839817,5072417060200589145,2869065659524454656,2333105410213810865,16925712312323332580,3270257207059953099,2597523674469684444,5008593111378822452,4313010194945074917,17980500129456985241,12396662096508845406,18105302477358141223,4884199854448574,3721919958574915784,15733337929971156237,2789304352393801511,4862731742212079515,6526287140368922620,9592300441314626372,18310463660012746435,12903330217458380548,17916429707943930468,2990168724187919761,6701911527682315725,12298192366917762067,13215348057498601715,14842496431369740429,13956191218907399338,16409965706819354750,4096438862311573950,5994696166404524948,2950685276103557050,7501186508268903616,7248502633702864892,9630203353718772412,9223045988441327695,7538781388859322016,1692201390411429781,3681537716864247207,7249310025045793396,10026605065719503897,9536688357841153863,13855379610559885079,3641951560692057861,9860861378791804195,13953587524928339648,14782954611325821827,8186657734068701312,4382473104129494423,7476452910721959123,15577281813014381367,16422413458241162112,13459084325293418506,11161164713144168021,8157277791214410489,9388713150524257201,5960047855520388891,11219443903484984970,6278996535519779258,8995945545434573385,14135006944967825841,17312402878845073609,7607420049574824106,16145670418848962200,209982475168477708,4480162626587320490,5274481202262711730,15127105006835628225,16120054744476736488,17163426234232328066,4903002758410956813,5217270863462422736,16864618592142003386,8432719020341155521,11844019762684407370,14958820412457663293,8899516883271353254,256976265262469064,16531682779099013679,5000232492035539693,18367749455379333440,16226643914720891334,4562827626845409882,6128106870883400570,11384182702204212275,9317495090193701157,15166322114958858414,9461873434466728008,18383651708701053236,4953865588907285216,8080008513338510535,9197174079833555027,15235614512728720,5002640475654186023,2187251505897268136,7181997581385953548,2810200551564342888,12369848792361866835]
#check [3801850119919557013,10550934584343373414,599730875272715187,4341293187932698999,3436067635600285980,3831019782443316194,14607143338591219252,8274446707539698164,14617222483516278133,12901003280762261817,8908233856664302321,12125097214300078407,7220529860990300233,16005714805435085966,17680797132471856694,16248296213531012650,16670775579421159206,896878414759379649,11180800956215176064,4449297822257671152,5462360663327728810,10792498714594961201,10888863842102328177,16003985067176294414,14592624751514493413,16756451883985382160,9304451534382375720,13367274342830030513,17435391645217708394,16723463757517087524,87601786513091389,1207101557538958131,10159399881129095643,12269216009862288129,6469784823511061222,17659185236578331656,18183970276198133131,11401859456886640639,12297992134047619483,8739830900816887780,4683681711962371626,15895094517606616290,1495895850433845275,2827255003249426055,14746253646979254834,15805137534098808535,5344687154915797982,9456574344343218679,5285915839522022235,13366278800048369731,206757683497733573,1599053048872161195,10282777137419654623,14398111036562950334,18157406047293677543,4548300405975405348,2046362190076281809,5395340147747708899,12681666616541194006,10988764466652934233,9950792792127014553,6030501089693204938,699815216081779126,12250869413391326473,2386784164831690217,6208910965292489261,211337195705725219,5010956058597451964,15433366417846715934,14963028359598502718,622995879521568732,8535803893964050539,12468840222048715292,17360015989920007124,10161179621583223854,5832146486336120021,2868442198168577507,9381626543082597023,2403389108928632939,18418582437962087742,16212330677787901120,3335794202401238526,6331431999304432861,10861573186032746274,10611411778653204182,16493865465440409018,1382182411562308786,4993863958327201973,4323258101793500111,1467881925912835984,16728255500844073214,2358075552688931204,16607193741793207195,14847308668706973960,6248682570935725439,140236481695663071,4075453323654395381,977512076041815475,258204147387103276,14727194681476072466,3374319085511977134,547895379624588593,8972062959192195235,16203965252921439515,8374155422468719031,15861351967447197489,14564479935002850509,8912161614967838395,11738243743197964597,17823556299335049440,14736888041290939073,14993981098963755598,5610444585433571239,16412085850373738351,4046790133079468173,866717566613908145,12330612334027959195,12740759652641322565,6945566481307383155,11076892268299887525,2576523973992343609,13539809779269347639,3985964047577975286,16765560720781731146,9388066449989048879,7350462372000428638,17852080271459398996,15402603294489630176,8752102160057688731,17590876675597686902,12921946191010883867,896239598344801917,16298917771340976007,2080317491765294665,9977182230042388008,172746767574481773,13710940844802916613,6229817132586351632,14689541978594310382,2144661209622563809,18101783494082082527,8331849164307833061,17890440400047909864,4860023922305330110,247591363613054380,296083027919845158,15475723433398761304,18407495941553956032,11095110211248682772,18031968618487185184,13348088958985639553,9744259246892133002,18400553757987027518,14061609134260724683,4772062507164038959,5101696844757716304,12887044766017154078,6575520176995025181,16109456028575089023,1000662321505670351,11823594873375168262,11468729153070441980,17292613610259460706,17016834523296244275,10510019762269167821,5459702643516471331,890339118813698166,12738610918357793766,9972681490609642005,2135409205425526673,17483705464198625004,4039707410889071942,6798380500665416597,15593559885672580101,8909772338491405060,4189273013823423559,13622603851894308203,12003660372656728261,11524815483048965402,6880980288501444468,8222940686941784037,4026147355466621588,18004296560267143027,12459912946257978736,9615563845995560447,7374399212775623666,9646623106273453227,7164969610272591079,2314633323536394700,7970753398140278972,3919386906821981792,14671739901194505220,429539710256275620,14961746396406840608,1864683662541468164,7050804516273991350,14294133066467233204,28018229315631829,13069393092227542028,3350206127114907401]
#check [6607644564249050058,2483420100392427323,15504105790966721872,14219159868682941630,11717715558655726156,1402340071739887797,5483103596317574428,651700358538967526,16797375974695604193,8422229294311615681,6657536258744368796,10826640976665885199,2400638427578300857,15806707075529380192,14022695629967993375,8915285831880473931,6631347999910079877,13861322856664149509,13462424878891718212,609457278022895560,13813548295540068894,14811890972901180937,13141587033338554882,6188973233030003785,2244103112122482387,4102176305081739490,5498123283257192965,11267315532378154396,4436474186459923750,13547939009206843870,9919008367099125623,17592209452093105858,4512776594637900181,3328118118096588273,5662061979359257339,15326580083554890809,10551173667578312727,7007286002206832825,16766484511958638138,11502921971960690029,6828597562223498359,5667099127317398114,615563214671542189,306047672372848657,2295934692909999376,1378205811072252300,10953238642706405951,18441984877410159329,14938211915633500526,16053306600634468012,6327569006664949090,1986786360949550309,3897268976836264337,17613222154834848340,2595585439558603231,2692750590507578028,11107512795663914464,16654469307462801742,15752536640612570366,14424681132571578402,1342123614928995077,5537553045615171315,16217903435359918192,5467331546851215429,9045458381397004210,14647417624928369756,13631397514672939371,3042748168174471775,18095796173783872564,6851275008772768644,17464319187374939960,6125853113672642322,2084650752826471497,12188032599808994241,14560624547652848805,11033627544408312984,6408400580700104982,5872530126848033075,9848817304349107530,7873786274422454737,523537741815420091,3992765435912101610,4538635040379822027,13313058339493701161,463774138113389760,5137589814051832496,9553971096990549364,4938610541543285704,6549852094080907030,15254633091992210921,12669407529647801677,10910644110388302437,938635154573522699,15413886005781298947,6702445572142316249,10052031235695348791,11481637867367846703,11266997524610791606,4470585836733325578,4334401890000744311,13674586047789940208,17338325484393633139,1825952489489211193,2941924889016668590,11429584451438056573,8219003486749837733,15779231459743154856,18094105663378112561,13032259773685033708,16279288168775177219,4607425872040536859,12773500944031208451,2629151800749243262,6216382948874008006,4684226298888400098,1719895430356276633,4547051000311932777,3365755272349913518,1383625962624193546,5832305185047221409,13769103115541136327,4063829332388037331,11024694936033576346,11962351593759143498,6060609690816243450,6782663255696616371,9358312197846296583,14553807712399142462,11308061921803828041,727553628536289456,1937721966566455358,17170472223608059050,6557801498797044033,14196522196718054806,3671519592330383864,17678831435119133177,5239429619861171699,14664691819916384248,9402243437249704421,9404705873571188630,12670982853097334264,643336161829623379,10374632558016547081,1998347030407657756,3778530596728393105,3049343062529576306,3543459598558145280,16955839230299176341,15763482434359817770,10297410513487048360,3433779192033484610,6522051377940421278,14577027041581768965,17318462890700432884,13303234937177203706,16773468814595293053,9003107776662980439,14387916025512776202,15764947353670896545,8159993647027272844,15925456577456769635,16873086082458093902,14334995849660946996,17137270108147033825,9104974531708491489,10294118229990073760,16753820520455620202,11525993766095887173,12091130801917272685,14332157829676619468,11063759124802658401,14341141199694864594,13073492499399858440,13669536469129627823,16682895059504647277,3215387988796971590,5874822333441161849,14801369171006070438,446995266069924076,8498532028676091811,14904681115217272601,16746677531222629524,740290905518256060,2078950565319712143,15227483606004533461,14441679199631801671,6508132753307246276,13298828918039433023,18293242582946804979,8297923619242306668,5221592684559293012,7053471978191194526,9510108024173832781,3419001889969749887,2259672571474061568,10341888390210383824,1725486776273817318,6420159726195949164,17691633702590694504,9320515035125037321]
#check [11824586356888161845,4849480874435393781,866652123128751154,14074196154385387334,1142673529048489019,16132249320637822498,2741014181512449073,10911716485165742097,13437419889732721216,11513857634932158529,2570914705882880060,17883462748017686043,14284835775768690865,7933485763601977624,855453113358079251,16378183091871739711,9947508896943372755,13996866031312336078,4859391219904099992,9113380124883318265,14903569129155370506,1158361714356455011,9331231397406362311,11853640710764476214,17348111734160510231,3075201292733833056,12147665669636231765,15142666989864626641,14538725608371270373,1922157984580058403,1205604411410820431,9387514328989991554,3953844824629472508,2694234056635809718,13385558918117058561,4309217394794523951,14760874974797668852,14154597600763967237,694261584828832409,14202271707224943307]
end PySem.W.Fast
set_option maxHeartbeats 0 in
open_top hd for PySem.Challenge.rw_loanroll_k67_no_days_no_room
local macro_rules | `(tactic| walk_at "o") => `(tactic| first | lia | omega)
local macro_rules | `(tactic| ac_rfl)=>`(tactic| walk_at "o")
open List renaming getElem?_eq_getElem→yaa,length_map→yab,getD_eq_getElem?_getD→yac,getElem?_eq_some_iff→yad,length_append→yae,getElem?_map→yaf,mem_append→yag,mem_map→yah,mem_of_getElem?→yai,mem_append_right→yaj,mem_cons→yak,size_toArray→yal,replicate→yam,mem_cons_of_mem→yan,mem_cons_self→yao,getElem?_eq_none→yap,range→yaq,pairwise_iff_getElem→yar,map_append→yas,length_take→yat,getElem?_append_right→yau,mem_map_of_mem→yav,mem_iff_getElem→yaw,getElem?_append_left→yax,take_of_length_le→yay,take_add_one→yaz,mem_filter→yba,length_filter_le→ybb,mem_append_left→ybc,toArray→ybd,mem_iff_getElem?→ybe,filter_cons_of_pos→ybf,filter_cons_of_neg→ybg,pairwise_append→ybh,append_nil→ybi,nodup_cons→ybj,length_cons→ybk,getElem?_range→ybl,length_singleton→ybm,ext_getElem?→ybn,length_range→ybo,mem_singleton→ybp,filter_append→ybq,pairwise_singleton→ybr,map_cons→ybs,not_mem_nil→ybt,find?_cons_of_pos→ybu,find?_cons_of_neg→ybv,filter_eq_nil_iff→ybw,lookup→ybx,pairwise_map→yby,foldl_cons→ybz,getElem_mem→yca,map_map→ycb,append_assoc→ycc,filterMap_cons→ycd,replicate_succ→yce,take_length→ycf,any_eq_true→ycg,mem_filterMap→ych,pairwise_cons→yci,length_replicate→ycj,nodup_append→yck,getElem?_zip_eq_some→ycl,map_congr_left→ycm,all_eq_true→ycn,getElem?_replicate→yco,flatten_cons→ycp,foldl_append→ycq,getElem?_set_ne→ycr,getElem_map→ycs,mem_range→yct,any_cons→ycu
open Nat renaming le_refl→ycv,ne_of_lt→ycw,lt_of_lt_of_le→ycx,lt_of_le_of_lt→ycy,zero_le→ycz,lt_irrefl→yda,le_trans→ydb,lt_succ_self→ydc,lt_trichotomy→ydd,lt_succ_of_lt→yde,lt_trans→ydf,ne_of_gt→ydg,le_succ→ydh,le_of_lt→ydi,sub_self→ydj
open PySem.Heap renaming get?_push_of_some→ydk,lt_size→ydl,get?_push_size→ydm,get?_update_ne→ydn,get?_update_self→ydo,get?_update_other→ydp,size_push→ydq,get?_none_of_le→ydr
open Int renaming le_refl→yds,emod_lt_of_pos→ydt,emod_nonneg→ydu,zero_add→ydv
open Array renaming getElem?_eq_getElem→ydw,length_toList→ydx,getD_eq_getD_getElem?→ydy,getElem?_eq_some_iff→ydz,getElem?_toList→yea,getD→yeb
namespace L2
open PySem PySem.Spec PyProof.Rows
noncomputable abbrev Key:=Sum Int Str
noncomputable def zmc:Key->Value->Bool
 | .inl k,v=>Value.isInt k v
 | .inr x,v=>Value.isStrOf x v
noncomputable def zuF (w:World):Key->Int
 | .inl k=>hashInt k
 | .inr x=>hashStr w x
theorem zaJ:∀ {k:Key} {v:Value},zmc k v=true->(∃ i t,k=Sum.inl i/\v=Value.int i t)\/(∃ x t,k=Sum.inr x/\v=Value.str x t)
 | .inl i,v,h=>by
  obtain ⟨t,e⟩:=Value.isInt_shape (k:=i) (v:=v) h
  exact .inl ⟨i,t,rfl,e⟩
 | .inr x,v,h=>by
  obtain ⟨t,e⟩:=Value.isStrOf_shape (x:=x) (v:=v) h
  exact .inr ⟨x,t,rfl,e⟩
theorem zp3 (i:Int) (t:Tok):zmc (.inl i) (.int i t)=true:=by simp[zmc,Value.isInt]
theorem ztE (a b:Int):decide ((Sum.inl a:Key)=Sum.inl b)=(a == b):=by
 by_cases e:a=b
 ·subst e;simp
 ·have h:¬ (Sum.inl a:Key)=Sum.inl b:=fun q=>e (Sum.inl.inj q)
  rw[decide_eq_false h]
  exact (beq_eq_false_iff_ne.mpr e).symm
theorem ztU (a b:Str):decide ((Sum.inr a:Key)=Sum.inr b)=decide (a=b):=by
 by_cases e:a=b
 ·subst e;simp
 ·have h:¬ (Sum.inr a:Key)=Sum.inr b:=fun q=>e (Sum.inr.inj q)
  rw[decide_eq_false h,decide_eq_false e]
theorem zte (a:Int) (b:Str):decide ((Sum.inl a:Key)=Sum.inr b)=false:=decide_eq_false (fun q=>nomatch q)
theorem zta (a:Str) (b:Int):decide ((Sum.inr a:Key)=Sum.inl b)=false:=decide_eq_false (fun q=>nomatch q)
noncomputable def zk5 (prog:Program) (w:World):PySem.KeyKind prog w Key where
 is:=zmc
 hash:=zuF w
 inj:=fun v a b ha hb=>by
  rcases zaJ ha with ⟨i,t,rfl,rfl⟩ | ⟨x,t,rfl,rfl⟩
  ·rcases zaJ hb with ⟨j,u,rfl,e⟩ | ⟨y,u,rfl,e⟩
   ·injection e with e1 _;rw[e1]
   ·exact nomatch e
  ·rcases zaJ hb with ⟨j,u,rfl,e⟩ | ⟨y,u,rfl,e⟩
   ·exact nomatch e
   ·injection e with e1 _;rw[e1]
 byValue:=fun k v h=>by
  rcases zaJ h with ⟨i,t,rfl,rfl⟩ | ⟨x,t,rfl,rfl⟩ <;> rfl
 pyHash:=fun hv h=>by
  rcases zaJ hv with ⟨i,t,rfl,rfl⟩ | ⟨x,t,rfl,rfl⟩
  ·exact wpAny_pyHash_int h
  ·exact wpAny_pyHash_str h
 eqBool:=fun hu hv h=>by
  rcases zaJ hu with ⟨i,t,rfl,rfl⟩ | ⟨x,t,rfl,rfl⟩
  ·rcases zaJ hv with ⟨j,u,rfl,rfl⟩ | ⟨y,u,rfl,rfl⟩
   ·rw[ztE] at h;exact wpAny_eqBool_int h
   ·rw[zte] at h;exact SeqAt.EqAt.int_str i t y u _ _ _ _ h
  ·rcases zaJ hv with ⟨j,u,rfl,rfl⟩ | ⟨y,u,rfl,rfl⟩
   ·rw[zta] at h;exact SeqAt.EqAt.str_int x t j u _ _ _ _ h
   ·rw[ztU] at h;exact wpAny_eqBool_str h
 «strs»:=fun k x t v h=>by
  rcases zaJ h with ⟨i,u,rfl,e⟩ | ⟨y,u,rfl,e⟩
  ·exact nomatch e
  ·injection e with e1 _
   subst e1
   cases v <;> rfl
theorem zn6 (prog:Program) (w:World) (i:Int) (t:Tok):(zk5 prog w).is (.inl i) (.int i t)=true:=zp3 i t
inductive V where
 | non | bl (b:Bool) | int (i:Int) | str (x:Str) | byt (b:Array UInt8) | flt (b:UInt64) | ref (a:Addr) | ty (n:String)
 deriving DecidableEq
noncomputable def RelV:V->Value->Prop
 | .non,u=>u=Value.none
 | .bl b,u=>u=Value.bool b
 | .int i,u=>∃ t,u=Value.int i t
 | .str x,u=>∃ t,u=Value.str x t
 | .byt b,u=>∃ t,u=Value.bytes b t
 | .flt b,u=>∃ t,u=Value.float b t
 | .ref a,u=>u=Value.ref a
 | .ty n,u=>u=Value.type n
noncomputable abbrev Vals:List V->List Value->Prop:=Paired RelV
theorem Vals.length {xs:List V} {us:List Value} (r:Vals xs us):xs.length=us.length:=Paired.length r
theorem Vals.get:∀ {xs:List V} {us:List Value} {i:Nat} {x:V},Vals xs us->xs[i]?=some x->∃ u,us[i]?=some u/\RelV x u
 | _,_,_,_,.nil,e=>by simp at e
 | _,_,0,_,.cons r _,e=>by simp at e;subst e;exact ⟨_,rfl,r⟩
 | _,_,i+1,x,.cons _ t,e=>by
  obtain ⟨u,h1,h2⟩:=Vals.get (i:=i) (x:=x) t (by simpa using e)
  exact ⟨u,by simpa using h1,h2⟩
theorem Vals.set {x:V} {u:Value} (r:RelV x u):∀ {xs:List V} {us:List Value} (i:Nat),Vals xs us->Vals (xs.set i x) (us.set i u)
 | _,_,_,.nil=>.nil
 | _,_,0,.cons _ t=>.cons r t
 | _,_,i+1,.cons q t=>.cons q (Vals.set r i t)
theorem Vals.append:∀ {xs ys:List V} {us ws:List Value},Vals xs us->Vals ys ws->Vals (xs++ys) (us++ws)
 | _,_,_,_,.nil,s=>s
 | _,_,_,_,.cons r t,s=>.cons r (Vals.append t s)
theorem Vals.take:∀ {xs:List V} {us:List Value} (n:Nat),Vals xs us->Vals (xs.take n) (us.take n)
 | _,_,0,_=>.nil
 | _,_,_+1,.nil=>.nil
 | _,_,n+1,.cons r t=>.cons r (Vals.take n t)
theorem Vals.drop:∀ {xs:List V} {us:List Value} (n:Nat),Vals xs us->Vals (xs.drop n) (us.drop n)
 | _,_,0,r=>r
 | _,_,_+1,.nil=>.nil
 | _,_,n+1,.cons _ t=>Vals.drop n t
noncomputable def zgC:Option V->Option Value->Prop
 | some v,some u=>RelV v u
 | none,none=>True
 | _,_=>False
noncomputable def KV {κ:Type}:List (κ × V)->List (κ × Value)->Prop:=Paired fun (p:κ × V) (q:κ × Value)=>p.1=q.1/\RelV p.2 q.2
inductive HO where
 /-- a list -/
 | lst (xs:List V)
 /-- a tuple (never changes) -/
 | tup (xs:List V)
 /-- a dict whose keys are ints and texts;one whose keys are tuples of ints and texts (the empty one is both) -/
 | dK (kvs:List (Key × V))
 /-- a set of ints: its members,its size -/
 | set (S:Int->Bool) (n:Nat)
 /-- an instance of the class at C,its dict at dx,its attributes -/
 | ins (C dx:Addr) (fs:List (Str × V))
 /-- the dict of the instance at x -/
 | own (x:Addr)
 /-- the dict of an exception -/
 | xd (fs:List (Str × V))
 /-- a bound method,f of x -/
 | met (f x:Addr)
 /-- a range object lo,lo+1,.. below hi -/
 | rng (lo hi:Int)
 /-- a thing that is known to the object (the script;a dict while a loop walks it): read,never written while it is so -/
 | frz (o:Obj) (u:HO)
 /-- a code object's table -/
 | tbl (ps:Array Value)
 /-- any other thing,by what is true of its one object (a def of one's own: zo2 a S n:=HO.ext fun h=>..) -/
 | ext (φ:Heap->Prop)
noncomputable abbrev Hp:=Addr->Option HO
noncomputable def upd (H:Hp) (a:Addr) (o:HO):Hp:=fun b=>if b=a then some o else H b
theorem zh {H:Hp} {a:Addr} {o:HO}:upd H a o a=some o:=by unfold upd;rw[if_pos rfl]
theorem zp {H:Hp} {a b:Addr} {o:HO} (h:b≠a):upd H a o b=H b:=by unfold upd;rw[if_neg h]
theorem zad {H:Hp} {a:Addr} {o u:HO}:upd (upd H a o) a u=upd H a u:=by
 funext b;unfold upd;split <;> rfl
theorem zaw {H:Hp} {a b:Addr} {o u:HO} (h:H a=some o) (h':H b=some u) (d:o≠u):a≠b:=by
 intro e;subst e;rw[h] at h';exact d (Option.some.inj h')
theorem zN {H:Hp} {a b:Addr} {o:HO} (h:H a=some o) (h':H b=none):a≠b:=by
 intro e;subst e;rw[h] at h';cases h'
section
variable (P:Program) (w:World)
noncomputable def zX (H:Hp) (h:Heap) (a:Addr):HO->Prop
 | .lst xs=>xs.length<=sizeLine/\∃ (its:List Value) (n:Nat),Vals xs its/\h.get? a=some { cls:=.type "list", data:=.seq its.toArray n }
 | .tup xs=>xs.length<=sizeLine/\∃ its:List Value,Vals xs its/\IsTup h a its.toArray
 | .dK kvs=>kvs.length<=sizeLine/\(a == sysModules)=false/\∃ vs,KV kvs vs/\h.DictOf (zk5 P w) a vs
 | .set S n=>h.SetOf (intKind P w) a S n
 | .ins C dx fs=>H dx=some (.own a)/\fs.length<=1000/\dx≠a/\h.get? a=some (PySem.W.instObj C dx) /\
   ∃ mA,h.Ns1 dx mA/\(∀ f,zgC (fs.lookup f) (mA f))/\PySem.Within mA (fs.map (·.1))
 | .own _=>∃ o,h.get? a=some o
 | .xd fs=>∃ mA,h.Ns1 a mA/\∀ f,zgC (fs.lookup f) (mA f)
 | .rng lo hi=>∃ t u v,h.get? a=some { cls:=.type "range", data:=.fields #[.int lo t,.int hi u,.int 1 v] }
 | .frz o u=>h.get? a=some o/\zX H h a u
 | .tbl ps=>h.get? a=some { cls:=.none,data:=.fields ps }
 | .met f x=>h.get? a=some (PySem.W.methodObj (.ref f) (.ref x))
 | .ext φ=>φ h/\(∃ o,h.get? a=some o)/\∀ h1 h2:Heap,φ h1->(∀ o,h1.get? a=some o->h2.get? a=some o)->φ h2
def HOk (H:Hp) (h:Heap):Prop:=∀ a o,H a=some o->zX P w H h a o
end
section
variable {P:Program} {w:World} {H H':Hp} {h h':Heap} {a:Addr} {o:HO}
theorem zX.lt (x:zX P w H h a o):a<h.objs.size:=by
 cases o with
 | lst xs=>obtain ⟨_,_,_,_,e⟩:=x;exact ydl e
 | tup xs=>obtain ⟨_,_,_,p⟩:=x;exact p.lt
 | dK kvs=>obtain ⟨_,_,_,_,o,_,_,e,_⟩:=x;exact ydl e
 | set S n=>obtain ⟨o,_,_,_,e,_⟩:=x;exact ydl e
 | ins C dx fs=>obtain ⟨_,_,_,e,_⟩:=x;exact ydl e
 | own y=>obtain ⟨_,e⟩:=x;exact ydl e
 | xd fs=>obtain ⟨_,⟨_,_,_,e,_⟩,_⟩:=x;exact ydl e
 | rng lo hi=>obtain ⟨_,_,_,e⟩:=x;exact ydl e
 | frz ob u=>obtain ⟨e,_⟩:=x;exact ydl e
 | tbl ps=>exact ydl (show h.get? a=some _ from x)
 | met f y=>exact ydl (show h.get? a=some _ from x)
 | ext φ=>obtain ⟨_,⟨_,e⟩,_⟩:=x;exact ydl e
theorem zX.stay (x:zX P w H h a o) (k:∀ b u,(b=a\/H b=some (.own a))->h.get? b=some u->h'.get? b=some u)
  (ho:∀ b,H b=some (.own a)->H' b=some (.own a)) (ht:∀ b xs,H b=some (.tup xs)->H' b=some (.tup xs)):zX P w H' h' a o:=by
 induction o with
 | lst xs=>obtain ⟨z,its,n,r,e⟩:=x;exact ⟨z,its,n,r,k _ _ (.inl rfl) e⟩
 | tup xs=>obtain ⟨z,its,r,ob,e,c⟩:=x;exact ⟨z,its,r,ob,k _ _ (.inl rfl) e,c⟩
 | dK kvs=>obtain ⟨z,y,vs,r,ob,es,ep,e,c⟩:=x;exact ⟨z,y,vs,r,ob,es,ep,k _ _ (.inl rfl) e,c⟩
 | set S n=>obtain ⟨ob,es,ep,t,e,c⟩:=x;exact ⟨ob,es,ep,t,k _ _ (.inl rfl) e,c⟩
 | ins C dx fs =>
  obtain ⟨d,z,ne,e,mA,⟨od,es,ep,e2,c⟩,r⟩:=x
  exact ⟨ho _ d,z,ne,k _ _ (.inl rfl) e,mA,⟨od,es,ep,k _ _ (.inr d) e2,c⟩,r⟩
 | own y=>obtain ⟨ob,e⟩:=x;exact ⟨ob,k _ _ (.inl rfl) e⟩
 | xd fs=>obtain ⟨mA,⟨od,es,ep,e,c⟩,r⟩:=x;exact ⟨mA,⟨od,es,ep,k _ _ (.inl rfl) e,c⟩,r⟩
 | rng lo hi=>obtain ⟨t,u,v,e⟩:=x;exact ⟨t,u,v,k _ _ (.inl rfl) e⟩
 | frz ob u ih=>obtain ⟨e,q⟩:=x;exact ⟨k _ _ (.inl rfl) e,ih q⟩
 | tbl ps =>
  have e:h.get? a=some { cls:=.none,data:=.fields ps }:=x
  show h'.get? a=some { cls:=.none,data:=.fields ps }
  exact k a _ (.inl rfl) e
 | met f y =>
  have e:h.get? a=some (PySem.W.methodObj (.ref f) (.ref y)):=x
  show h'.get? a=some (PySem.W.methodObj (.ref f) (.ref y))
  exact k a _ (.inl rfl) e
 | ext φ=>obtain ⟨p,⟨o,e⟩,st⟩:=x;exact ⟨st _ _ p fun o q=>k _ _ (.inl rfl) q,⟨o,k _ _ (.inl rfl) e⟩,st⟩
theorem HOk.lt (x:HOk P w H h) (e:H a=some o):a<h.objs.size:=(x a o e).lt
theorem HOk.fresh (x:HOk P w H h) (e:h.objs.size<=a):H a=none:=by
 cases q:H a with
 | none=>rfl
 | some u=>exact absurd (ycx (x.lt q) e) (yda _)
theorem HOk.kept (x:HOk P w H h) (k:∀ b u,h.get? b=some u->h'.get? b=some u):HOk P w H h':=fun a o e =>
 (x a o e).stay (fun b u _ q=>k b u q) (fun _ q=>q) fun _ _ q=>q
theorem HOk.laid (x:HOk P w H h) (k:∀ b u,h.get? b=some u->h'.get? b=some u) (hp:h.objs.size<=a) (new:zX P w (upd H a o) h' a o):HOk P w (upd H a o) h':=fun b u e=>by
 have hn:=x.fresh hp
 by_cases hb:b=a
 ·subst hb;rw[zh] at e;cases e;exact new
 ·rw[zp hb] at e
  exact (x b u e).stay (fun c v _ q=>k c v q) (fun c q=>by rw[zp (zN q hn)];exact q) fun c xs q=>by rw[zp (zN q hn)];exact q
end
def Rd (H:Hp) (a:Addr) (u:HO):Prop:=H a=some u\/∃ o,H a=some (.frz o u)
theorem Rd.ok {P:Program} {w:World} {H:Hp} {h:Heap} {a:Addr} {u:HO} (r:Rd H a u) (x:HOk P w H h):zX P w H h a u:=by
 rcases r with r | ⟨o,r⟩
 ·exact x a u r
 ·obtain ⟨_,q⟩:=x a _ r
  exact q
noncomputable def Mut:Option HO->Prop
 | some (.lst _)=>True
 | some (.dK _)=>True
 | some (.set _ _)=>True
 | some (.ins _ _ _)=>True
 | some (.ext _)=>True
 | _=>False
section
variable {P:Program} {w:World} {H:Hp} {h h':Heap} {x e:Addr} {o':HO}
theorem HOk.write (ok:HOk P w H h) (mu:Mut (H x)) (he:e=x\/H e=some (.own x)) (k:∀ b u,b≠e->h.get? b=some u->h'.get? b=some u) (heo:∃ u,h'.get? e=some u)
  (new:zX P w (upd H x o') h' x o'):HOk P w (upd H x o') h':=fun b u q=>by
 have nown:∀ c y,H c=some (.own y)->c≠x:=fun c y r z=>by subst z;rw[r] at mu;exact mu
 have ntup:∀ c xs,H c=some (.tup xs)->c≠x:=fun c xs r z=>by subst z;rw[r] at mu;exact mu
 by_cases hb:b=x
 ·subst hb;rw[zh] at q;cases q;exact new
 ·rw[zp hb] at q
  by_cases hbe:b=e
  ·have q':H b=some (.own x):=by
    rcases he with z | z
    ·exact absurd (hbe.trans z) hb
    ·rw[hbe];exact z
   rw[q] at q';cases q'
   obtain ⟨v,hv⟩:=heo
   exact ⟨v,by rw[hbe];exact hv⟩
  ·refine (ok b u q).stay (fun c v hc r=>k c v ?_ r) (fun c r=>by rw[zp (nown c b r)];exact r) fun c xs r=>by rw[zp (ntup c xs r)];exact r
   rcases hc with rfl | hc
   ·exact hbe
   ·rintro rfl
    rcases he with z | z
    ·exact nown c b hc z
    ·rw[hc] at z;cases z;exact hb rfl
end
set_option genInjectivity false
structure Un (fs ex:List Addr) (H H':Hp) (h h':Heap):Prop where
 keep:∀ b o,h.get? b=some o->H b=none->b ∉ fs->b ∉ ex->h'.get? b=some o
 slot:∀ b o,h.get? b=some o->H b=none->b∈fs->b ∉ ex->∃ sl,h'.get? b=some { o with slots:=sl }
 free:∀ b o,h.get? b=some o->H b=none->b ∉ ex->H' b=none
 there:∀ b o,h.get? b=some o->b ∉ ex->∃ o',h'.get? b=some o'
 tups:∀ b xs,H b=some (.tup xs)->H' b=some (.tup xs)
 frzs:∀ b o u,H b=some (.frz o u)->H' b=some (.frz o u)
 tbls:∀ b ps,H b=some (.tbl ps)->∃ more,H' b=some (.tbl (ps++more))
section
variable {fs fs' ex ex':List Addr} {H H1 H2:Hp} {h h1 h2 h':Heap} {a x e:Addr} {o:HO}
theorem Un.any (u:Un fs ex H H1 h h1) {b:Addr} {ob:Obj} (q:h.get? b=some ob) (n:H b=none) (hx:b ∉ ex):∃ sl,h1.get? b=some { ob with slots:=sl }:=by
 by_cases hb:b∈fs
 ·exact u.slot b ob q n hb hx
 ·exact ⟨ob.slots,u.keep b ob q n hb hx⟩
theorem Un.kept (k:∀ b u,h.get? b=some u->h'.get? b=some u):Un fs ex H H h h' :=
 ⟨fun b ob q _ _ _=>k b ob q,fun b ob q _ _ _=>⟨ob.slots,k b ob q⟩,fun _ _ _ n _=>n,fun b ob q _=>⟨ob,k b ob q⟩,fun _ _ q=>q,fun _ _ _ q=>q,fun _ ps q=>⟨#[],by rw[q];simp⟩⟩
theorem Un.refl:Un fs ex H H h h:=Un.kept fun _ _ q=>q
theorem Un.laid (k:∀ b u,h.get? b=some u->h'.get? b=some u) (hp:h.objs.size<=a) (hn:H a=none):Un fs ex H (upd H a o) h h' where
 keep:=fun b u q _ _ _=>k b u q
 slot:=fun b u q _ _ _=>⟨u.slots,k b u q⟩
 free:=fun b u q n _=>by rw[zp (ycw (ycx (ydl q) hp))];exact n
 there:=fun b u q _=>⟨u,k b u q⟩
 tups:=fun b xs q=>by rw[zp (zN q hn)];exact q
 frzs:=fun b u xs q=>by rw[zp (zN q hn)];exact q
 tbls:=fun b ps q=>⟨#[],by rw[zp (zN q hn),q];simp⟩
theorem Un.write (mu:Mut (H x)) (he:e=x\/H e=some (.own x)) (k:∀ b u,b≠e->h.get? b=some u->h'.get? b=some u) (heo:∃ u,h'.get? e=some u):Un fs ex H (upd H x o) h h':=by
 have hx:∀ b,H b=none->b≠x:=fun b n z=>by subst z;rw[n] at mu;exact mu
 have hb:∀ b,H b=none->b≠e:=fun b n z=>by
  subst z
  rcases he with r | r
  ·exact hx b n r
  ·rw[n] at r;cases r
 have hm:∀ b u,H b=some u->¬ Mut (some u)->b≠x:=fun b u q nm z=>by subst z;rw[q] at mu;exact nm mu
 refine ⟨fun b u q n _ _=>k b u (hb b n) q,fun b u q n _ _=>⟨u.slots,k b u (hb b n) q⟩,fun b u q n _=>by rw[zp (hx b n)];exact n,fun b u q _=>?_,
  fun b xs q=>by rw[zp (hm b _ q fun z=>z)];exact q,fun b u xs q=>by rw[zp (hm b _ q fun z=>z)];exact q,fun b ps q=>⟨#[],by rw[zp (hm b _ q fun z=>z),q];simp⟩⟩
 by_cases hbe:b=e
 ·subst hbe;exact heo
 ·exact ⟨u,k b u hbe q⟩
end
noncomputable def trk (h:Heap) (H:Hp):List Addr:=(yaq h.objs.size).filter fun a=>(H a).isSome
noncomputable def zhM (h:Heap) (H:Hp):Heap:=PySem.W.hideAll h (trk h H)
theorem zqe (h:Heap) (H:Hp):(zhM h H).objs.size=h.objs.size:=PySem.W.hideAll_size _ _
theorem zra {h:Heap} {H:Hp} {b:Addr} {o:Obj} (e:h.get? b=some o) (n:H b=none):(zhM h H).get? b=some o :=
 PySem.W.hideAll_get _ e fun hm=>by
  have q:(H b).isSome=true:=(yba.mp hm).2
  rw[n] at q;simp at q
theorem zs7 {h:Heap} {H:Hp} {b:Addr} {o:Obj} (e:(zhM h H).get? b=some o):h.get? b=some o/\H b=none:=by
 have e':h.get? b=some o:=PySem.W.of_hideAll (trk h H) e
 refine ⟨e',?_⟩
 cases q:H b with
 | none=>rfl
 | some x =>
  have hm:b∈trk h H:=yba.mpr ⟨yct.mpr (ydl e'),by simp[q]⟩
  have z:(zhM h H).get? b=none:=PySem.W.hideAll_none (trk h H) hm
  rw[z] at e;cases e
noncomputable def zse (g h:Heap) (L:Addr):List (Addr × Obj):=(yaq h.objs.size).filterMap fun a=>if a=L\/(g.get? a).isSome=true then none else (h.get? a).map fun o=>(a,o)
noncomputable def rest (g h:Heap) (L d:Addr):List (Addr × Obj):=(zse g h L).filter fun p=>decide (p.1≠d)
structure Mod (K:W.Frag) (mg:Str->Option Value) (base:Heap):Prop where
 kin:K.In base
 glob:base.Ns mainGlobals mg
 blt:∃ mb,base.Ns builtinsNs mb/\∀ x:Str,x ≠ "__name__" -> mb x=bootBuiltins x
 nolimit:base.NoLimit
structure Cx where
 prog:Program
 w:World
 K:W.Frag
 mg:Str->Option Value
 base:Heap
 A:Around
 N:List Str
 s₀:Shared
 H₀:Hp
 env:Env
 outer:List Env
 stack:List Env
 ex:List Addr
 fn:Str->Bool
 calm:Bool
 pn:List (Addr × Obj)
 xe:Value->Shared->Prop
noncomputable def frs (l:List Env):List Addr:=l.filterMap (·.frame)
noncomputable abbrev Cx.fs (X:Cx):List Addr:=frs X.outer
def Vis (sc:Scope) (x:Str):Prop:=sc.names.lookup x=some .local\/sc.names.lookup x=some .cell\/sc.names.lookup x=some .free
def Loc (sc:Scope) (x:Str):Prop:=sc.names.lookup x=some .local\/sc.names.lookup x=some .cell
def Look (env:Env) (h:Heap) (m:Str->Option Value) (x:Str) (u:Value):Prop :=
 (env.kindOf x=some .local/\m x=some u)\/((env.kindOf x=some .cell\/env.kindOf x=some .free)/\∃ c,env.cells.lookup x=some c/\h.IsCell c (some u))
structure Cx.Ok (X:Cx):Prop where
 mod:Mod X.K X.mg X.base
 kind:X.env.scope.kind=.function
 glob:X.env.globals=mainGlobals
 blt:X.env.builtins=builtinsNs
 above:X.s₀.heap.objs.size<=X.env.locals
 inj:∀ x y c,X.env.cells.lookup x=some c->X.env.cells.lookup y=some c->x=y
 has:∀ x,(X.env.kindOf x=some .cell\/X.env.kindOf x=some .free)->∃ c,X.env.cells.lookup x=some c
 cab:∀ x c,X.fn x=true->X.env.cells.lookup x=some c->X.s₀.heap.objs.size<=c
 hd:X.calm=true->X.A.handled=none
 frames:X.A.frames=some X.stack
 stk:X.stack=X.outer\/(X.stack=X.env::X.outer/\X.env.frame=some X.env.locals)
 exf:∀ b∈X.ex,b≠X.env.locals/\∀ x c,X.env.cells.lookup x=some c->c≠b
 bs:∀ b o,X.base.get? b=some o->X.s₀.heap.get? b=some o/\X.H₀ b=none
 bsz:X.base.objs.size<=X.s₀.heap.objs.size
 noex:∀ b o,X.base.get? b=some o->b ∉ X.ex
 exfs:∀ b∈X.ex,b ∉ X.fs
 funs:X.s₀.heap.FunFrames X.base X.outer
 frf:∀ b∈X.fs,X.H₀ b=none
structure Inv (X:Cx) (pins:List (Addr × Obj)) (σ:List (Option V)) (H:Hp) (s:Shared):Prop where
 ok:X.Ok
 os:s.os=X.s₀.os
 bare:AllBare s.gens
 base:Un X.fs X.ex X.H₀ H X.s₀.heap s.heap
 loc:∃ m,s.heap.Ns X.env.locals m/\∀ (i:Nat) (x:Str) (v:V),X.N[i]?=some x->σ[i]?=some (some v)->Vis X.env.scope x->∃ u,RelV v u/\Look X.env s.heap m x u
 cell:∀ x c,X.env.cells.lookup x=some c->∃ v,s.heap.IsCell c v
 free:H X.env.locals=none
 freeC:∀ x c,X.env.cells.lookup x=some c->H c=none
 pin:∀ p∈X.pn++pins,s.heap.get? p.1=some p.2/\H p.1=none/\p.1≠X.env.locals/\p.1 ∉ X.fs/\∀ v,p.2.data≠.cell v
 hok:HOk X.prog X.w H s.heap
 len:σ.length=X.N.length
section
variable {X:Cx} {pins:List (Addr × Obj)} {σ:List (Option V)} {H H':Hp} {s:Shared} {h':Heap}
theorem Cx.Ok.nofr (ok:X.Ok) {b:Addr} {o:Obj} (e:X.base.get? b=some o):b ∉ X.fs:=fun hb=>by
 have:=(ok.funs.mem hb).1
 rw[e] at this;cases this
theorem Inv.bs (I:Inv X pins σ H s):∀ b o,X.base.get? b=some o->s.heap.get? b=some o/\H b=none:=fun b o e =>
 ⟨I.base.keep b o (I.ok.bs b o e).1 (I.ok.bs b o e).2 (I.ok.nofr e) (I.ok.noex b o e),I.base.free b o (I.ok.bs b o e).1 (I.ok.bs b o e).2 (I.ok.noex b o e)⟩
theorem Inv.bk (I:Inv X pins σ H s):∀ b o,X.base.get? b=some o->s.heap.get? b=some o:=fun b o e=>(I.bs b o e).1
theorem Inv.mod (I:Inv X pins σ H s):Mod X.K X.mg X.base:=I.ok.mod
theorem Inv.kIn (I:Inv X pins σ H s):X.K.In s.heap:=I.ok.mod.kin.keeps I.bk
theorem Inv.lt (I:Inv X pins σ H s):X.env.locals<s.heap.objs.size:=let ⟨_,hn,_⟩:=I.loc;hn.lt
theorem Inv.sz (I:Inv X pins σ H s):X.s₀.heap.objs.size<=s.heap.objs.size:=ydb I.ok.above (ydi I.lt)
theorem Inv.nofs (I:Inv X pins σ H s) {a:Addr} (h:s.heap.objs.size<=a):a ∉ X.fs:=fun hb=>by
 obtain ⟨_,o,ho,_⟩:=I.ok.funs.mem hb
 exact absurd (ycx (ydl ho) (ydb I.sz h)) (yda _)
theorem Inv.cne (I:Inv X pins σ H s):∀ x c,X.env.cells.lookup x=some c->c≠X.env.locals:=fun x c e z=>by
 obtain ⟨v,o,ho,hd⟩:=I.cell x c e
 obtain ⟨m,⟨o',es,ep,ho',hd',_⟩,_⟩:=I.loc
 rw[z,ho'] at ho;cases ho;rw[hd'] at hd;cases hd
theorem Inv.funs (I:Inv X pins σ H s):s.heap.FunFrames X.base X.outer:=by
 have all:∀ (l:List Env),(∀ b∈frs l,b∈X.fs)->X.s₀.heap.FunFrames X.base l->s.heap.FunFrames X.base l:=by
  intro l
  induction l with
  | nil=>intro _ _;trivial
  | cons env r ih =>
   intro hs hl
   obtain ⟨hk,⟨L,o,hf,hn,ho,hd⟩,hr⟩:=hl
   have hL:L∈X.fs:=hs L (by unfold frs;rw[ycd,hf];exact yao)
   obtain ⟨sl,e⟩:=I.base.slot L o ho (I.ok.frf L hL) hL fun z=>I.ok.exfs L z hL
   exact ⟨hk,⟨L,_,hf,hn,e,hd⟩,ih (fun b hb=>hs b (by unfold frs;rw[ycd,hf];exact yan _ hb)) hr⟩
 exact all X.outer (fun _ hb=>hb) I.ok.funs
theorem Inv.stack (I:Inv X pins σ H s):s.heap.FunFrames X.base X.stack:=by
 rcases I.ok.stk with e | ⟨e,hf⟩
 ·rw[e];exact I.funs
 ·rw[e]
  obtain ⟨m,hn,_⟩:=I.loc
  refine .cons (by rw[I.ok.kind];decide) hf hn ?_ I.funs
  exact ydr (ydb I.ok.bsz I.ok.above)
theorem Inv.zeI (I:Inv X pins σ H s):∀ b∈frs X.stack,b∈X.env.locals::X.fs:=fun b hb=>by
 rcases I.ok.stk with e | ⟨e,hf⟩
 ·rw[e] at hb;exact yan _ hb
 ·rw[e] at hb
  unfold frs at hb
  rw[ycd,hf] at hb
  exact hb
theorem Inv.zkN (I:Inv X pins σ H s):∀ b∈frs X.stack,H b=none:=fun b hb=>by
 rcases yak.mp (I.zeI b hb) with e | hb
 ·rw[e];exact I.free
 ·obtain ⟨_,o,ho,_⟩:=I.ok.funs.mem hb
  exact I.base.free b o ho (I.ok.frf b hb) fun z=>I.ok.exfs b z hb
theorem Inv.step {g':Array GenState} {t':Nat} {d':Drawn} {ch:List Addr} (I:Inv X pins σ H s)
  (hch:∀ b∈ch,(b∈X.ex\/X.s₀.heap.objs.size<=b)/\b≠X.env.locals/\(∀ x c,X.env.cells.lookup x=some c->c≠b)/\∀ p∈X.pn++pins,p.1≠b)
  (keep:∀ b o,b≠X.env.locals->b ∉ X.fs->b ∉ ch->s.heap.get? b=some o->H b=none->h'.get? b=some o)
  (slot:∀ b o,b≠X.env.locals->b∈X.fs->b ∉ ch->s.heap.get? b=some o->H b=none->∃ sl,h'.get? b=some { o with slots:=sl }) (free:∀ b o,b ∉ ch->s.heap.get? b=some o->H b=none->H' b=none)
  (there:∀ b o,b ∉ ch->s.heap.get? b=some o->∃ o',h'.get? b=some o')
  (tups:∀ b xs,H b=some (.tup xs)->H' b=some (.tup xs)) (frzs:∀ b o u,H b=some (.frz o u)->H' b=some (.frz o u)) (tbls:∀ b ps,H b=some (.tbl ps)->∃ more,H' b=some (.tbl (ps++more)))
  (ns:∀ m,s.heap.Ns X.env.locals m->h'.Ns X.env.locals m) (hok:HOk X.prog X.w H' h') (hg:AllBare g') :
  Inv X pins σ H' { s with heap:=h',gens:=g',drawn:=d',toks:=t' }:=by
 have neL:∀ b o,X.s₀.heap.get? b=some o->b≠X.env.locals:=fun b o e=>ycw (ycx (ydl e) I.ok.above)
 have neC:∀ b o,X.s₀.heap.get? b=some o->b ∉ X.ex->b ∉ ch:=fun b o e hx hb=>by
  rcases (hch b hb).1 with z | z
  ·exact hx z
  ·exact absurd (ycx (ydl e) z) (yda _)
 have cellK:∀ x c,X.env.cells.lookup x=some c->∀ v,s.heap.IsCell c v->h'.IsCell c v:=fun x c e v ⟨o,ho,hd⟩=>by
  have nch:c ∉ ch:=fun z=>(hch c z).2.2.1 x c e rfl
  by_cases hc:c∈X.fs
  ·obtain ⟨sl,q⟩:=slot c o (I.cne x c e) hc nch ho (I.freeC x c e)
   exact ⟨_,q,hd⟩
  ·exact ⟨o,keep c o (I.cne x c e) hc nch ho (I.freeC x c e),hd⟩
 refine ⟨I.ok,I.os,hg,⟨fun b o e n hb hx=>?_,fun b o e n hb hx=>?_,fun b o e n hx=>?_,fun b o e hx=>?_,fun b xs e=>tups b xs (I.base.tups b xs e),fun b o xs e=>frzs b o xs (I.base.frzs b o xs e),fun b ps e=>?_⟩,?_,fun x c e=>?_,?_,fun x c e=>?_,fun p hp=>?_,hok,I.len⟩
 ·exact keep b o (neL b o e) hb (neC b o e hx) (I.base.keep b o e n hb hx) (I.base.free b o e n hx)
 ·obtain ⟨sl,e1⟩:=I.base.slot b o e n hb hx
  obtain ⟨sl',e2⟩:=slot b _ (neL b o e) hb (neC b o e hx) e1 (I.base.free b o e n hx)
  exact ⟨sl',e2⟩
 ·obtain ⟨o',e1⟩:=I.base.there b o e hx
  exact free b o' (neC b o e hx) e1 (I.base.free b o e n hx)
 ·obtain ⟨o',e1⟩:=I.base.there b o e hx
  exact there b o' (neC b o e hx) e1
 ·obtain ⟨m1,e1⟩:=I.base.tbls b ps e
  obtain ⟨m2,e2⟩:=tbls b _ e1
  exact ⟨m1++m2,by rw[e2,Array.append_assoc]⟩
 ·obtain ⟨m,hn,hl⟩:=I.loc
  refine ⟨m,ns m hn,fun i x v e1 e2 e3=>?_⟩
  obtain ⟨u,r,l⟩:=hl i x v e1 e2 e3
  refine ⟨u,r,?_⟩
  rcases l with l | ⟨k,c,e,z⟩
  ·exact .inl l
  ·exact .inr ⟨k,c,e,cellK x c e _ z⟩
 ·obtain ⟨v,z⟩:=I.cell x c e
  exact ⟨v,cellK x c e v z⟩
 ·obtain ⟨m,⟨o,_,_,ho,_⟩,_⟩:=I.loc
  exact free _ o (fun z=>(hch _ z).2.1 rfl) ho I.free
 ·obtain ⟨v,o,ho,hd⟩:=I.cell x c e
  exact free c o (fun z=>(hch c z).2.2.1 x c e rfl) ho (I.freeC x c e)
 ·obtain ⟨e,n,ne,nf,d⟩:=I.pin p hp
  have nch:p.1 ∉ ch:=fun z=>(hch p.1 z).2.2.2 p hp rfl
  exact ⟨keep p.1 p.2 ne nf nch e n,free p.1 p.2 nch e n,ne,nf,d⟩
theorem Inv.un {t':Nat} (I:Inv X pins σ H s) (u:Un X.fs [] H H' s.heap h') (hok:HOk X.prog X.w H' h'):Inv X pins σ H' { s with heap:=h',toks:=t' }:=by
 obtain ⟨m,⟨o,es,ep,ho,r⟩,_⟩:=id I.loc
 obtain ⟨sl,hL⟩:=u.any ho I.free (by simp)
 exact I.step (g':=s.gens) (d':=s.drawn) (ch:=[]) (fun _ z=>nomatch z) (fun b o _ hb _ e n=>u.keep b o e n hb (by simp)) (fun b o _ hb _ e n=>u.slot b o e n hb (by simp)) (fun b o _ e n=>u.free b o e n (by simp)) (fun b o _ e=>u.there b o e (by simp)) u.tups u.frzs u.tbls (fun m' hm=>by
  obtain ⟨o',es',ep',ho',r'⟩:=hm
  rw[ho] at ho';cases ho'
  exact ⟨_,es',ep',hL,r'⟩) hok I.bare
theorem Inv.call {g':Array GenState} {t':Nat} {d':Drawn} {ch:List Addr} (I:Inv X pins σ H s) (u:Un (frs X.stack) ch H H' s.heap h') (hok:HOk X.prog X.w H' h') (hg:AllBare g')
  (hch:∀ b∈ch,(b∈X.ex\/X.s₀.heap.objs.size<=b)/\b≠X.env.locals/\(∀ x c,X.env.cells.lookup x=some c->c≠b)/\∀ p∈X.pn++pins,p.1≠b) :
  Inv X pins σ H' { s with heap:=h',gens:=g',drawn:=d',toks:=t' }:=by
 obtain ⟨m,⟨o,es,ep,ho,r⟩,_⟩:=id I.loc
 obtain ⟨sl,hL⟩:=u.any ho I.free fun z=>(hch _ z).2.1 rfl
 exact I.step (ch:=ch) hch (fun b o hL hb hc e n=>u.keep b o e n (fun z=>(yak.mp (I.zeI b z)).elim hL hb) hc) (fun b o _ _ hc e n=>u.any e n hc) (fun b o hc e n=>u.free b o e n hc) (fun b o hc e=>u.there b o e hc) u.tups u.frzs u.tbls (fun m' hm=>by
  obtain ⟨o',es',ep',ho',r'⟩:=hm
  rw[ho] at ho';cases ho'
  exact ⟨_,es',ep',hL,r'⟩) hok hg
theorem Inv.turned {t':Nat} {it:Addr} (I:Inv X pins σ H s) (k:∀ b o,b≠it->s.heap.get? b=some o->h'.get? b=some o) (hn:H it=none) (hL:it≠X.env.locals)
  (h1:it∈X.ex\/X.s₀.heap.objs.size<=it) (h2:∀ x c,X.env.cells.lookup x=some c->c≠it) (h3:∀ p∈X.pn++pins,p.1≠it):Inv X pins σ H { s with heap:=h',toks:=t' }:=by
 have nit:∀ b u,H b=some u->b≠it:=fun b u e z=>by rw[z,hn] at e;cases e
 refine I.step (g':=s.gens) (d':=s.drawn) (ch:=[it]) (fun b hb=>?_) (fun b o _ _ hc e _=>k b o (fun z=>hc (by simp[z])) e) (fun b o _ _ hc e _=>⟨o.slots,k b o (fun z=>hc (by simp[z])) e⟩) (fun _ _ _ _ n=>n)
  (fun b o hc e=>⟨o,k b o (fun z=>hc (by simp[z])) e⟩) (fun _ _ e=>e) (fun _ _ _ e=>e) (fun b ps e=>⟨#[],by rw[e];simp⟩) (fun m hm=>?_) (fun b u e=>?_) I.bare
 ·have e:b=it:=by simpa using hb
  subst e
  exact ⟨h1,hL,h2,h3⟩
 ·obtain ⟨o,es,ep,ho,r⟩:=hm
  exact ⟨o,es,ep,k _ o (Ne.symm hL) ho,r⟩
 ·refine (I.hok b u e).stay (fun c v hc q=>k c v ?_ q) (fun _ q=>q) fun _ _ q=>q
  rcases hc with z | z
  ·rw[z];exact nit b u e
  ·exact nit c _ z
theorem Inv.tok (I:Inv X pins σ H s) (t:Nat):Inv X pins σ H { s with toks:=t }:=I.un (h':=s.heap) (t':=t) Un.refl I.hok
theorem Inv.kept {t':Nat} (I:Inv X pins σ H s) (k:∀ b u,s.heap.get? b=some u->h'.get? b=some u):Inv X pins σ H { s with heap:=h',toks:=t' }:=I.un (Un.kept k) (I.hok.kept k)
theorem Inv.laid {a:Addr} {o:HO} {t':Nat} (I:Inv X pins σ H s) (k:∀ b u,s.heap.get? b=some u->h'.get? b=some u) (hp:s.heap.objs.size<=a) (new:zX X.prog X.w (upd H a o) h' a o) :
  Inv X pins σ (upd H a o) { s with heap:=h',toks:=t' }:=I.un (Un.laid k hp (I.hok.fresh hp)) (I.hok.laid k hp new)
theorem Inv.write {x e:Addr} {o:HO} {t':Nat} (I:Inv X pins σ H s) (mu:Mut (H x)) (he:e=x\/H e=some (.own x)) (k:∀ b u,b≠e->s.heap.get? b=some u->h'.get? b=some u) (heo:∃ u,h'.get? e=some u)
  (new:zX X.prog X.w (upd H x o) h' x o):Inv X pins σ (upd H x o) { s with heap:=h',toks:=t' }:=I.un (Un.write mu he k heo) (I.hok.write mu he k heo new)
theorem Inv.zkK {pins':List (Addr × Obj)} (I:Inv X pins σ H s) (h:∀ p∈pins',s.heap.get? p.1=some p.2/\H p.1=none/\p.1≠X.env.locals/\p.1 ∉ X.fs/\∀ v,p.2.data≠.cell v):Inv X pins' σ H s :=
 ⟨I.ok,I.os,I.bare,I.base,I.loc,I.cell,I.free,I.freeC,fun p hp=>(yag.mp hp).elim (fun z=>I.pin p (ybc _ z)) (h p),I.hok,I.len⟩
theorem zm4 {N:List Str} (hN:N.Nodup) {i j:Nat} {x:Str} (a:N[i]?=some x) (b:N[j]?=some x):i=j:=by
 obtain ⟨h1,e1⟩:=yad.mp a
 obtain ⟨h2,e2⟩:=yad.mp b
 exact (List.getElem_inj hN).mp (e1.trans e2.symm)
theorem zqL {M:Model} {A:Around} {E:Value->Shared->Prop} {i:Nat} {x:Str} {v:V} {u:Value} {Q:Unit->Shared->Prop} (I:Inv X pins σ H s) (hN:X.N.Nodup) (hi:X.N[i]?=some x) (hx:Loc X.env.scope x) (r:RelV v u)
  (h:∀ s',Inv X pins (σ.set i (some v)) H s'->(∃ a,Heap.SameBut a s.heap s'.heap/\(a=X.env.locals\/X.env.cells.lookup x=some a))->Q () s') (hf:X.fn x=true\/X.env.scope.names.lookup x=some .local:=by first | exact .inl rfl | exact .inr rfl | assumption):wpAny M A (storeName X.env x u) Q E s:=by
 obtain ⟨m,hn,hl⟩:=id I.loc
 have hcls:(X.env.scope.kind == .class || (X.env.scope.kind == .module && X.env.locals != X.env.globals))=false:=by rw[I.ok.kind];rfl
 have hiσ:i<σ.length:=by rw[I.len];exact (yad.mp hi).1
 have cne:=I.cne
 have tracked:∀ {a:Addr} {h':Heap},(∃ o,s.heap.get? a=some o/\H a=none)->Heap.SameBut a s.heap h'->HOk X.prog X.w H h':=fun {a h'} ha hs b ob e=>by
  obtain ⟨_,_,hfree⟩:=ha
  refine (I.hok b ob e).stay (fun c w' hc q=>(hs.2 c ?_).trans q) (fun _ q=>q) fun _ _ q=>q
  rintro rfl
  rcases hc with rfl | hc
  ·rw[hfree] at e;cases e
  ·rw[hfree] at hc;cases hc
 rcases hx with hk | hk
 ·refine wpAny_storeName_local hk hn (fun h' hn' hs=>?_) hcls
  obtain ⟨oL,_,_,hoL,_⟩:=id hn
  refine h _ ⟨I.ok,I.os,I.bare,⟨fun b o e n hb hx=>?_,fun b o e n hb hx=>?_,I.base.free,fun b o e hx=>?_,I.base.tups,I.base.frzs,I.base.tbls⟩,⟨_,hn',fun j y v' e1 e2 e3=>?_⟩,fun y c e=>?_,I.free,I.freeC,fun p hp=>?_,tracked ⟨oL,hoL,I.free⟩ hs,by simpa using I.len⟩ ⟨_,hs,.inl rfl⟩
  ·exact (hs.2 b (ycw (ycx (ydl e) I.ok.above))).trans (I.base.keep b o e n hb hx)
  ·obtain ⟨sl,e1⟩:=I.base.slot b o e n hb hx
   exact ⟨sl,(hs.2 b (ycw (ycx (ydl e) I.ok.above))).trans e1⟩
  ·obtain ⟨o',e1⟩:=I.base.there b o e hx
   exact ⟨o',(hs.2 b (ycw (ycx (ydl e) I.ok.above))).trans e1⟩
  ·by_cases hj:j=i
   ·subst hj
    rw[hi] at e1;cases e1
    rw[List.getElem?_set_self hiσ] at e2
    cases e2
    exact ⟨u,r,.inl ⟨hk,by simp⟩⟩
   ·rw[ycr (Ne.symm hj)] at e2
    obtain ⟨u',r',q⟩:=hl j y v' e1 e2 e3
    refine ⟨u',r',?_⟩
    rcases q with ⟨k,e⟩ | ⟨k,c,e,z⟩
    ·refine .inl ⟨k,?_⟩
     have:y≠x:=fun e=>hj (zm4 hN e1 (e ▸ hi))
     simp[this,e]
    ·exact .inr ⟨k,c,e,z.sameBut hs (cne y c e)⟩
  ·obtain ⟨w',z⟩:=I.cell y c e
   exact ⟨w',z.sameBut hs (cne y c e)⟩
  ·obtain ⟨e,n,ne,nf,d⟩:=I.pin p hp
   exact ⟨(hs.2 p.1 ne).trans e,n,ne,nf,d⟩
 ·have hfn:X.fn x=true:=by
   rcases hf with z | z
   ·exact z
   ·rw[z] at hk;cases hk
  obtain ⟨c,hc⟩:=I.ok.has x (.inl hk)
  obtain ⟨w',z⟩:=I.cell x c hc
  refine wpAny_storeName_cell I.ok.kind hk hc z (fun h' hc' hs=>?_)
  obtain ⟨oc,hoc,hocd⟩:=id z
  refine h { s with heap:=h' } ⟨I.ok,I.os,I.bare,⟨fun b o e n hb hx=>?_,fun b o e n hb hx=>?_,I.base.free,fun b o e hx=>?_,I.base.tups,I.base.frzs,I.base.tbls⟩,⟨m,hn.sameBut hs (Ne.symm (cne x c hc)),fun j y v' e1 e2 e3=>?_⟩,fun y c' e=>?_,I.free,I.freeC,fun p hp=>?_,tracked ⟨oc,hoc,I.freeC x c hc⟩ hs,by simpa using I.len⟩ ⟨c,hs,.inr hc⟩
  ·exact (hs.2 b (ycw (ycx (ydl e) (I.ok.cab x c hfn hc)))).trans (I.base.keep b o e n hb hx)
  ·obtain ⟨sl,e1⟩:=I.base.slot b o e n hb hx
   exact ⟨sl,(hs.2 b (ycw (ycx (ydl e) (I.ok.cab x c hfn hc)))).trans e1⟩
  ·obtain ⟨o',e1⟩:=I.base.there b o e hx
   exact ⟨o',(hs.2 b (ycw (ycx (ydl e) (I.ok.cab x c hfn hc)))).trans e1⟩
  ·by_cases hj:j=i
   ·subst hj
    rw[hi] at e1;cases e1
    rw[List.getElem?_set_self hiσ] at e2
    cases e2
    exact ⟨u,r,.inr ⟨.inl hk,c,hc,hc'⟩⟩
   ·rw[ycr (Ne.symm hj)] at e2
    obtain ⟨u',r',q⟩:=hl j y v' e1 e2 e3
    refine ⟨u',r',?_⟩
    rcases q with q | ⟨k,c',e,z'⟩
    ·exact .inl q
    ·refine .inr ⟨k,c',e,z'.sameBut hs ?_⟩
     rintro rfl
     exact hj (zm4 hN e1 (I.ok.inj _ _ _ e hc ▸ hi))
  ·by_cases hcc:c'=c
   ·subst hcc;exact ⟨_,hc'⟩
   ·obtain ⟨w2,z2⟩:=I.cell y c' e
    exact ⟨w2,z2.sameBut hs hcc⟩
  ·obtain ⟨e,n,ne,nf,d⟩:=I.pin p hp
   refine ⟨(hs.2 p.1 ?_).trans e,n,ne,nf,d⟩
   intro q
   rw[q,hoc] at e
   have q':oc=p.2:=Option.some.inj e
   exact d w' (by rw[<-q'];exact hocd)
theorem zjX {M:Model} {A:Around} {E:Value->Shared->Prop} {i:Nat} {x:Str} {v:V} {u:Value} {Q:Unit->Shared->Prop} (I:Inv X pins σ H s) (hN:X.N.Nodup) (hi:X.N[i]?=some x) (hx:Loc X.env.scope x) (r:RelV v u)
  (h:∀ s',Inv X pins (σ.set i (some v)) H s'->Q () s') (hf:X.fn x=true\/X.env.scope.names.lookup x=some .local:=by first | exact .inl rfl | exact .inr rfl | assumption):wpAny M A (storeName X.env x u) Q E s :=
 zqL I hN hi hx r (fun s' I' _=>h s' I') hf
theorem Inv.call' {s':Shared} {ch:List Addr} (I:Inv X pins σ H s) (ho:s'.os=s.os) (u:Un (frs X.stack) ch H H' s.heap s'.heap) (hok:HOk X.prog X.w H' s'.heap) (hg:AllBare s'.gens)
  (hch:∀ b∈ch,(b∈X.ex\/X.s₀.heap.objs.size<=b)/\b≠X.env.locals/\(∀ x c,X.env.cells.lookup x=some c->c≠b)/\∀ p∈X.pn++pins,p.1≠b):Inv X pins σ H' s':=by
 obtain ⟨h',g',d',t',o'⟩:=s'
 have e:o'=s.os:=ho
 subst e
 exact I.call (g':=g') (t':=t') (d':=d') u hok hg hch
end
noncomputable abbrev XK:=Value->Option Addr->Hp->Prop
noncomputable abbrev St:=List (Option V)
noncomputable abbrev VK:=V->Hp->Prop
noncomputable abbrev TE:=St->Hp->VK->Prop
noncomputable abbrev TT:=St->Hp->(Bool->Hp->Prop)->Prop
noncomputable abbrev TA:=St->Hp->(List V->Hp->Prop)->Prop
structure Ends where
 nx:St->Hp->Prop
 rt:VK
 bk:St->Hp->Prop:=fun _ _=>False
 ct:St->Hp->Prop:=fun _ _=>False
noncomputable abbrev TS:=Ends->St->Hp->Prop
def EP (X:Cx) (pins:List (Addr × Obj)) (σ:St) (Q:VK) (u:Value) (s':Shared):Prop:=∃ v H',Inv X pins σ H' s'/\RelV v u/\Q v H'
def TP (X:Cx) (pins:List (Addr × Obj)) (σ:St) (Q:Bool->Hp->Prop) (b:Bool) (s':Shared):Prop:=∃ H',Inv X pins σ H' s'/\Q b H'
def AP (X:Cx) (pins:List (Addr × Obj)) (σ:St) (Q:List V->Hp->Prop) (us:List Value) (s':Shared):Prop:=∃ vs H',Inv X pins σ H' s'/\Vals vs us/\Q vs H'
def SP (X:Cx) (pins:List (Addr × Obj)) (D:Ends) (f:Flow) (s':Shared):Prop :=
 match f with
 | .next=>∃ σ' H',Inv X pins σ' H' s'/\D.nx σ' H'
 | .brk=>∃ σ' H',Inv X pins σ' H' s'/\D.bk σ' H'
 | .cont=>∃ σ' H',Inv X pins σ' H' s'/\D.ct σ' H'
 | .ret u=>∃ v σ' H',Inv X pins σ' H' s'/\RelV v u/\D.rt v H'
def PE (X:Cx) (e:Expr) (t:TE):Prop :=
 ∀ (pins:List (Addr × Obj)) (s:Shared) (σ:St) (H:Hp) (Q:VK),Inv X pins σ H s->t σ H Q->wpAny (model X.prog X.w) X.A (eval e X.env) (EP X pins σ Q) X.xe s
def PT (X:Cx) (e:Expr) (t:TT):Prop :=
 ∀ (pins:List (Addr × Obj)) (s:Shared) (σ:St) (H:Hp) (Q:Bool->Hp->Prop),Inv X pins σ H s->t σ H Q->wpAny (model X.prog X.w) X.A (isTrue e X.env (eval e X.env)) (TP X pins σ Q) X.xe s
def PW (X:Cx) (e:Expr) (t:TT):Prop :=
 ∀ (whole:Sem Value) (pins:List (Addr × Obj)) (s:Shared) (σ:St) (H:Hp) (Q:Bool->Hp->Prop),Inv X pins σ H s->t σ H Q->wpAny (model X.prog X.w) X.A (isTrue e X.env whole) (TP X pins σ Q) X.xe s
theorem PW.pt {X:Cx} {e:Expr} {t:TT} (h:PW X e t):PT X e t:=h _
def PA (X:Cx) (es:List Expr) (t:TA):Prop :=
 ∀ (pos:Pos) (pins:List (Addr × Obj)) (s:Shared) (σ:St) (H:Hp) (Q:List V->Hp->Prop),Inv X pins σ H s->t σ H Q->wpAny (model X.prog X.w) X.A (spliced (backTo pos (starEach es X.env))) (AP X pins σ Q) X.xe s
def PS (X:Cx) (st:Stmt) (t:TS):Prop :=
 ∀ (pins:List (Addr × Obj)) (s:Shared) (σ:St) (H:Hp) (D:Ends),Inv X pins σ H s->t D σ H->wpAny (model X.prog X.w) X.A (exec st X.env) (SP X pins D) X.xe s
def PSs (X:Cx) (st:List Stmt) (t:TS):Prop :=
 ∀ (pins:List (Addr × Obj)) (s:Shared) (σ:St) (H:Hp) (D:Ends),Inv X pins σ H s->t D σ H->wpAny (model X.prog X.w) X.A (execs st X.env) (SP X pins D) X.xe s
theorem thn {α:Type} {t:Sem α} {Q Q':α->Shared->Prop} {M:Model} {A:Around} {E:Value->Shared->Prop} {s:Shared} (h:wpAny M A t Q E s) (hQ:∀ a s,Q a s->Q' a s):wpAny M A t Q' E s:=wpAny_mono h hQ fun _ _ x=>x
section
variable {X:Cx}
def ztP (i:Nat):TE:=fun σ H Q=>∃ v,σ[i]?=some (some v)/\Q v H
def tC (v:V):TE:=fun _ H Q=>Q v H
theorem ztZ {i:Nat} {x:Str} {pos:Pos} (hN:X.N[i]?=some x) (hv:Vis X.env.scope x) (hd:(x == ("__debug__" : Str))=false:=by decide) (hcd:(x == ("__classdict__" : Str))=false:=by decide):PE X (.Name x pos) (ztP i):=by
 intro pins s σ H Q I h
 obtain ⟨v,e,h⟩:=h
 obtain ⟨m,hn,hl⟩:=I.loc
 obtain ⟨u,r,l⟩:=hl i x v hN e hv
 have fin:EP X pins σ Q u s:=⟨v,H,I,r,h⟩
 rcases l with ⟨hk,hm⟩ | ⟨hk,c,hc,hcell⟩
 ·exact wpAny_Name (wpAny_loadName_local I.ok.kind hk hn hm fin) hd
 ·rcases hk with hk | hk
  ·exact wpAny_Name (wpAny_loadName_cell I.ok.kind hk hc hcell fin) hd
  ·exact wpAny_Name (wpAny_loadName_free I.ok.kind hk hc hcell fin hcd) hd
theorem zd {i j pos}:PE X (.Constant (.int i) j pos) (tC (.int i)):=fun _ _ _ H _ I h=>wpAny_Constant_int ⟨.int i,H,I.tok _,⟨_,rfl⟩,h⟩
theorem zaT {b j pos}:PE X (.Constant (.bool b) j pos) (tC (.bl b)):=fun _ _ _ H _ I h=>Constant_bool ⟨.bl b,H,I,rfl,h⟩
theorem zdy {j pos}:PE X (.Constant .none j pos) (tC .non):=fun _ _ _ H _ I h=>Constant_none ⟨.non,H,I,rfl,h⟩
theorem zaf {x j pos}:PE X (.Constant (.str x) j pos) (tC (.str x)):=fun _ _ _ H _ I h=>Calls.Constant_str ⟨.str x,H,I.tok _,⟨_,rfl⟩,h⟩
def Gl (X:Cx) (x:Str):Prop:=X.env.kindOf x=some .globalImplicit
theorem zde {E:Value->Shared->Prop} {pins:List (Addr × Obj)} {s:Shared} {σ:St} {H:Hp} {x:Str} {u:Value} {pos:Pos} {Q:Value->Shared->Prop} (I:Inv X pins σ H s) (hg:Gl X x) (hm:X.mg x=some u) (h:Q u s)
  (hd:(x == ("__debug__" : Str))=false:=by decide):wpAny (model X.prog X.w) X.A (eval (.Name x pos) X.env) Q E s :=
 Calls.Name_function_global I.ok.kind hg (Calls.loadGlobal_global (by rw[I.ok.glob];exact I.mod.glob.keeps I.bk) hm h) hd
theorem ziH {E:Value->Shared->Prop} {pins:List (Addr × Obj)} {s:Shared} {σ:St} {H:Hp} {x:Str} {u:Value} {pos:Pos} {Q:Value->Shared->Prop} (I:Inv X pins σ H s) (hg:Gl X x) (hm:X.mg x=none) (hv:bootBuiltins x=some u) (h:Q u s)
  (hn:x ≠ "__name__" := by decide) (hd:(x == ("__debug__" : Str))=false:=by decide):wpAny (model X.prog X.w) X.A (eval (.Name x pos) X.env) Q E s:=by
 obtain ⟨mb,h1,h2⟩:=I.mod.blt
 exact Calls.Name_function_global I.ok.kind hg (Calls.loadGlobal_builtin (by rw[I.ok.glob];exact I.mod.glob.keeps I.bk) hm (by rw[I.ok.blt];exact h1.keeps I.bk) ((h2 x hn).trans hv) h) hd
theorem zbE {x:Str} {v:V} {u:Value} {pos:Pos} (hg:Gl X x) (hm:X.mg x=some u) (r:RelV v u) (hd:(x == ("__debug__" : Str))=false:=by decide):PE X (.Name x pos) (tC v) :=
 fun _ _ _ H _ I h=>zde I hg hm ⟨v,H,I,r,h⟩ hd
theorem zli {x:Str} {v:V} {u:Value} {pos:Pos} (hg:Gl X x) (hm:X.mg x=none) (hv:bootBuiltins x=some u) (r:RelV v u) (hn:x ≠ "__name__" := by decide) (hd:(x == ("__debug__" : Str))=false:=by decide):PE X (.Name x pos) (tC v) :=
 fun _ _ _ H _ I h=>ziH I hg hm hv ⟨v,H,I,r,h⟩ hn hd
variable {a b:Expr} {ta tb:TE} {pos:Pos}
def PC (X:Cx) (op:CmpOp) (a b:Expr) (t:TE):Prop :=
 ∀ (pins:List (Addr × Obj)) (s:Shared) (σ:St) (H:Hp) (Q:VK),Inv X pins σ H s->t σ H Q ->
  wpAny (model X.prog X.w) X.A (eval a X.env) (fun v s₁=>wpAny (model X.prog X.w) X.A (eval b X.env) (fun u s₂=>wpAny (model X.prog X.w) X.A (compareOp op v u) (EP X pins σ Q) X.xe s₂) X.xe s₁) X.xe s
theorem nobehind (b:Expr) {op:CmpOp} (h:op≠.In) (h2:op≠.NotIn):behindInMarks op b=false:=by
 have e1:(op == CmpOp.In)=false:=by cases op <;> first | rfl | exact absurd rfl h
 have e2:(op == CmpOp.NotIn)=false:=by cases op <;> first | rfl | exact absurd rfl h2
 cases b <;> simp[behindInMarks,e1,e2]
def zux (ta:TE):TE:=fun σ H Q=>ta σ H fun x H1=>Q (.bl (decide (x=.non))) H1
def zt4 (ta:TE):TE:=fun σ H Q=>ta σ H fun x H1=>Q (.bl (!decide (x=.non))) H1
theorem RelV.znA {x:V} {v:Value} (r:RelV x v):(v == Value.none)=decide (x=.non):=by
 cases x with
 | non=>cases r;rfl
 | bl _=>cases r;rfl
 | int _=>obtain ⟨t,rfl⟩:=r;rfl
 | str _=>obtain ⟨t,rfl⟩:=r;rfl
 | byt _=>obtain ⟨t,rfl⟩:=r;rfl
 | flt _=>obtain ⟨t,rfl⟩:=r;rfl
 | ref _=>cases r;rfl
 | ty _=>cases r;rfl
theorem zpY {j pos'} (ha:PE X a ta):PC X .Is a (.Constant .none j pos') (zux ta):=by
 intro pins s σ H Q I h
 refine thn (ha pins s σ H _ I h) fun v s1 ⟨x,H1,I1,r1,q1⟩=>?_
 exact Constant_none (is_none_gen ⟨.bl _,H1,I1,by rw[r1.znA];rfl,q1⟩)
theorem zsR {j pos'} (ha:PE X a ta):PC X .IsNot a (.Constant .none j pos') (zt4 ta):=by
 intro pins s σ H Q I h
 refine thn (ha pins s σ H _ I h) fun v s1 ⟨x,H1,I1,r1,q1⟩=>?_
 exact Constant_none (isnot_none_gen ⟨.bl _,H1,I1,by rw[r1.znA];rfl,q1⟩)
def tB (t:TE):TT:=fun σ H Q=>t σ H fun x H1=>∃ c,x=.bl c/\Q c H1
theorem zqD {op:CmpOp} {t:TE} (h:PC X op a b t) (h1:behindInMarks op b=false:=by first | exact nobehind _ (by decide) (by decide) | rfl):PE X (.Compare a [op] [b] pos) t:=fun pins s σ H Q I hw=>wpAny_Compare1 (h pins s σ H Q I hw) h1
theorem ztB {op:CmpOp} {t:TE} (h:PC X op a b t) (h1:behindInMarks op b=false:=by first | exact nobehind _ (by decide) (by decide) | rfl):PT X (.Compare a [op] [b] pos) (tB t):=by
 intro pins s σ H Q I hw
 refine wpAny_isTrue_Compare1 (thn (h pins s σ H _ I hw) fun v s1 h1=>thn h1 fun u s2 h2=>thn h2 fun c s3 ⟨x,H1,I1,r1,q1⟩=>?_) h1
 obtain ⟨d,rfl,q⟩:=q1
 cases r1
 exact wpAny_truthy_bool ⟨H1,I1,q⟩
theorem zdt {e:Expr} {t:TE} (h:PE X e t) (he:∀ whole,isTrue e X.env whole=(do let v <-whole;standAt e.pos;holding [v] (truthy v)):=by intro _;rfl):PT X e (tB t):=by
 intro pins s σ H Q I hw
 refine isTrue_plain (thn (h pins s σ H _ I hw) fun v s1 ⟨x,H1,I1,r1,q1⟩=>?_) (he _)
 obtain ⟨d,rfl,q⟩:=q1
 cases r1
 exact wpAny_truthy_bool ⟨H1,I1,q⟩
variable {tA tB':TT} {rest:List Expr}
def zuG (t u:TT):TT:=fun σ H Q=>t σ H fun c H1=>if c=true then u σ H1 Q else Q false H1
def tOr (t u:TT):TT:=fun σ H Q=>t σ H fun c H1=>if c=true then Q true H1 else u σ H1 Q
def zuY (t:TT):TT:=fun σ H Q=>t σ H fun c H1=>Q (!c) H1
theorem zi6 (ha:PT X a tA):PW X (.BoolOp .And [a] pos) tA:=by
 intro wh pins s σ H Q I h
 refine isTrue_and (thn (ha pins s σ H Q I h) fun c s1 e=>?_)
 cases c with
 | true=>exact isTrue_and_nil e
 | false=>exact e
theorem zg9 (ha:PT X a tA):PW X (.BoolOp .Or [a] pos) tA:=by
 intro wh pins s σ H Q I h
 refine isTrue_or (thn (ha pins s σ H Q I h) fun c s1 e=>?_)
 cases c with
 | false=>exact isTrue_or_nil e
 | true=>exact e
theorem zil (ha:PT X a tA) (hb:PW X (.BoolOp .And (b::rest) pos) tB'):PW X (.BoolOp .And (a::b::rest) pos) (zuG tA tB'):=by
 intro wh pins s σ H Q I h
 refine isTrue_and (thn (ha pins s σ H _ I h) fun c s1 ⟨H1,I1,q1⟩=>?_)
 cases c with
 | true=>exact hb wh pins s1 σ H1 Q I1 q1
 | false=>exact ⟨H1,I1,q1⟩
theorem zjg (ha:PT X a tA) (hb:PW X (.BoolOp .Or (b::rest) pos) tB'):PW X (.BoolOp .Or (a::b::rest) pos) (tOr tA tB'):=by
 intro wh pins s σ H Q I h
 refine isTrue_or (thn (ha pins s σ H _ I h) fun c s1 ⟨H1,I1,q1⟩=>?_)
 cases c with
 | true=>exact ⟨H1,I1,q1⟩
 | false=>exact hb wh pins s1 σ H1 Q I1 q1
theorem zeG (ha:PT X a tA):PT X (.UnaryOp .Not a pos) (zuY tA):=by
 intro pins s σ H Q I h
 exact isTrue_not (ha pins s σ H (fun c H1=>Q (!c) H1) I h)
def zuj (ta tb:TE):TE:=fun σ H Q=>ta σ H fun x H1=>∃ c,x=.bl c/\if c=true then tb σ H1 Q else Q (.bl false) H1
def zui (ta:TE):TE:=fun σ H Q=>ta σ H fun x H1=>∃ c,x=.bl c/\Q (.bl (!c)) H1
theorem zhg {op} {t:TE} (h:PE X a t):PE X (.BoolOp op [a] pos) t:=fun pins s σ H Q I hw=>BoolOp_one (h pins s σ H Q I hw)
theorem zhi (ha:PE X a ta) (hb:PE X (.BoolOp .And (b::rest) pos) tb):PE X (.BoolOp .And (a::b::rest) pos) (zuj ta tb):=by
 intro pins s σ H Q I h
 refine BoolOp_and (thn (ha pins s σ H _ I h) fun v s1 ⟨x,H1,I1,r1,q1⟩=>?_)
 obtain ⟨c,rfl,q1⟩:=q1
 cases r1
 refine wpAny_truthy_bool ?_
 cases c with
 | true=>exact hb pins s1 σ H1 Q I1 q1
 | false=>exact ⟨.bl false,H1,I1,rfl,q1⟩
theorem zqR (ha:PE X a ta):PE X (.UnaryOp .Not a pos) (zui ta):=by
 intro pins s σ H Q I h
 refine UnaryOp_ (thn (ha pins s σ H _ I h) fun v s1 ⟨x,H1,I1,r1,q1⟩=>?_)
 obtain ⟨c,rfl,q1⟩:=q1
 cases r1
 exact not_of (wpAny_truthy_bool ⟨.bl (!c),H1,I1,rfl,q1⟩)
def tIf (t:TT) (ta tb:TE):TE:=fun σ H Q=>t σ H fun c H1=>if c=true then ta σ H1 Q else tb σ H1 Q
theorem zmh {c:Expr} (hc:PT X c tA) (ha:PE X a ta) (hb:PE X b tb):PE X (.IfExp c a b pos) (tIf tA ta tb):=by
 intro pins s σ H Q I h
 refine wpAny_IfExp (thn (hc pins s σ H _ I h) fun d s1 ⟨H1,I1,q1⟩=>?_)
 cases d with
 | true=>exact ha pins s1 σ H1 Q I1 q1
 | false=>exact hb pins s1 σ H1 Q I1 q1
end
def SqL (K:W.Frag) (H:Hp) (a:Addr) (xs:List V):Prop :=
 Rd H a (.lst xs) \/
  ∃ (o:Obj) (its:Array Value) (n:Nat),K.lookup a=some o/\o.cls=.type "list" /\ o.dict=none/\o.data=.seq its n/\its.size<=sizeLine/\Vals xs its.toList
def SqT (K:W.Frag) (H:Hp) (a:Addr) (xs:List V):Prop :=
 Rd H a (.tup xs) \/
  ∃ (o:Obj) (its:Array Value) (n:Nat),K.lookup a=some o/\o.cls=.type "tuple" /\ o.data=.seq its n/\its.size<=sizeLine/\Vals xs its.toList
noncomputable def zuL:Value->Option V
 | .none=>some .non
 | .bool b=>some (.bl b)
 | .int i _=>some (.int i)
 | .str x _=>some (.str x)
 | .bytes b _=>some (.byt b)
 | .float b _=>some (.flt b)
 | .ref a=>some (.ref a)
 | .type n=>some (.ty n)
 | _=>none
theorem RelV.abs {x:V} {u:Value} (r:RelV x u):zuL u=some x:=by
 cases x with
 | non=>cases r;rfl
 | bl _=>cases r;rfl
 | int _=>obtain ⟨t,rfl⟩:=r;rfl
 | str _=>obtain ⟨t,rfl⟩:=r;rfl
 | byt _=>obtain ⟨t,rfl⟩:=r;rfl
 | flt _=>obtain ⟨t,rfl⟩:=r;rfl
 | ref _=>cases r;rfl
 | ty _=>cases r;rfl
theorem RelV.inj {x y:V} {u:Value} (r:RelV x u) (q:RelV y u):x=y:=Option.some.inj (r.abs.symm.trans q.abs)
theorem Vals.inj:∀ {xs ys:List V} {us:List Value},Vals xs us->Vals ys us->xs=ys
 | _,_,_,.nil,.nil=>rfl
 | _,_,_,.cons r t,.cons r' t'=>by rw[r.inj r',Vals.inj t t']
section
variable {X:Cx} {pins:List (Addr × Obj)} {σ:St} {H:Hp} {s:Shared} {a:Addr} {xs ys:List V}
theorem SqL.of {K:W.Frag} (h:H a=some (.lst xs)):SqL K H a xs:=.inl (.inl h)
theorem SqT.of {K:W.Frag} (h:H a=some (.tup xs)):SqT K H a xs:=.inl (.inl h)
theorem Inv.list (I:Inv X pins σ H s) (h:SqL X.K H a xs):∃ its:List Value,Vals xs its/\PlainL s.heap a its.toArray/\xs.length<=sizeLine:=by
 rcases h with h | ⟨o,its,n,hk,hc,hd,hs,hz,r⟩
 ·obtain ⟨z,its,n,r,e⟩:=h.ok I.hok
  exact ⟨its,r,⟨_,n,e,rfl,rfl,rfl⟩,z⟩
 ·refine ⟨its.toList,r,⟨o,n,I.kIn a o hk,hc,hd,by simpa using hs⟩,?_⟩
  have e:=r.length
  simp only[ydx] at e
  ac_rfl
theorem Inv.tuple (I:Inv X pins σ H s) (h:SqT X.K H a xs):∃ its:List Value,Vals xs its/\IsTup s.heap a its.toArray/\xs.length<=sizeLine:=by
 rcases h with h | ⟨o,its,n,hk,hc,hs,hz,r⟩
 ·obtain ⟨z,its,r,p⟩:=h.ok I.hok
  exact ⟨its,r,p,z⟩
 ·refine ⟨its.toList,r,⟨o,I.kIn a o hk,hc,n,by simpa using hs⟩,?_⟩
  have e:=r.length
  simp only[ydx] at e
  ac_rfl
theorem Inv.zrf (I:Inv X pins σ H s) (h:SqL X.K H a xs) (h':SqL X.K H a ys):xs=ys:=by
 obtain ⟨its,r,⟨o,n,e,_,_,d⟩,_⟩:=I.list h
 obtain ⟨its',r',⟨o',n',e',_,_,d'⟩,_⟩:=I.list h'
 rw[e] at e';cases e'
 rw[d] at d'
 injection d' with d1 _
 have:its=its':=by simpa using congrArg Array.toList d1
 subst this
 exact r.inj r'
end
noncomputable abbrev Cx.wish (X:Cx) (E:Value->Shared->Prop):Cx:={ X with xe:=E }
noncomputable abbrev Cx.nox (X:Cx):Cx:=X.wish fun _ _=>False
theorem Cx.Ok.wish {X:Cx} (ok:X.Ok) (E:Value->Shared->Prop):(X.wish E).Ok :=
 ⟨ok.mod,ok.kind,ok.glob,ok.blt,ok.above,ok.inj,ok.has,ok.cab,ok.hd,ok.frames,ok.stk,ok.exf,ok.bs,ok.bsz,ok.noex,ok.exfs,ok.funs,ok.frf⟩
theorem Cx.Ok.unwish {X:Cx} {E:Value->Shared->Prop} (ok:(X.wish E).Ok):X.Ok :=
 ⟨ok.mod,ok.kind,ok.glob,ok.blt,ok.above,ok.inj,ok.has,ok.cab,ok.hd,ok.frames,ok.stk,ok.exf,ok.bs,ok.bsz,ok.noex,ok.exfs,ok.funs,ok.frf⟩
section
variable {X:Cx} {pins:List (Addr × Obj)} {σ:St} {H:Hp} {s:Shared} {E:Value->Shared->Prop}
theorem Inv.wish (I:Inv X pins σ H s) (E:Value->Shared->Prop):Inv (X.wish E) pins σ H s:=⟨I.ok.wish E,I.os,I.bare,I.base,I.loc,I.cell,I.free,I.freeC,I.pin,I.hok,I.len⟩
theorem Inv.unwish (I:Inv (X.wish E) pins σ H s):Inv X pins σ H s:=⟨I.ok.unwish,I.os,I.bare,I.base,I.loc,I.cell,I.free,I.freeC,I.pin,I.hok,I.len⟩
theorem SP.unwish {D:Ends} {f:Flow} {s':Shared} (h:SP (X.wish E) pins D f s'):SP X pins D f s':=by
 cases f with
 | next=>obtain ⟨σ',H',I,q⟩:=h;exact ⟨σ',H',I.unwish,q⟩
 | brk=>obtain ⟨σ',H',I,q⟩:=h;exact ⟨σ',H',I.unwish,q⟩
 | cont=>obtain ⟨σ',H',I,q⟩:=h;exact ⟨σ',H',I.unwish,q⟩
 | ret u=>obtain ⟨v,σ',H',I,r,q⟩:=h;exact ⟨v,σ',H',I.unwish,r,q⟩
theorem PSs.nox {st:List Stmt} {t:TS} (h:PSs X.nox st t):PSs X st t:=fun pins s σ H D I hw =>
 wpAny_mono (h pins s σ H D (I.wish _) hw) (fun _ _ q=>q.unwish) fun _ _ z=>False.elim z
end
section
variable {X:Cx} {st:Stmt} {rest:List Stmt} {t u:TS} {e:Expr} {te:TE} {pos:Pos}
def zua:TS:=fun D σ H=>D.nx σ H
def zM (t u:TS):TS:=fun D σ H=>t { D with nx:=u D } σ H
theorem zY:PSs X [] zua:=fun _ _ σ H _ I h=>wpAny_execs_nil ⟨σ,H,I,h⟩
theorem zry (h1:PS X st t) (h2:PSs X rest u):PSs X (st::rest) (zM t u):=by
 intro pins s σ H D I h
 refine wpAny_execs_cons (thn (h1 pins s σ H { D with nx:=u D } I h) fun f s1 q=>?_)
 cases f with
 | next =>
  obtain ⟨σ',H',I',q⟩:=q
  exact h2 pins s1 σ' H' D I' q
 | ret v=>exact q
 | brk=>exact q
 | cont=>exact q
theorem zf (h1:PS X st t):PSs X [st] t:=by
 intro pins s σ H D I h
 refine wpAny_execs_cons (thn (h1 pins s σ H D I h) fun f s1 q=>?_)
 cases f with
 | next=>exact wpAny_execs_nil q
 | ret v=>exact q
 | brk=>exact q
 | cont=>exact q
theorem Inv.quiet {pins:List (Addr × Obj)} {σ:St} {H:Hp} {s:Shared} (I:Inv X pins σ H s):interactive X.env=false:=by simp[interactive,I.ok.kind]
def zuc (te:TE):TS:=fun D σ H=>te σ H fun _ H1=>D.nx σ H1
theorem zK (he:PE X e te) (hs:swapsWith e none pos.line X.env=pure false:=by rfl):PS X (.Expr e pos) (zuc te):=by
 intro pins s σ H D I h
 exact wpAny_Expr_any (thn (he pins s σ H _ I h) fun v s1 ⟨x,H1,I1,r1,q1⟩=>⟨σ,H1,I1,q1⟩) I.quiet hs
def zuQ (te:TE):TS:=fun D σ H=>te σ H D.rt
theorem zj (he:PE X e te):PS X (.Return (some e) pos) (zuQ te):=by
 intro pins s σ H D I h
 exact wpAny_Return_some (thn (he pins s σ H _ I h) fun v s1 ⟨x,H1,I1,r1,q1⟩=>⟨x,σ,H1,I1,r1,q1⟩)
def zuH (c:TT) (t u:TS):TS:=fun D σ H=>c σ H fun b H1=>if b=true then t D σ H1 else u D σ H1
theorem zaa {c:Expr} {a b:List Stmt} {tc:TT} (hc:PT X c tc) (ha:PSs X a t) (hb:PSs X b u):PS X (.If c a b pos) (zuH tc t u):=by
 intro pins s σ H D I h
 refine wpAny_If (thn (hc pins s σ H _ I h) fun d s1 ⟨H1,I1,q1⟩=>?_)
 cases d with
 | true=>exact ha pins s1 σ H1 D I1 q1
 | false=>exact hb pins s1 σ H1 D I1 q1
def ztz:TS:=fun _ _ _=>False
theorem ziO {sts:List Stmt}:PSs X sts ztz:=fun _ _ _ _ _ _ h=>h.elim
end
noncomputable abbrev TG:=V->St->Hp->(St->Hp->Prop)->Prop
noncomputable abbrev TGs:=List V->St->Hp->(St->Hp->Prop)->Prop
def PG (X:Cx) (target:Expr) (t:TG):Prop :=
 ∀ (pins:List (Addr × Obj)) (s:Shared) (σ:St) (H:Hp) (v:V) (u:Value) (Q:St->Hp->Prop),Inv X pins σ H s->RelV v u->t v σ H Q ->
  wpAny (model X.prog X.w) X.A (assign target X.env u) (fun _ s'=>∃ σ' H',Inv X pins σ' H' s'/\Q σ' H') X.xe s
def PGs (X:Cx) (ts:List Expr) (t:TGs):Prop :=
 ∀ (pins:List (Addr × Obj)) (s:Shared) (σ:St) (H:Hp) (vs:List V) (us:List Value) (Q:St->Hp->Prop),Inv X pins σ H s->Vals vs us->t vs σ H Q ->
  wpAny (model X.prog X.w) X.A (assignInOrder ((assignEach ts X.env).map (·.2)) us) (fun _ s'=>∃ σ' H',Inv X pins σ' H' s'/\Q σ' H') X.xe s
noncomputable abbrev TSet:=V->V->V->Hp->(Hp->Prop)->Prop
def PSet (X:Cx) (t:TSet):Prop :=
 ∀ (pins:List (Addr × Obj)) (s:Shared) (σ:St) (H:Hp) (o i v:V) (ov iv u:Value) (Q:Hp->Prop),Inv X pins σ H s->RelV o ov->RelV i iv->RelV v u->t o i v H Q ->
  wpAny (model X.prog X.w) X.A (setItem ov iv u) (fun _ s'=>∃ H',Inv X pins σ H' s'/\Q H') X.xe s
section
variable {X:Cx} {pos:Pos}
def zfk (i:Nat):TG:=fun v σ H Q=>Q (σ.set i (some v)) H
theorem zay {i:Nat} {x:Str} (hN:X.N.Nodup) (hi:X.N[i]?=some x) (hx:Loc X.env.scope x) (hf:X.fn x=true\/X.env.scope.names.lookup x=some .local:=by first | exact .inl rfl | exact .inr rfl | assumption):PG X (.Name x pos) (zfk i):=by
 intro pins s σ H v u Q I r h
 exact wpAny_assign_Name (zjX I hN hi hx r (fun s' I'=>⟨_,H,I',h⟩) hf)
noncomputable def zuE:TGs:=fun vs σ H Q=>vs=[]/\Q σ H
noncomputable def zub (t:TG) (u:TGs):TGs:=fun vs σ H Q=>∃ v r,vs=v::r/\t v σ H fun σ' H'=>u r σ' H' Q
theorem zsn:PGs X [] zuE:=by
 intro pins s σ H vs us Q I r h
 obtain ⟨e,h⟩:=h
 subst e
 cases r
 exact assignInOrder_nil ⟨σ,H,I,h⟩
theorem znG {e:Expr} {es:List Expr} {t:TG} {u:TGs} (h1:PG X e t) (h2:PGs X es u)
  (hs:(assignEach (e::es) X.env).map (·.2)=assign e X.env::(assignEach es X.env).map (·.2):=by rfl):PGs X (e::es) (zub t u):=by
 intro pins s σ H vs us Q I r h
 obtain ⟨v,vr,e1,h⟩:=h
 subst e1
 cases r with
 | cons r rr =>
  rw[hs]
  refine assignInOrder_cons (thn (h1 pins s σ H _ _ _ I r h) fun _ s1 ⟨σ1,H1,I1,q1⟩=>?_)
  exact h2 pins s1 σ1 H1 _ _ Q I1 rr q1
def zuz (K:W.Frag) (n:Nat) (t:TGs):TG:=fun v σ H Q=>∃ a xs,v=.ref a/\SqT K H a xs/\xs.length=n/\t xs σ H Q
theorem ztv {es:List Expr} {k:Nat} {t:TGs} {n:Nat} (hc:X.calm=true) (h:PGs X es t)
  (hn:(assignEach es X.env).length=n:=by rfl) (hst:(assignEach es X.env).findIdx? (·.1)=none:=by rfl):PG X (.Tuple es k pos) (zuz X.K n t):=by
 intro pins s σ H v u Q I r hw
 obtain ⟨a,xs,e1,hq,hl,hw⟩:=hw
 subst e1
 cases r
 obtain ⟨its,rv,ht,hz⟩:=I.tuple hq
 refine assign_Tuple_tuple (I.ok.hd hc) ht (by simp[hn,<-hl,rv.length]) hst fun h' hx=>?_
 have I1:Inv X pins σ H { s with heap:=h' }:=I.kept (t':=s.toks) fun b o e=>hx b o (ycw (ydl e)) e
 exact h pins _ σ H xs _ Q I1 (by simpa using rv) hw
def zuy (to ti:TE) (t:TSet):TG:=fun v σ H Q=>to σ H fun o H1=>ti σ H1 fun i H2=>t o i v H2 fun H3=>Q σ H3
theorem ztH {o i:Expr} {to ti:TE} {t:TSet} (ho:PE X o to) (hi:PE X i ti) (hs:PSet X t)
  (ha:∀ v,assign (.Subscript o i pos) X.env v=(do
   let ov <-holding [v] (eval o X.env)
   let iv <-holding [v,ov] (eval i X.env)
   standAt pos
   holding [v,ov,iv] (setItem ov iv v)
   release [v,ov,iv] []):=by intro _;rfl):PG X (.Subscript o i pos) (zuy to ti t):=by
 intro pins s σ H v u Q I r h
 rw[ha]
 refine wpAny_bind (wpAny_holding (thn (ho pins s σ H _ I h) fun ov s1 ⟨x,H1,I1,r1,q1⟩=>?_))
 refine wpAny_bind (wpAny_holding (thn (hi pins s1 σ H1 _ I1 q1) fun iv s2 ⟨y,H2,I2,r2,q2⟩=>?_))
 refine wpAny_bind (wpAny_standAt (wpAny_bind (wpAny_holding (thn (hs pins s2 σ H2 x y v ov iv u _ I2 r1 r2 r q2) fun _ s3 ⟨H3,I3,q3⟩=>?_))))
 exact wpAny_release ⟨σ,H3,I3,q3⟩
def zmw (te:TE) (g:TG):TS:=fun D σ H=>te σ H fun x H1=>g x σ H1 D.nx
theorem zpR {tg e:Expr} {te:TE} {g:TG} (he:PE X e te) (hg:PG X tg g) (hs:swapsWithSole [tg] e pos.line X.env=pure false:=by rfl) (hw:swappedStores [tg] e X.env=pure none:=by rfl)
  (h1:(assignEach [tg] X.env).map (·.2)=[assign tg X.env]:=by rfl):PS X (.Assign [tg] e pos) (zmw te g):=by
 intro pins s σ H D I h
 refine wpAny_Assign_stores (thn (he pins s σ H _ I h) fun v s1 ⟨x,H1,I1,r1,q1⟩=>?_) hs hw
 rw[h1]
 exact thn (hg pins s1 σ H1 x v _ I1 r1 q1) fun _ s2 q=>q
theorem zo {i:Nat} {x:Str} {e:Expr} {te:TE} {pos':Pos} (hN:X.N.Nodup) (hi:X.N[i]?=some x) (hx:Loc X.env.scope x) (he:PE X e te) (hs:swapsWith e (some (.Name x pos')) pos.line X.env=pure false:=by rfl) (hf:X.fn x=true\/X.env.scope.names.lookup x=some .local:=by first | exact .inl rfl | exact .inr rfl | assumption) :
  PS X (.Assign [.Name x pos'] e pos) (zmw te (zfk i)):=by
 intro pins s σ H D I h
 refine wpAny_Assign_Name (thn (he pins s σ H _ I h) fun v s1 ⟨y,H1,I1,r1,q1⟩=>?_) hs
 exact zjX I1 hN hi hx r1 (fun s2 I2=>⟨_,H1,I2,q1⟩) hf
end
section
variable {X:Cx} {pos:Pos}
def ztm (c:TT) (tb:TS):TS:=fun D σ H=>∃ W:Nat->St->Hp->Prop,(∃ m,W m σ H)/\∀ m σ H,W m σ H ->
 c σ H fun b H1=>if b=true then ∃ N:St->Hp->Prop,(∀ σ' H',N σ' H'->∃ m',m'<m/\W m' σ' H')/\tb { D with nx:=N,ct:=N,bk:=D.nx } σ H1 else D.nx σ H1
theorem zhS {c:Expr} {body:List Stmt} {tc:TT} {tb:TS} (hp:PassesOwn (model X.prog X.w) X.A X.env X.xe) (hc:PT X c tc) (hb:PSs X body tb):PS X (.While c body [] pos) (ztm tc tb):=by
 intro pins s σ H D I h
 obtain ⟨W,⟨m0,w0⟩,turn⟩:=h
 refine wpAny_While (codeAny_whileLoop (fun n s'=>∃ σ' H',Inv X pins σ' H' s'/\W n σ' H') ?_ m0 ⟨σ,H,I,w0⟩)
 rintro n s1 ⟨σ1,H1,I1,w1⟩
 refine wpAny_passesOwn hp (thn (hc pins s1 σ1 H1 _ I1 (turn n σ1 H1 w1)) fun b s2 ⟨H2,I2,q2⟩=>?_)
 cases b with
 | true =>
  obtain ⟨N,hN,q2⟩:=q2
  rw[if_pos rfl]
  refine wpAny_passesOwn hp (thn (hb pins s2 σ1 H2 _ I2 q2) fun f s3 q3=>?_)
  cases f with
  | next =>
   obtain ⟨σ3,H3,I3,n3⟩:=q3
   obtain ⟨m',hm,w3⟩:=hN σ3 H3 n3
   exact ⟨m',hm,σ3,H3,I3,w3⟩
  | cont =>
   obtain ⟨σ3,H3,I3,n3⟩:=q3
   obtain ⟨m',hm,w3⟩:=hN σ3 H3 n3
   exact ⟨m',hm,σ3,H3,I3,w3⟩
  | brk=>exact q3
  | ret v=>exact q3
 | false =>
  rw[if_neg Bool.false_ne_true]
  exact wpAny_execs_nil ⟨σ1,H2,I2,q2⟩
end
structure It where
 go:Nat->Hp->Prop
 yld:Nat->Hp->V->Hp->Prop
 stop:Nat->Hp->Prop
def zcl (X:Cx) (pins:List (Addr × Obj)) (H:Hp) (b:Addr):Prop :=
 H b=none/\b≠X.env.locals/\b ∉ X.fs/\(b∈X.ex\/X.s₀.heap.objs.size<=b)/\(∀ x c,X.env.cells.lookup x=some c->c≠b)/\∀ p∈X.pn++pins,p.1≠b
theorem Inv.zpw {X:Cx} {pins:List (Addr × Obj)} {σ:St} {H H':Hp} {s:Shared} {b:Addr} (I:Inv X pins σ H s) (hb:s.heap.objs.size<=b) (hn:H' b=none):zcl X pins H' b:=by
 refine ⟨hn,ydg (ycx I.lt hb),I.nofs hb,.inr (ydb I.sz hb),fun x c e z=>?_,fun p hp z=>?_⟩
 ·obtain ⟨v,q⟩:=I.cell x c e
  exact absurd (ycx q.lt (by rw[z];exact hb)) (yda _)
 ·exact absurd (ycx (ydl (I.pin p hp).1) (by rw[z];exact hb)) (yda _)
structure Turn (P:Program) (w:World) (K:W.Frag) (tg:Expr) (J:It) (fp:List Addr) (it:Addr) (tn:Nat->Heap->Prop):Prop where
 mem:it∈fp
 obj:∀ i h,tn i h->∀ b∈fp,∃ o,h.get? b=some o/\∀ v,o.data≠.cell v
 keep:∀ i h h',tn i h->(∀ b∈fp,∀ o,h.get? b=some o->h'.get? b=some o)->tn i h'
 item:∀ (X:Cx),X.prog=P->X.w=w->X.K=K->X.calm=true->∀ (i:Nat) (pins:List (Addr × Obj)) (s:Shared) (σ:St) (H:Hp) (E:Value->Shared->Prop),Inv X pins σ H s->(∀ b∈fp,zcl X pins H b)->tn i s.heap->J.go i H ->
  wpAny (model P w) X.A (pyNext (.ref it)) (fun r s1=>∃ u,r=some u /\
   wpAny (model P w) X.A (letOwnedTupleGo tg (.ref it) u) (fun _ s2=>∃ x H',Inv X pins σ H' s2/\RelV x u/\J.yld i H x H'/\tn (i+1) s2.heap/\∀ b∈fp,H' b=none) E s1) E s
 done:∀ (X:Cx),X.prog=P->X.w=w->X.K=K->X.calm=true->∀ (i:Nat) (pins:List (Addr × Obj)) (s:Shared) (σ:St) (H:Hp) (E:Value->Shared->Prop),Inv X pins σ H s->(∀ b∈fp,zcl X pins H b)->tn i s.heap->J.stop i H ->
  wpAny (model P w) X.A (pyNext (.ref it)) (fun r s1=>r=none/\Inv X pins σ H s1) E s
 self:∀ (A:Around) (i:Nat) (s:Shared) (Q:Value->Shared->Prop) (E:Value->Shared->Prop),tn i s.heap->Q (.ref it) s->wpAny (model P w) A (pyIter (.ref it)) Q E s
noncomputable abbrev TI:=St->Hp->(It->Hp->Prop)->Prop
def PIE (X:Cx) (pins:List (Addr × Obj)) (σ:St) (tg:Expr) (R:It->Hp->Prop) (itv:Value) (s2:Shared):Prop :=
 ∃ (it:Addr) (fp:List Addr) (tn:Nat->Heap->Prop) (J:It) (H':Hp),itv=.ref it/\Inv X pins σ H' s2/\Turn X.prog X.w X.K tg J fp it tn/\tn 0 s2.heap/\(∀ b∈fp,zcl X pins H' b)/\R J H'
def PI (X:Cx) (tg iter:Expr) (wi:TI):Prop :=
 ∀ (pins:List (Addr × Obj)) (s:Shared) (σ:St) (H:Hp) (R:It->Hp->Prop),Inv X pins σ H s->wi σ H R ->
  wpAny (model X.prog X.w) X.A (eval iter X.env) (fun v s1=>wpAny (model X.prog X.w) X.A (pyIter v) (PIE X pins σ tg R) X.xe s1) X.xe s
theorem zr4 {M:Model} {A:Around} {E:Value->Shared->Prop} {s:Shared} {tg:Expr} {it:Addr} {u:Value} {o:Obj} {n:String} {vs:Array Value} {Q:Unit->Shared->Prop} (ho:s.heap.get? it=some o) (hc:o.cls=.type n) (hd:o.data=.fields vs)
  (hn:["enumerate", "zip", "dict_itemiterator", "dict_reverseitemiterator", "odict_iterator", "itertools.zip_longest", "itertools.pairwise"].contains n=false) (hQ:Q () s):wpAny M A (letOwnedTupleGo tg (.ref it) u) Q E s:=by
 unfold letOwnedTupleGo
 cases tg <;> first
  | exact wpAny_pure hQ
  | (cases u <;> first
    | exact wpAny_pure hQ
    | (refine wpAny_bind (wpAny_load ho ?_)
       rw[hc,hd]
       show wpAny M A (if (["enumerate", "zip", "dict_itemiterator", "dict_reverseitemiterator", "odict_iterator", "itertools.zip_longest", "itertools.pairwise"].contains n && vs[0]? == some (rawInt _))=true then _ else _) Q E s
       rw[if_neg (by intro h;rw[hn,Bool.false_and] at h;cases h)]
       exact wpAny_pure hQ))
noncomputable def Itl (K:W.Frag) (a:Addr):It :=
 ⟨fun i H=>∃ xs x,SqL K H a xs/\xs[i]?=some x,fun i H x H'=>H'=H/\∀ xs,SqL K H a xs->xs[i]?=some x,fun i H=>∃ xs,SqL K H a xs/\xs.length<=i⟩
noncomputable def Itr (lo:Int) (n:Nat):It:=⟨fun i _=>i<n,fun i H x H'=>H'=H/\x=.int (lo+i),fun i _=>n<=i⟩
theorem zpG {P:Program} {w:World} {K:W.Frag} {tg:Expr} (a it:Addr):Turn P w K tg (Itl K a) [it] it (fun i h=>h.IsListIter it a i) where
 mem:=by simp
 obj:=fun i h st b hb=>by
  have e:b=it:=by simpa using hb
  subst e
  obtain ⟨o,e,c,d⟩:=st
  exact ⟨o,e,fun v z=>by rw[d] at z;cases z⟩
 keep:=fun i h h' st k=>st.at fun o e=>k it (by simp) o e
 item:=by
  intro X hP hw hK hc i pins s σ H E I hf st hg
  subst hP hw hK
  obtain ⟨xs,x,hq,hx⟩:=hg
  obtain ⟨its,rv,p,hz⟩:=I.list hq
  obtain ⟨u,hu,ru⟩:=rv.get hx
  obtain ⟨f0,f1,f2,f3,f4,f5⟩:=hf it (by simp)
  refine wpAny_pyNext_list_item st p.isList (x:=u) (by simpa using hu) fun h' st' sb=>?_
  have I1:Inv X pins σ H { s with heap:=h' }:=I.turned (t':=s.toks) (fun b o hb e=>(sb.2 b hb).trans e) f0 f1 f3 f4 f5
  obtain ⟨o,e,c,d⟩:=id st'
  exact ⟨u,rfl,zr4 (s:={ s with heap:=h' }) e c d (by decide) ⟨x,H,I1,ru,⟨rfl,fun ys hy=>by rw[I.zrf hy hq];exact hx⟩,st',fun b hb=>(hf b hb).1⟩⟩
 done:=by
  intro X hP hw hK hc i pins s σ H E I hf st hg
  subst hP hw hK
  obtain ⟨xs,hq,hx⟩:=hg
  obtain ⟨its,rv,p,hz⟩:=I.list hq
  obtain ⟨f0,f1,f2,f3,f4,f5⟩:=hf it (by simp)
  have hl:=rv.length
  exact wpAny_pyNext_list_end (I.ok.hd hc) st p.isList (by simp;ac_rfl) fun h' eb=>⟨rfl,I.turned (t':=s.toks) (fun b o hb e=>eb b o hb e) f0 f1 f3 f4 f5⟩
 self:=fun _ _ _ _ _ st h=>wpAny_pyIter_listiter st h
theorem zpx {P:Program} {w:World} {K:W.Frag} {tg:Expr} (it:Addr) (lo:Int) (n:Nat):Turn P w K tg (Itr lo n) [it] it (fun i h=>IsRangeIter h it (lo+(i:Nat)*1) ((n:Int)-(i:Nat)) 1) where
 mem:=by simp
 obj:=fun i h st b hb=>by
  have e:b=it:=by simpa using hb
  subst e
  exact ⟨_,st,fun v z=>by
   have z':Data.fields _=Data.cell v:=z
   cases z'⟩
 keep:=fun i h h' st k=>k it (by simp) _ st
 item:=by
  intro X hP hw hK hc i pins s σ H E I hf st hg
  subst hP hw hK
  obtain ⟨f0,f1,f2,f3,f4,f5⟩:=hf it (by simp)
  have W:=Walks.range (prog:=X.prog) (w:=X.w) (I.ok.hd hc) it lo 1 n
  refine W.item i s _ _ hg st fun v h' tk hv st' kk=>?_
  obtain ⟨t,rfl⟩:=hv
  have I1:Inv X pins σ H { s with heap:=h',toks:=tk }:=I.turned (fun b o hb e=>kk b o (by simpa using hb) e) f0 f1 f3 f4 f5
  refine ⟨_,rfl,zr4 (s:={ s with heap:=h',toks:=tk }) (n:="range_iterator") st' rfl rfl (by decide) ⟨.int (lo+i),H,I1,⟨t,?_⟩,⟨rfl,rfl⟩,st',fun b hb=>(hf b hb).1⟩⟩
  rw[Int.mul_one]
 done:=by
  intro X hP hw hK hc i pins s σ H E I hf st hg
  subst hP hw hK
  obtain ⟨f0,f1,f2,f3,f4,f5⟩:=hf it (by simp)
  exact wpAny_pyNext_range_end (I.ok.hd hc) st (by have:n<=i:=hg;ac_rfl) fun h' eb=>⟨rfl,I.turned (t':=s.toks) (fun b o hb e=>eb b o hb e) f0 f1 f3 f4 f5⟩
 self:=fun _ _ _ _ _ st h=>wpAny_pyIter_rangeiter st h
section
variable {X:Cx} {tg:Expr}
def zuq (K:W.Frag) (tl:TE):TI:=fun σ H R=>tl σ H fun x H1=>∃ a,x=.ref a/\(∃ xs,SqL K H1 a xs)/\R (Itl K a) H1
theorem zV {l:Expr} {tl:TE} (hl:PE X l tl):PI X tg l (zuq X.K tl):=by
 intro pins s σ H R I h
 refine thn (hl pins s σ H _ I h) fun v s1 ⟨x,H1,I1,r1,q1⟩=>?_
 obtain ⟨a,e,⟨xs,hq⟩,q⟩:=q1
 subst e
 cases r1
 obtain ⟨its,rv,p,hz⟩:=I1.list hq
 refine wpAny_pyIter_list p.isList ?_
 refine ⟨s1.heap.objs.size,[s1.heap.objs.size],_,_,H1,rfl,I1.kept (t':=s1.toks) fun b o e=>ydk _ e,zpG a _,⟨_,ydm _ rfl,rfl,rfl⟩,fun b hb=>?_,q⟩
 have e:b=s1.heap.objs.size:=by simpa using hb
 subst e
 exact I1.zpw (ycv _) (I1.hok.fresh (ycv _))
theorem zmo {pins:List (Addr × Obj)} {σ:St} {H:Hp} {s:Shared} {R:It->Hp->Prop} {E:Value->Shared->Prop} {lo hi:Int} {t u v:Tok} {tk:Nat} (I:Inv X pins σ H s) (h1:-(2 ^ 62)<=lo) (h2:lo<2 ^ 62) (h3:-(2 ^ 62)<=hi) (h4:hi<2 ^ 62)
  (q:R (Itr lo (hi-lo).toNat) H):wpAny (model X.prog X.w) X.A (pyIter (.ref s.heap.objs.size)) (PIE X pins σ tg R) E { s with heap:=s.heap.push { cls:=.type "range", data:=.fields #[.int lo t,.int hi u,.int 1 v] },toks:=tk }:=by
 refine wpAny_pyIter_range (IsRange.new ..) (small_one h1 h2 h3 h4) ?_
 have I1:Inv X pins σ H { s with heap:=s.heap.push { cls:=.type "range", data:=.fields #[.int lo t,.int hi u,.int 1 v] },toks:=tk }:=I.kept fun b o e=>ydk _ e
 refine ⟨(s.heap.push { cls:=.type "range", data:=.fields #[.int lo t,.int hi u,.int 1 v] }).objs.size,[(s.heap.push { cls:=.type "range", data:=.fields #[.int lo t,.int hi u,.int 1 v] }).objs.size],_,_,H,rfl,
  I1.kept (t':=tk) fun b o e=>ydk _ e,zpx _ lo (hi-lo).toNat,?_,fun b hb=>?_,q⟩
 ·have e1:lo+((0:Nat):Int)*1=lo:=by simp
  have e2:(((hi-lo).toNat:Nat):Int)-((0:Nat):Int)=Builtin.Range.rangeSize lo hi 1:=by rw[rangeSize_one];split <;> ac_rfl
  show IsRangeIter _ _ (lo+((0:Nat):Int)*1) ((((hi-lo).toNat:Nat):Int)-((0:Nat):Int)) 1
  rw[e1,e2]
  exact ydm _ rfl
 ·have e:b=(s.heap.push { cls:=.type "range", data:=.fields #[.int lo t,.int hi u,.int 1 v] }).objs.size:=by simpa using hb
  subst e
  exact I1.zpw (ycv _) (I1.hok.fresh (ycv _))
def zuo (ta:TA):TI:=fun σ H R=>ta σ H fun vs H1=>∃ j:Int,vs=[.int j] /\ -(2 ^ 62)<=j/\j<2 ^ 62/\R (Itr 0 j.toNat) H1
def zun (ta:TA):TI:=fun σ H R=>ta σ H fun vs H1=>∃ i j:Int,vs=[.int i,.int j]/\(-(2 ^ 62)<=i/\i<2 ^ 62 /\ -(2 ^ 62)<=j/\j<2 ^ 62)/\R (Itr i (j-i).toNat) H1
theorem zaU {a:Expr} {ta:TA} {p pos:Pos} (hg:Gl X "range") (hm:X.mg "range" = none) (ha:PA X [a] ta) (hs:starEach [a] X.env=[(false,eval a X.env)]:=by rfl):PI X tg (.Call (.Name "range" p) [a] [] pos) (zuo ta):=by
 intro pins s σ H R I h
 refine Call_ (ziH I hg hm boot_range (PyProof.Rows.callWith_type1 (thn (ha pos pins s σ H _ I h) fun us s1 ⟨vs,H1,I1,r1,q1⟩=>?_) hs rfl))
 obtain ⟨j,e,q1,q2,q⟩:=q1
 subst e
 cases r1 with
 | cons r rr =>
  cases rr
  obtain ⟨t,rfl⟩:=r
  exact call_range_1 (zmo I1 (by ac_rfl) (by ac_rfl) q1 q2 (by simpa using q))
theorem zqS {a b:Expr} {ta:TA} {p pos:Pos} (hg:Gl X "range") (hm:X.mg "range" = none) (ha:PA X [a,b] ta) (hs:starEach [a,b] X.env=[(false,eval a X.env),(false,eval b X.env)]:=by rfl) (hs2:starEach [b] X.env=[(false,eval b X.env)]:=by rfl) :
  PI X tg (.Call (.Name "range" p) [a,b] [] pos) (zun ta):=by
 intro pins s σ H R I h
 refine Call_ (ziH I hg hm boot_range (PyProof.Rows.callWith_type1 (thn (ha pos pins s σ H _ I h) fun us s1 ⟨vs,H1,I1,r1,q1⟩=>?_) (by rw[hs,hs2]) (by rw[hs2];rfl)))
 obtain ⟨i,j,e,⟨q1,q2,q3,q4⟩,q⟩:=q1
 subst e
 cases r1 with
 | cons r rr =>
  cases rr with
  | cons r' rr =>
   cases rr
   obtain ⟨t,rfl⟩:=r
   obtain ⟨t',rfl⟩:=r'
   exact call_range_2 (zmo I1 q1 q2 q3 q4 q)
def zuN (wi:TI) (g:TG) (tb:TS):TS:=fun D σ H=>wi σ H fun J H1=>∃ W:Nat->Nat->St->Hp->Prop,(∃ m,W 0 m σ H1)/\∀ i m σ H,W i m σ H ->
 (J.stop i H/\D.nx σ H)\/(J.go i H/\∃ N:St->Hp->Prop,(∀ σ' H',N σ' H'->∃ m',m'<m/\W (i+1) m' σ' H')/\∀ x H',J.yld i H x H'->g x σ H' fun σ2 H2=>tb { D with nx:=N,ct:=N,bk:=D.nx } σ2 H2)
noncomputable def ziJ (fp:List Addr) (h:Heap):List (Addr × Obj):=fp.filterMap fun b=>(h.get? b).map fun o=>(b,o)
theorem zcv {fp:List Addr} {h:Heap} {b:Addr} {o:Obj} (hb:b∈fp) (e:h.get? b=some o):(b,o)∈ziJ fp h:=ych.mpr ⟨b,hb,by rw[e];rfl⟩
theorem zp7 {fp:List Addr} {h:Heap} {p:Addr × Obj} (hp:p∈ziJ fp h):p.1∈fp/\h.get? p.1=some p.2:=by
 obtain ⟨b,hb,e⟩:=ych.mp hp
 cases q:h.get? b with
 | none=>rw[q] at e;cases e
 | some o =>
  rw[q] at e
  have e':(b,o)=p:=Option.some.inj e
  subst e'
  exact ⟨hb,q⟩
theorem Inv.pinned {pins:List (Addr × Obj)} {σ:St} {H:Hp} {s:Shared} {fp:List Addr} (I:Inv X pins σ H s) (hf:∀ b∈fp,zcl X pins H b) (ho:∀ b∈fp,∃ o,s.heap.get? b=some o/\∀ v,o.data≠.cell v):Inv X (pins++ziJ fp s.heap) σ H s :=
 I.zkK fun p hp=>(yag.mp hp).elim (fun z=>I.pin p (yaj _ z)) fun z=>by
  obtain ⟨hb,e⟩:=zp7 z
  obtain ⟨f0,f1,f2,_⟩:=hf p.1 hb
  obtain ⟨o,e',d⟩:=ho p.1 hb
  rw[e] at e';cases e'
  exact ⟨e,f0,f1,f2,d⟩
theorem Inv.unpinned {pins pl:List (Addr × Obj)} {σ:St} {H:Hp} {s:Shared} (I:Inv X (pins++pl) σ H s):Inv X pins σ H s:=I.zkK fun p hp=>I.pin p (yaj _ (ybc _ hp))
theorem zch {iter:Expr} {body:List Stmt} {wi:TI} {g:TG} {tb:TS} {pos:Pos} (hp:PassesOwn (model X.prog X.w) X.A X.env X.xe) (hc:X.calm=true) (hi:PI X tg iter wi) (hg:PG X tg g) (hb:PSs X body tb)
  (hs:∀ x,foldedSetIterable iter X.env x=pure x:=by intro _;rfl):PS X (.For tg iter body [] pos) (zuN wi g tb):=by
 intro pins s σ H D I h
 refine wpAny_For (thn (hi pins s σ H _ I h) fun v s1 h1=>thn h1 fun itv s2 h2=>?_) hs
 obtain ⟨it,fp,tn,J,H2,e,I2,T,st2,f2,W,⟨m0,w0⟩,turn⟩:=h2
 subst e
 have stat:∀ {H':Hp},(∀ b∈fp,H' b=none)->∀ b∈fp,zcl X pins H' b:=fun hn b hb=>⟨hn b hb,(f2 b hb).2⟩
 refine codeAny_forLoop_any (fun n s'=>∃ i σ' H',Inv X pins σ' H' s'/\tn i s'.heap/\(∀ b∈fp,H' b=none)/\W i n σ' H') ?_ m0 ⟨0,σ,H2,I2,st2,fun b hb=>(f2 b hb).1,w0⟩
 rintro n s3 ⟨i,σ3,H3,I3,st3,fr3,w3⟩
 rcases turn i n σ3 H3 w3 with ⟨stop,qn⟩ | ⟨go,N,hN,step⟩
 ·refine wpAny_passesOwn hp (thn (T.done X rfl rfl rfl hc i pins s3 σ3 H3 X.xe I3 (stat fr3) st3 stop) fun r s4 ⟨hr,I4⟩=>?_)
  subst hr
  exact wpAny_execs_nil ⟨σ3,H3,I4,qn⟩
 ·refine wpAny_passesOwn hp (thn (T.item X rfl rfl rfl hc i pins s3 σ3 H3 X.xe I3 (stat fr3) st3 go) fun r s4 ⟨u,hr,h4⟩=>?_)
  subst hr
  refine wpAny_passesOwn hp (thn h4 fun _ s5 ⟨x,H5,I5,r5,y5,st5,fr5⟩=>?_)
  have I5':=I5.pinned (stat fr5) (T.obj _ _ st5)
  refine wpAny_passesOwn hp (thn (hg _ s5 σ3 H5 x u _ I5' r5 (step x H5 y5)) fun _ s6 ⟨σ6,H6,I6,q6⟩=>?_)
  refine wpAny_passesOwn hp (thn (hb _ s6 σ6 H6 _ I6 q6) fun f s7 q7=>?_)
  have again:∀ {σ7:St} {H7:Hp},Inv X (pins++ziJ fp s5.heap) σ7 H7 s7->N σ7 H7->∃ m,m<n/\∃ i σ' H',Inv X pins σ' H' s7/\tn i s7.heap/\(∀ b∈fp,H' b=none)/\W i m σ' H':=fun {σ7 H7} I7 n7=>by
   obtain ⟨m',hm,w7⟩:=hN σ7 H7 n7
   refine ⟨m',hm,i+1,σ7,H7,I7.unpinned,T.keep _ _ _ st5 fun b hb o e=>(I7.pin (b,o) (yaj _ (yaj _ (zcv hb e)))).1,fun b hb=>?_,w7⟩
   obtain ⟨o,e,d⟩:=T.obj _ _ st5 b hb
   exact (I7.pin (b,o) (yaj _ (yaj _ (zcv hb e)))).2.1
  cases f with
  | next=>obtain ⟨σ7,H7,I7,n7⟩:=q7;exact again I7 n7
  | cont=>obtain ⟨σ7,H7,I7,n7⟩:=q7;exact again I7 n7
  | brk=>obtain ⟨σ7,H7,I7,q7⟩:=q7;exact ⟨σ7,H7,I7.unpinned,q7⟩
  | ret v=>obtain ⟨x7,σ7,H7,I7,r7,q7⟩:=q7;exact ⟨x7,σ7,H7,I7.unpinned,r7,q7⟩
end
theorem zcY {K:W.Frag} {a:Addr} {xs:List V} {g:TG} {tb:TS} {D:Ends} {σ:St} {H:Hp} (Pv:Nat->St->Hp->Prop) (h0:Pv 0 σ H) (hl:∀ i σ H,i<=xs.length->Pv i σ H->SqL K H a xs)
  (hs:∀ i x σ H,xs[i]?=some x->Pv i σ H->g x σ H fun σ2 H2=>tb { D with nx:=Pv (i+1),ct:=Pv (i+1),bk:=D.nx } σ2 H2) (hd:∀ σ H,Pv xs.length σ H->D.nx σ H) :
  ∃ W:Nat->Nat->St->Hp->Prop,(∃ m,W 0 m σ H)/\∀ i m σ H,W i m σ H ->
   ((Itl K a).stop i H/\D.nx σ H)\/((Itl K a).go i H/\∃ N:St->Hp->Prop,(∀ σ' H',N σ' H'->∃ m',m'<m/\W (i+1) m' σ' H')/\∀ x H',(Itl K a).yld i H x H'->g x σ H' fun σ2 H2=>tb { D with nx:=N,ct:=N,bk:=D.nx } σ2 H2):=by
 refine ⟨fun i m σ H=>m=xs.length-i/\i<=xs.length/\Pv i σ H,⟨xs.length,by simp,ycz _,h0⟩,?_⟩
 rintro i m σ H ⟨rfl,hi,p⟩
 have q:=hl i σ H hi p
 by_cases hlt:i<xs.length
 ·refine .inr ⟨⟨xs,xs[i],q,by simp[hlt]⟩,Pv (i+1),fun σ' H' p'=>⟨xs.length-(i+1),by ac_rfl,rfl,hlt,p'⟩,fun x H' y=>?_⟩
  obtain ⟨e,y⟩:=y
  subst e
  exact hs i x σ _ (y xs q) p
 ·have e:i=xs.length:=by ac_rfl
  subst e
  exact .inl ⟨⟨xs,q,ycv _⟩,hd σ H p⟩
theorem zgc {lo:Int} {n:Nat} {g:TG} {tb:TS} {D:Ends} {σ:St} {H:Hp} (Pv:Nat->St->Hp->Prop) (h0:Pv 0 σ H)
  (hs:∀ i σ H,i<n->Pv i σ H->g (.int (lo+i)) σ H fun σ2 H2=>tb { D with nx:=Pv (i+1),ct:=Pv (i+1),bk:=D.nx } σ2 H2) (hd:∀ σ H,Pv n σ H->D.nx σ H) :
  ∃ W:Nat->Nat->St->Hp->Prop,(∃ m,W 0 m σ H)/\∀ i m σ H,W i m σ H ->
   ((Itr lo n).stop i H/\D.nx σ H)\/((Itr lo n).go i H/\∃ N:St->Hp->Prop,(∀ σ' H',N σ' H'->∃ m',m'<m/\W (i+1) m' σ' H')/\∀ x H',(Itr lo n).yld i H x H'->g x σ H' fun σ2 H2=>tb { D with nx:=N,ct:=N,bk:=D.nx } σ2 H2):=by
 refine ⟨fun i m σ H=>m=n-i/\i<=n/\Pv i σ H,⟨n,by simp,ycz _,h0⟩,?_⟩
 rintro i m σ H ⟨rfl,hi,p⟩
 by_cases hlt:i<n
 ·refine .inr ⟨hlt,Pv (i+1),fun σ' H' p'=>⟨n-(i+1),by ac_rfl,rfl,hlt,p'⟩,fun x H' y=>?_⟩
  obtain ⟨e,y⟩:=y
  subst e y
  exact hs i σ _ hlt p
 ·have e:i=n:=by ac_rfl
  subst e
  exact .inl ⟨ycv _,hd σ H p⟩
noncomputable abbrev R2:=V->V->Hp->VK->Prop
def OpR (X:Cx) (f:Value->Value->Sem Value) (r:R2):Prop :=
 ∀ (pins:List (Addr × Obj)) (s:Shared) (σ:St) (H:Hp) (x y:V) (v u:Value) (Q:VK),Inv X pins σ H s->RelV x v->RelV y u->r x y H Q ->
  wpAny (model X.prog X.w) X.A (f v u) (EP X pins σ Q) X.xe s
def UnR (X:Cx) (f:Value->Sem Value) (r:V->Hp->VK->Prop):Prop :=
 ∀ (pins:List (Addr × Obj)) (s:Shared) (σ:St) (H:Hp) (x:V) (v:Value) (Q:VK),Inv X pins σ H s->RelV x v->r x H Q ->
  wpAny (model X.prog X.w) X.A (f v) (EP X pins σ Q) X.xe s
def zbo (X:Cx) (f:Value) (r:List V->Hp->VK->Prop):Prop :=
 ∀ (pins:List (Addr × Obj)) (s:Shared) (σ:St) (H:Hp) (xs:List V) (us:List Value) (Q:VK),Inv X pins σ H s->Vals xs us->r xs H Q ->
  wpAny (model X.prog X.w) X.A (call f us) (EP X pins σ Q) X.xe s
def tOp (r:R2) (ta tb:TE):TE:=fun σ H Q=>ta σ H fun x H1=>tb σ H1 fun y H2=>r x y H2 Q
def tUn (r:V->Hp->VK->Prop) (ta:TE):TE:=fun σ H Q=>ta σ H fun x H1=>r x H1 Q
def rI (C:Int->Int->Prop) (g:Int->Int->V):R2:=fun x y H Q=>∃ i j,x=.int i/\y=.int j/\C i j/\Q (g i j) H
def rI0 (g:Int->Int->V):R2:=fun x y H Q=>∃ i j,x=.int i/\y=.int j/\Q (g i j) H
noncomputable def rU (g:Int->V):V->Hp->VK->Prop:=fun x H Q=>∃ i,x=.int i/\Q (g i) H
section
variable {X:Cx} {a b c:Expr} {ta tb tc:TE} {pos:Pos}
theorem zrB (ha:PE X a ta) (hb:PE X b tb) {pins:List (Addr × Obj)} {s:Shared} {σ:St} {H:Hp} {R:V->V->Hp->Prop} (I:Inv X pins σ H s)
  (h:ta σ H fun x H1=>tb σ H1 fun y H2=>R x y H2) {Q:Value->Shared->Prop} {f:Value->Value->Sem Value}
  (hf:∀ v u s2 x y H2,Inv X pins σ H2 s2->RelV x v->RelV y u->R x y H2->wpAny (model X.prog X.w) X.A (f v u) Q X.xe s2) :
  wpAny (model X.prog X.w) X.A (eval a X.env) (fun v s₁=>wpAny (model X.prog X.w) X.A (eval b X.env) (fun u s₂=>wpAny (model X.prog X.w) X.A (f v u) Q X.xe s₂) X.xe s₁) X.xe s:=by
 refine thn (ha pins s σ H _ I h) fun v s1 ⟨x,H1,I1,r1,q1⟩=>?_
 refine thn (hb pins s1 σ H1 _ I1 q1) fun u s2 ⟨y,H2,I2,r2,q2⟩=>?_
 exact hf v u s2 x y H2 I2 r1 r2 q2
theorem zk {op:Operator} {r:R2} (ho:OpR X (binaryOp op) r) (ha:PE X a ta) (hb:PE X b tb):PE X (.BinOp a op b pos) (tOp r ta tb):=by
 intro pins s σ H Q I h
 exact wpAny_BinOp (zrB ha hb I h fun v u s2 x y H2 I2 rx ry q=>ho pins s2 σ H2 x y v u Q I2 rx ry q)
theorem zcU {op:UnaryOp} {r:V->Hp->VK->Prop} (ho:UnR X (unaryOp op) r) (ha:PE X a ta):PE X (.UnaryOp op a pos) (tUn r ta):=by
 intro pins s σ H Q I h
 exact UnaryOp_ (thn (ha pins s σ H _ I h) fun v s1 ⟨x,H1,I1,r1,q1⟩=>ho pins s1 σ H1 x v Q I1 r1 q1)
theorem opI {f:Value->Value->Sem Value} {C:Int->Int->Prop} {g:Int->Int->Int}
  (rule:∀ (i j:Int) (t u:Tok) (s:Shared) (Q:Value->Shared->Prop) (E:Value->Shared->Prop),C i j->Q (.int (g i j) s.toks) { s with toks:=s.toks+1 }->wpAny (model X.prog X.w) X.A (f (.int i t) (.int j u)) Q E s) :
  OpR X f (rI C fun i j=>.int (g i j)):=by
 intro pins s σ H x y v u Q I rx ry h
 obtain ⟨i,j,rfl,rfl,hc,q⟩:=h
 obtain ⟨t,rfl⟩:=rx
 obtain ⟨t',rfl⟩:=ry
 exact rule i j t t' s _ _ hc ⟨.int (g i j),H,I.tok _,⟨_,rfl⟩,q⟩
theorem ztV {f:Value->Value->Sem Value} {g:Int->Int->Int}
  (rule:∀ (i j:Int) (t u:Tok) (s:Shared) (Q:Value->Shared->Prop) (E:Value->Shared->Prop),Q (.int (g i j) s.toks) { s with toks:=s.toks+1 }->wpAny (model X.prog X.w) X.A (f (.int i t) (.int j u)) Q E s) :
  OpR X f (rI0 fun i j=>.int (g i j)):=by
 intro pins s σ H x y v u Q I rx ry h
 obtain ⟨i,j,rfl,rfl,q⟩:=h
 obtain ⟨t,rfl⟩:=rx
 obtain ⟨t',rfl⟩:=ry
 exact rule i j t t' s _ _ ⟨.int (g i j),H,I.tok _,⟨_,rfl⟩,q⟩
theorem zrL {f:Value->Value->Sem Value} {g:Int->Int->Bool}
  (rule:∀ (i j:Int) (t u:Tok) (s:Shared) (Q:Value->Shared->Prop) (E:Value->Shared->Prop),Q (.bool (g i j)) s->wpAny (model X.prog X.w) X.A (f (.int i t) (.int j u)) Q E s) :
  OpR X f (rI0 fun i j=>.bl (g i j)):=by
 intro pins s σ H x y v u Q I rx ry h
 obtain ⟨i,j,rfl,rfl,q⟩:=h
 obtain ⟨t,rfl⟩:=rx
 obtain ⟨t',rfl⟩:=ry
 exact rule i j t t' s _ _ ⟨.bl (g i j),H,I,rfl,q⟩
def CDiv (i j:Int):Prop:=0<j/\j<1073741824
def CPow (i j:Int):Prop:=0<=j/\j<=1000000/\i.natAbs<2 ^ 64
def CMul (i j:Int):Prop:=(-(2 ^ 64)<i/\i<2 ^ 64)\/(-(2 ^ 64)<j/\j<2 ^ 64)
theorem CMul.ok {i j:Int} (h:CMul i j):IntMulOk i j:=by
 rcases h with ⟨h1,h2⟩ | ⟨h1,h2⟩
 ·exact .of_left (intBits_le_64 h1 h2)
 ·exact .of_right (intBits_le_64 h1 h2)
theorem zQ:OpR X (binaryOp .Add) (rI0 fun i j=>.int (i+j)):=ztV fun _ _ _ _ _ _ _ q=>add_int q
theorem zce:OpR X (binaryOp .Sub) (rI0 fun i j=>.int (i-j)):=ztV fun _ _ _ _ _ _ _ q=>sub_int q
theorem zcN:OpR X (binaryOp .Mult) (rI CMul fun i j=>.int (i*j)):=opI fun _ _ _ _ _ _ _ hc q=>mul_int q hc.ok
theorem zdd:OpR X (binaryOp .FloorDiv) (rI CDiv fun i j=>.int (i / j)):=opI fun i j _ _ _ _ _ hc q=>by
 have h1:(0:Int)<j:=hc.1
 have h2:j<1073741824:=hc.2
 exact floordiv_int (by ac_rfl) (by rw[Int.fdiv_eq_ediv_of_nonneg i (by ac_rfl)];exact q) (.inl (PyProof.noPylong_small (by ac_rfl)))
theorem zal:OpR X (binaryOp .Mod) (rI (fun _ j=>0<j) fun i j=>.int (i % j)):=opI fun i j _ _ _ _ _ hc q=>by
 have h1:(0:Int)<j:=hc
 exact mod_int' (by ac_rfl) (by rw[Int.fmod_eq_emod_of_nonneg i (by ac_rfl)];exact q)
theorem ztM:OpR X (binaryOp .Pow) (rI CPow fun i j=>.int (i ^ j.toNat)):=opI fun _ _ _ _ _ _ _ hc q=>pow_int_small hc.1 hc.2.1 hc.2.2 q
theorem unI {f:Value->Sem Value} {g:Int->Int}
  (rule:∀ (i:Int) (t:Tok) (s:Shared) (Q:Value->Shared->Prop) (E:Value->Shared->Prop),Q (.int (g i) s.toks) { s with toks:=s.toks+1 }->wpAny (model X.prog X.w) X.A (f (.int i t)) Q E s) :
  UnR X f (rU fun i=>.int (g i)):=by
 intro pins s σ H x v Q I rx h
 obtain ⟨i,rfl,q⟩:=h
 obtain ⟨t,rfl⟩:=rx
 exact rule i t s _ _ ⟨.int (g i),H,I.tok _,⟨_,rfl⟩,q⟩
theorem zbY:UnR X (unaryOp .USub) (rU fun i=>.int (-i)):=unI fun _ _ _ _ _ q=>neg_int q
end
noncomputable def scal:V->V->Bool
 | .non,.non=>true | .non,.int _=>true | .int _,.non=>true | .non,.bl _=>true | .bl _,.non=>true | .non,.str _=>true | .str _,.non=>true
 | .int _,.int _=>true | .bl _,.bl _=>true | .str _,.str _=>true | .byt _,.byt _=>true
 | .int _,.str _=>true | .str _,.int _=>true | .bl _,.str _=>true | .str _,.bl _=>true
 | _,_=>false
def rEq:R2:=fun x y H Q=>scal x y=true/\Q (.bl (decide (x=y))) H
theorem zsm {i j:Int}:decide (V.int i=V.int j)=(i == j):=by
 rw[Bool.eq_iff_iff]
 simp
theorem zts {i j:Bool}:decide (V.bl i=V.bl j)=(i == j):=by
 rw[Bool.eq_iff_iff]
 simp
theorem zsZ {i j:Str}:decide (V.str i=V.str j)=(i == j):=by
 rw[Bool.eq_iff_iff]
 simp
theorem zs6 {i j:Array UInt8}:decide (V.byt i=V.byt j)=(i.toList == j.toList):=by
 rw[Bool.eq_iff_iff]
 cases i
 cases j
 simp
section
variable {X:Cx} {a b c:Expr} {ta tb tc:TE} {pos:Pos}
theorem za8 {pins:List (Addr × Obj)} {σ:St} {H:Hp} {s:Shared} {Q:VK} {k k':Bool} (I:Inv X pins σ H s) (q:Q (.bl k) H) (e:k=k'):EP X pins σ Q (.bool k') s:=by
 subst e
 exact ⟨.bl k,H,I,rfl,q⟩
theorem za9:OpR X (compareOp .Eq) rEq:=by
 intro pins s σ H x y v u Q I rx ry h
 obtain ⟨hs,q⟩:=h
 cases x with
 | non =>
  cases rx
  cases y with
  | non=>cases ry;exact PySem.EqNone.eq_none_none (za8 I q (by simp))
  | bl j=>cases ry;exact PySem.EqNone.eq_none_bool (za8 I q (by simp))
  | int j=>obtain ⟨t',rfl⟩:=ry;exact PySem.EqNone.eq_none_int (za8 I q (by simp))
  | str j=>obtain ⟨t',rfl⟩:=ry;exact PySem.EqNone.eq_none_str (za8 I q (by simp))
  | _=>exact absurd (show false=true from hs) Bool.false_ne_true
 | bl i =>
  cases rx
  cases y with
  | non=>cases ry;exact PySem.EqNone.eq_bool_none (za8 I q (by simp))
  | bl j=>cases ry;exact eq_bool (za8 I q zts)
  | str j=>obtain ⟨t',rfl⟩:=ry;exact PySem.EqMixed.eq_bool_str (za8 I q (by simp))
  | _=>exact absurd (show false=true from hs) Bool.false_ne_true
 | int i =>
  obtain ⟨t,rfl⟩:=rx
  cases y with
  | non=>cases ry;exact PySem.EqNone.eq_int_none (za8 I q (by simp))
  | int j=>obtain ⟨t',rfl⟩:=ry;exact eq_int (za8 I q zsm)
  | str j=>obtain ⟨t',rfl⟩:=ry;exact PySem.EqMixed.eq_int_str (za8 I q (by simp))
  | _=>exact absurd (show false=true from hs) Bool.false_ne_true
 | str i =>
  obtain ⟨t,rfl⟩:=rx
  cases y with
  | non=>cases ry;exact PySem.EqNone.eq_str_none (za8 I q (by simp))
  | bl j=>cases ry;exact PySem.EqMixed.eq_str_bool (za8 I q (by simp))
  | int j=>obtain ⟨t',rfl⟩:=ry;exact PySem.EqMixed.eq_str_int (za8 I q (by simp))
  | str j=>obtain ⟨t',rfl⟩:=ry;exact eq_str (za8 I q zsZ)
  | _=>exact absurd (show false=true from hs) Bool.false_ne_true
 | byt i =>
  obtain ⟨t,rfl⟩:=rx
  cases y with
  | byt j=>obtain ⟨t',rfl⟩:=ry;exact PySem.W.eq_bytes (za8 I q zs6)
  | _=>exact absurd (show false=true from hs) Bool.false_ne_true
 | _=>cases y <;> exact absurd (show false=true from hs) Bool.false_ne_true
theorem zdq:OpR X (compareOp .Lt) (rI0 fun i j=>.bl (decide (i<j))):=zrL fun _ _ _ _ _ _ _ q=>lt_int q
theorem zdE:OpR X (compareOp .LtE) (rI0 fun i j=>.bl (decide (i<=j))):=zrL fun _ _ _ _ _ _ _ q=>le_int q
theorem zgp:OpR X (compareOp .Gt) (rI0 fun i j=>.bl (decide (j<i))):=zrL fun _ _ _ _ _ _ _ q=>gt_int q
theorem nomark (b:Expr) {op:CmpOp} (h:op≠.In:=by decide) (h2:op≠.NotIn:=by decide):behindInMarks op b=false:=by
 have e1:(op == CmpOp.In)=false:=by cases op <;> first | rfl | exact absurd rfl h
 have e2:(op == CmpOp.NotIn)=false:=by cases op <;> first | rfl | exact absurd rfl h2
 cases b <;> simp[behindInMarks,e1,e2]
theorem zho {op:CmpOp} {r:R2} (ho:OpR X (compareOp op) r) (ha:PE X a ta) (hb:PE X b tb) (hm:behindInMarks op b=false):PE X (.Compare a [op] [b] pos) (tOp r ta tb):=by
 intro pins s σ H Q I h
 exact wpAny_Compare1 (zrB ha hb I h fun v u s2 x y H2 I2 rx ry q=>ho pins s2 σ H2 x y v u Q I2 rx ry q) hm
def zr6 (t:TE):TT:=fun σ H Q=>t σ H fun x H'=>∃ k,x=.bl k/\Q k H'
theorem zz {op:CmpOp} {r:R2} (ho:OpR X (compareOp op) r) (ha:PE X a ta) (hb:PE X b tb) (hm:behindInMarks op b=false):PT X (.Compare a [op] [b] pos) (zr6 (tOp r ta tb)):=by
 intro pins s σ H Q I h
 refine wpAny_isTrue_Compare1 (thn (ha pins s σ H _ I h) fun v s1 ⟨x,H1,I1,r1,q1⟩=>thn (hb pins s1 σ H1 _ I1 q1) fun u s2 ⟨y,H2,I2,r2,q2⟩ =>
  thn (ho pins s2 σ H2 x y v u _ I2 r1 r2 q2) fun c s3 ⟨z,H3,I3,r3,k,e,q3⟩=>?_) hm
 subst e
 cases r3
 exact wpAny_truthy_bool ⟨H3,I3,q3⟩
def zpU (r r':R2) (ta tb tc:TE):TE:=fun σ H Q=>ta σ H fun x H1=>tb σ H1 fun y H2=>r x y H2 fun z H3=>∃ k,z=.bl k /\
 (if k=true then tc σ H3 fun w' H4=>r' y w' H4 Q else Q (.bl false) H3)
theorem znu {op op':CmpOp} {r r':R2} (ho:OpR X (compareOp op) r) (ho':OpR X (compareOp op') r') (ha:PE X a ta) (hb:PE X b tb) (hc:PE X c tc)
  (hm:lastMarks [op,op'] [b,c]=false:=by with_unfolding_all rfl):PE X (.Compare a [op,op'] [b,c] pos) (zpU r r' ta tb tc):=by
 intro pins s σ H Q I h
 refine Compare_chain (thn (ha pins s σ H _ I h) fun v s1 ⟨x,H1,I1,r1,q1⟩=>chain_link (thn (hb pins s1 σ H1 _ I1 q1) fun u s2 ⟨y,H2,I2,r2,q2⟩ =>
  thn (ho pins s2 σ H2 x y v u _ I2 r1 r2 q2) fun d s3 ⟨z,H3,I3,r3,k,e,q3⟩=>?_)) hm
 subst e
 cases r3
 refine wpAny_truthy_bool ?_
 cases k with
 | false=>exact ite_ff ⟨.bl false,H3,I3,rfl,q3⟩
 | true=>exact ite_tt (chain_last (thn (hc pins s3 σ H3 _ I3 q3) fun w' s4 ⟨z',H4,I4,r4,q4⟩=>ho' pins s4 σ H4 y z' u w' Q I4 r2 r4 q4))
theorem zrQ {op op':CmpOp} {r r':R2} (ho:OpR X (compareOp op) r) (ho':OpR X (compareOp op') r') (ha:PE X a ta) (hb:PE X b tb) (hc:PE X c tc)
  (hm:lastMarks [op,op'] [b,c]=false:=by with_unfolding_all rfl):PT X (.Compare a [op,op'] [b,c] pos) (zr6 (zpU r r' ta tb tc)):=by
 intro pins s σ H Q I h
 refine isTrue_chain (thn (ha pins s σ H _ I h) fun v s1 ⟨x,H1,I1,r1,q1⟩=>test_link (thn (hb pins s1 σ H1 _ I1 q1) fun u s2 ⟨y,H2,I2,r2,q2⟩ =>
  thn (ho pins s2 σ H2 x y v u _ I2 r1 r2 q2) fun d s3 ⟨z,H3,I3,r3,k,e,q3⟩=>?_)) hm
 subst e
 cases r3
 refine wpAny_truthy_bool ?_
 cases k with
 | false =>
  obtain ⟨k',e',q'⟩:=q3
  cases e'
  exact ite_ff ⟨H3,I3,q'⟩
 | true =>
  refine ite_tt (test_last (thn (hc pins s3 σ H3 _ I3 q3) fun w' s4 ⟨z',H4,I4,r4,q4⟩=>thn (ho' pins s4 σ H4 y z' u w' _ I4 r2 r4 q4) fun d' s5 ⟨z2,H5,I5,r5,k2,e2,q5⟩=>?_))
  subst e2
  cases r5
  exact wpAny_truthy_bool ⟨H5,I5,q5⟩
theorem zj5:(sizeLine:Nat)<2 ^ 63:=by rw[sizeLine_eq];decide
theorem vals1 {x:V} {us:List Value} (r:Vals [x] us):∃ u,us=[u]/\RelV x u:=by
 cases r with
 | cons r1 r2=>cases r2;exact ⟨_,rfl,r1⟩
theorem vals2 {x y:V} {us:List Value} (r:Vals [x,y] us):∃ u w',us=[u,w']/\RelV x u/\RelV y w':=by
 cases r with
 | cons r1 r2 =>
  cases r2 with
  | cons r3 r4=>cases r4;exact ⟨_,_,rfl,r1,r3⟩
theorem zc9 (hc:X.calm=true):zbo X (.builtin "max") (fun xs H Q=>∃ i j,xs=[.int i,.int j]/\Q (.int (if j > i then j else i)) H):=by
 intro pins s σ H xs us Q I r h
 obtain ⟨i,j,rfl,q⟩:=h
 obtain ⟨u,w',rfl,⟨t,rfl⟩,⟨t',rfl⟩⟩:=vals2 r
 refine max_two_ints (I.ok.hd hc) fun h' tk k=>⟨_,H,I.kept k,?_,q⟩
 by_cases hj:j > i
 ·rw[if_pos hj,if_pos hj];exact ⟨_,rfl⟩
 ·rw[if_neg hj,if_neg hj];exact ⟨_,rfl⟩
theorem zf8 (hc:X.calm=true):zbo X (.builtin "min") (fun xs H Q=>∃ i j,xs=[.int i,.int j]/\Q (.int (if j<i then j else i)) H):=by
 intro pins s σ H xs us Q I r h
 obtain ⟨i,j,rfl,q⟩:=h
 obtain ⟨u,w',rfl,⟨t,rfl⟩,⟨t',rfl⟩⟩:=vals2 r
 refine min_two_ints (I.ok.hd hc) fun h' tk k=>⟨_,H,I.kept k,?_,q⟩
 by_cases hj:j<i
 ·rw[if_pos hj,if_pos hj];exact ⟨_,rfl⟩
 ·rw[if_neg hj,if_neg hj];exact ⟨_,rfl⟩
end
structure zjG (h:Heap) (x dx C:Addr) (mA:Str->Option Value):Prop where
 obj:h.get? x=some (PySem.W.instObj C dx)
 ns:h.Ns1 dx mA
 ne:dx≠x
theorem zqB {h:Heap} {dx:Addr} {mA:Str->Option Value} (n:h.Ns1 dx mA):∃ od,h.get? dx=some od/\∀ name,PySem.W.lookIn name od=some (mA name):=by
 obtain ⟨o,es,ep,ho,hd,hk,_,hm⟩:=n
 refine ⟨o,ho,fun name=>?_⟩
 have e:=hm name
 unfold nsFind findBy at e
 rw[<-Array.find?_toList] at e
 unfold PySem.W.lookIn
 rw[hd]
 dsimp only
 split
 ·rename_i y q
  rw[q] at e
  exact congrArg some e
 ·rename_i q
  rw[q] at e
  have a:es.toList.any (·.refKey)=false:=by
   rw[List.any_eq_false]
   intro y hy
   obtain ⟨z,t,hkey⟩:=hk y (Array.mem_toList_iff.mp hy)
   simp[DictEntry.refKey,hkey]
  have a':¬ es.toList.any (·.refKey)=true:=by rw[a];exact Bool.false_ne_true
  rw[if_neg a']
  exact congrArg some e
theorem zjG.look {h:Heap} {x dx C:Addr} {mA:Str->Option Value} (I:zjG h x dx C mA):∃ od,PySem.W.InstAt h x (PySem.W.instObj C dx) C (some od)/\∀ name,PySem.W.lookIn name od=some (mA name) :=
 let ⟨od,ho,hl⟩:=zqB I.ns
 ⟨od,⟨I.obj,rfl,rfl,ho⟩,hl⟩
section
variable {prog:Program} {w:World} {A:Around} {E:Value->Shared->Prop} {s:Shared} {K:W.Frag} {x dx C f:Addr} {mA:Str->Option Value} {name:Str} {v:Value}
theorem get_map {expr:Bool} {Q:Value->Shared->Prop} (X:K.In s.heap) (I:zjG s.heap x dx C mA) (hg:PySem.W.plainGet K C name=true) (hh:PySem.W.hasDictIn K C=true)
  (ha:PySem.W.findIn K (.ref C) name=some none) (hv:mA name=some v) (hv':PySem.W.handedIn v=true) (h:Q v { s with toks:=s.toks+1 }) :
  wpAny (model prog w) A (getAttr (.ref x) name expr) Q E s:=by
 obtain ⟨od,J,hl⟩:=I.look
 exact PySem.W.get_value X J (PySem.W.plainGet_of hg).1 (PySem.W.findObj_own hh ha rfl (by rw[hl,hv])) hv' h
theorem zrz {pl:Sem Bool} {Q:Value × List Value->Shared->Prop} (X:K.In s.heap) (I:zjG s.heap x dx C mA) (hg:PySem.W.plainGet K C name=true)
  (hf:PySem.W.findIn K (.ref C) name=some (some (.ref f))) (ht:PySem.W.isFn K (.ref f)=true) (hv:mA name=none) (h:Q (.ref f,[.ref x]) s) :
  wpAny (model prog w) A (getMethod (.ref x) name pl) Q E s:=by
 obtain ⟨od,J,hl⟩:=I.look
 exact PySem.W.method_fn X J (PySem.W.plainGet_of hg).1 (PySem.W.plainGet_of hg).2 hf (beq_iff_eq.mp ht) (by show (PySem.W.lookIn name od).map (·.isSome)=some false;rw[hl,hv];rfl) h
theorem zsr {ns:List Str} {Q:Unit->Shared->Prop} (X:K.In s.heap) (I:zjG s.heap x dx C mA)
  (hs:PySem.W.findIn K (.ref C) "__setattr__" = some (some (.builtin "object.__setattr__"))) (hp:PySem.W.plainOver K C=true) (ht:PySem.W.takerIn K C name=some none) (hh:PySem.W.hasDictIn K C=true)
  (hw:PySem.Within mA ns) (hsz:ns.length<=sizeLine)
  (h:∀ h',zjG h' x dx C (fun y=>if y=name then some v else mA y)->Heap.SameBut dx s.heap h'->Q () { s with heap:=h',toks:=s.toks+2 }) :
  wpAny (model prog w) A (setAttr (.ref x) name v) Q E s:=by
 obtain ⟨od,J,hl⟩:=I.look
 refine PySem.W.set_plain X J hs (PySem.W.osa_open (s:={ s with toks:=s.toks+1 }) (r:=none) X J hp ht fun b=>?_)
 obtain ⟨cd,hc,hd'⟩:=PySem.W.any_some hh
 have hx:s.heap.get? x=some ⟨.ref C,some dx,.plain,#[]⟩:=I.obj
 refine wpAny_bind (wpAny_pure (wpAny_bind (wpAny_bind (wpAny_loadPart hx (wpAny_bind (PySem.W.Looks.here (s:={ s with toks:=s.toks+1 }) (PySem.W.looks_clsIn X hc) ?_))))))
 rw[hd']
 refine wpAny_pure (a:=some dx) (wpAny_bind (wpAny_pure (wpAny_bind ?_)))
 refine wpAny_nsSet1 (s:={ s with toks:=s.toks+1 }) I.ns fun h' hn2 hs2=>?_
 obtain ⟨oD,esD,epD,hoD,hdD,hcD⟩:=hn2.count (PySem.Within.cons name v hw)
 refine wpAny_bind (wpAny_lookBehind hoD (by rw[hdD];exact pastItsLine_dict (ydb hcD (by rw[ybk];ac_rfl))) ?_)
 exact wpAny_pure (h _ ⟨(hs2.2 _ (Ne.symm I.ne)).trans I.obj,hn2,I.ne⟩ hs2)
theorem zrO {R:Result->Shared->Prop} {vs:List Value} {kw:List (Str × Value)} (X:K.In s.heap) (hm:PySem.W.makesIn K C=true)
  (hi:PySem.W.findIn K (.ref C) "__init__" = some (some (.ref f))) (hf:PySem.W.typeIn K (.ref f)=some (.type "function"))
  (h:codeAny (model prog w) (A.under (.builtin "type.__call__" ⟨.ref C::vs,kw⟩)) (.call (.ref f) ⟨.ref (s.heap.objs.size+1)::vs,kw⟩) (PySem.W.InitBack (s.heap.objs.size+1) R)
   { s with heap:=(s.heap.push PySem.W.emptyDict).push (PySem.W.instObj C s.heap.objs.size) }) :
  codeAny (model prog w) A (.call (.ref C) ⟨vs,kw⟩) R s:=by
 obtain ⟨hh,g,d,t,os⟩:=s
 exact PySem.W.make_core (PySem.W.makes_of X hm) (PySem.W.looks_findIn X hi) (fun self=>PySem.W.bind_fn X self hf) (.inl rfl) h
theorem zpL {R:Result->Shared->Prop} (X:K.In s.heap) (hm:PySem.W.makesIn K C=true)
  (hi:PySem.W.findIn K (.ref C) "__init__" = some (some (.builtin "object.__init__")))
  (hb:∀ self,PySem.W.Looks (model prog w) s.heap (bindSpecial (.builtin "object.__init__") self) (.builtin "object.__init__", [self]))
  (h:codeAny (model prog w) (A.under (.builtin "type.__call__" ⟨[.ref C],[]⟩)) (.call (.builtin "object.__init__") ⟨[.ref (s.heap.objs.size+1)],[]⟩) (PySem.W.InitBack (s.heap.objs.size+1) R)
   { s with heap:=(s.heap.push PySem.W.emptyDict).push (PySem.W.instObj C s.heap.objs.size) }) :
  codeAny (model prog w) A (.call (.ref C) ⟨[],[]⟩) R s:=by
 obtain ⟨hh,g,d,t,os⟩:=s
 exact PySem.W.make_core (PySem.W.makes_of X hm) (PySem.W.looks_findIn X hi) hb (.inr ⟨rfl,rfl⟩) h
end
noncomputable def zaq (f:Str) (v:V):List (Str × V)->List (Str × V)
 | []=>[(f,v)]
 | (g,x)::r=>if g=f then (g,v)::r else (g,x)::zaq f v r
theorem zjw (f g:Str) (v:V):∀ fs:List (Str × V),(zaq f v fs).lookup g=if g=f then some v else fs.lookup g
 | []=>by
  show ybx g [(f,v)]=_
  by_cases h:g=f
  ·have hb:(g == f)=true:=beq_iff_eq.mpr h
   simp only[ybx,hb,if_pos h]
  ·have hb:(g == f)=false:=beq_eq_false_iff_ne.mpr h
   simp only[ybx,hb,if_neg h]
 | (k,x)::r=>by
  have ih:=zjw f g v r
  rw[show zaq f v ((k,x)::r)=(if k=f then (k,v)::r else (k,x)::zaq f v r) from rfl]
  by_cases hk:k=f
  ·rw[if_pos hk]
   by_cases h:g=k
   ·have hb:(g == k)=true:=beq_iff_eq.mpr h
    simp only[ybx,hb,if_pos (h.trans hk)]
   ·have hb:(g == k)=false:=beq_eq_false_iff_ne.mpr h
    simp only[ybx,hb,if_neg (fun e:g=f=>h (e.trans hk.symm))]
  ·rw[if_neg hk]
   by_cases h:g=k
   ·have hb:(g == k)=true:=beq_iff_eq.mpr h
    simp only[ybx,hb,if_neg (fun e:g=f=>hk (h.symm.trans e))]
   ·have hb:(g == k)=false:=beq_eq_false_iff_ne.mpr h
    simp only[ybx,hb]
    exact ih
theorem zix (f:Str) (v:V):∀ fs:List (Str × V),f∈(zaq f v fs).map (·.1)/\∀ g,g∈fs.map (·.1)->g∈(zaq f v fs).map (·.1)
 | []=>⟨by simp[zaq],fun g h=>by simp at h⟩
 | (k,x)::r=>by
  obtain ⟨i1,i2⟩:=zix f v r
  rw[show zaq f v ((k,x)::r)=(if k=f then (k,v)::r else (k,x)::zaq f v r) from rfl]
  by_cases hk:k=f
  ·rw[if_pos hk]
   subst hk
   exact ⟨by simp,fun g h=>by simpa using h⟩
  ·rw[if_neg hk]
   refine ⟨?_,fun g h=>?_⟩
   ·rw[ybs]
    exact yan _ i1
   ·rw[ybs] at h ⊢
    rcases yak.mp h with e | e
    ·exact yak.mpr (.inl e)
    ·exact yan _ (i2 g e)
theorem zjD (f:Str) (v:V):∀ fs:List (Str × V),(zaq f v fs).length<=fs.length+1
 | []=>by simp[zaq]
 | (k,x)::r=>by
  have ih:=zjD f v r
  rw[show zaq f v ((k,x)::r)=(if k=f then (k,v)::r else (k,x)::zaq f v r) from rfl]
  by_cases hk:k=f
  ·rw[if_pos hk,ybk,ybk];ac_rfl
  ·rw[if_neg hk,ybk,ybk];ac_rfl
theorem zgC.some_of {v:V} {o:Option Value} (r:zgC (some v) o):∃ u,o=some u/\RelV v u:=by
 cases o with
 | none=>exact (show False from r).elim
 | some u=>exact ⟨u,rfl,r⟩
theorem zgC.none_of {o:Option Value} (r:zgC none o):o=none:=by
 cases o with
 | none=>rfl
 | some u=>exact (show False from r).elim
theorem zp2 {v:V} {u:Value} (r:RelV v u):PySem.W.handedIn u=true:=by
 cases v with
 | non=>cases (show u=Value.none from r);rfl
 | bl b=>cases (show u=Value.bool b from r);rfl
 | int i=>obtain ⟨t,e⟩:=(show ∃ t,u=Value.int i t from r);cases e;rfl
 | str x=>obtain ⟨t,e⟩:=(show ∃ t,u=Value.str x t from r);cases e;rfl
 | byt b=>obtain ⟨t,e⟩:=(show ∃ t,u=Value.bytes b t from r);cases e;rfl
 | flt b=>obtain ⟨t,e⟩:=(show ∃ t,u=Value.float b t from r);cases e;rfl
 | ref a=>cases (show u=Value.ref a from r);rfl
 | ty n=>cases (show u=Value.type n from r);rfl
section
variable {P:Program} {w:World} {H H':Hp} {h h':Heap} {a C dx:Addr} {fs fs':List (Str × V)}
theorem zi3 (hok:HOk P w H h) (e:H a=some (.ins C dx fs)):∃ mA,zjG h a dx C mA/\(∀ f,zgC (fs.lookup f) (mA f))/\PySem.Within mA (fs.map (·.1))/\fs.length<=1000/\H dx=some (.own a):=by
 obtain ⟨d,z,ne,ob,mA,n,r,q⟩:=(show zX P w H h a (.ins C dx fs) from hok a _ e)
 exact ⟨mA,⟨ob,n,ne⟩,r,q,z,d⟩
end
structure Cls (K:W.Frag) (C:Addr):Prop where
 pg:PySem.W.plainGet K C Str.empty=true
 hd:PySem.W.hasDictIn K C=true
 po:PySem.W.plainOver K C=true
 sa:PySem.W.findIn K (.ref C) "__setattr__" = some (some (.builtin "object.__setattr__"))
theorem Cls.get {K:W.Frag} {C:Addr} (c:Cls K C) (f:Str):PySem.W.plainGet K C f=true:=c.pg
def zU (K:W.Frag) (C:Addr) (f:Str):Prop:=PySem.W.findIn K (.ref C) f=some none
theorem zU.taker {K:W.Frag} {C:Addr} {f:Str} (n:zU K C f):PySem.W.takerIn K C f=some none:=by
 unfold PySem.W.takerIn
 rw[show PySem.W.findIn K (.ref C) f=some none from n]
 rfl
structure Meth (K:W.Frag) (C:Addr) (m:Str) (f:Addr):Prop where
 at_:PySem.W.findIn K (.ref C) m=some (some (.ref f))
 fn:PySem.W.isFn K (.ref f)=true
 kp:PySem.W.keepIn K (.ref f)=true
section
variable {X:Cx} {pins:List (Addr × Obj)} {σ:St} {H:Hp} {s:Shared} {a C dx:Addr} {fs:List (Str × V)} {f:Str} {v:V} {A:Around} {E:Value->Shared->Prop}
theorem zj6 {b:Bool} {Q:Value->Shared->Prop} (I:Inv X pins σ H s) (e:H a=some (.ins C dx fs)) (c:Cls X.K C) (n:zU X.K C f) (l:fs.lookup f=some v)
  (h:∀ u s',Inv X pins σ H s'->RelV v u->Q u s'):wpAny (model X.prog X.w) A (getAttr (.ref a) f b) Q E s:=by
 obtain ⟨mA,O,r,_,_,_⟩:=zi3 I.hok e
 obtain ⟨u,hu,ru⟩:=zgC.some_of (v:=v) (o:=mA f) (by rw[<-l];exact r f)
 exact get_map I.kIn O (c.get f) c.hd n hu (zp2 ru) (h u _ (I.tok _) ru)
theorem zdg {m:Str} {g:Addr} {pl:Sem Bool} {Q:Value × List Value->Shared->Prop} (I:Inv X pins σ H s) (e:H a=some (.ins C dx fs)) (c:Cls X.K C) (k:Meth X.K C m g) (l:fs.lookup m=none)
  (h:Q (.ref g,[.ref a]) s):wpAny (model X.prog X.w) A (getMethod (.ref a) m pl) Q E s:=by
 obtain ⟨mA,O,r,_,_,_⟩:=zi3 I.hok e
 have hn:mA m=none:=zgC.none_of (by rw[<-l];exact r m)
 exact zrz I.kIn O (c.get m) k.at_ k.fn hn h
theorem zke {y:V} {u:Value} {Q:Unit->Shared->Prop} (I:Inv X pins σ H s) (e:H a=some (.ins C dx fs)) (c:Cls X.K C) (n:zU X.K C f) (hl:fs.length<1000) (ry:RelV y u)
  (h:∀ s',Inv X pins σ (upd H a (.ins C dx (zaq f y fs))) s'->Q () s'):wpAny (model X.prog X.w) A (setAttr (.ref a) f u) Q E s:=by
 obtain ⟨mA,O,r,wi,_,ho⟩:=zi3 I.hok e
 have hz:(fs.map (·.1)).length<=sizeLine:=by rw[yab,sizeLine_eq];ac_rfl
 refine zsr I.kIn O c.sa c.po n.taker c.hd wi hz fun h' O' sb=>h _ ?_
 have hd:∃ o,h'.get? dx=some o:=let ⟨o,_,_,e',_⟩:=O'.ns;⟨o,e'⟩
 refine I.write (x:=a) (e:=dx) (by rw[e];exact True.intro) (.inr ho) (fun b q hb z=>(sb.2 b hb).trans z) hd ?_
 refine ⟨by rw[zp O.ne];exact ho,?_,O.ne,O'.obj,_,O'.ns,fun g=>?_,fun g hg=>?_⟩
 ·have:=zjD f y fs;ac_rfl
 ·show zgC ((zaq f y fs).lookup g) (if g=f then some u else mA g)
  rw[zjw]
  by_cases q:g=f
  ·rw[if_pos q,if_pos q];exact ry
  ·rw[if_neg q,if_neg q];exact r g
 ·by_cases q:g=f
  ·rw[q];exact (zix f y fs).1
  ·refine (zix f y fs).2 g (wi g fun z=>hg ?_)
   show (if g=f then some u else mA g)=none
   rw[if_neg q];exact z
theorem Inv.made (I:Inv X pins σ H s):Inv X pins σ (upd (upd H s.heap.objs.size (.own (s.heap.objs.size+1))) (s.heap.objs.size+1) (.ins C s.heap.objs.size []))
  { s with heap:=(s.heap.push PySem.W.emptyDict).push (PySem.W.instObj C s.heap.objs.size) }:=by
 have e1:(s.heap.push PySem.W.emptyDict).get? s.heap.objs.size=some PySem.W.emptyDict:=ydm s.heap rfl
 have e2:((s.heap.push PySem.W.emptyDict).push (PySem.W.instObj C s.heap.objs.size)).get? (s.heap.objs.size+1)=some (PySem.W.instObj C s.heap.objs.size):=by
  have:=ydm (s.heap.push PySem.W.emptyDict) (o:=PySem.W.instObj C s.heap.objs.size) rfl
  rwa [ydq] at this
 have e3:(s.heap.push PySem.W.emptyDict).Ns s.heap.objs.size (fun _=>none):=⟨PySem.W.emptyDict,#[],_,e1,rfl,(fun e he=>absurd he (by simp)),fun _=>rfl⟩
 have I1:=I.laid (a:=s.heap.objs.size) (o:=.own (s.heap.objs.size+1)) (h':=s.heap.push PySem.W.emptyDict) (t':=s.toks) (fun b u q=>ydk _ q) (ycv _) ⟨_,e1⟩
 refine I1.laid (a:=s.heap.objs.size+1) (o:=.ins C s.heap.objs.size []) (t':=s.toks) (fun b u q=>ydk _ q) (Nat.le_of_eq (ydq _ _)) ?_
 have ne:s.heap.objs.size≠s.heap.objs.size+1:=ycw (ydc _)
 refine ⟨by rw[zp ne,zh],ycz _,ne,e2,fun _=>none,(Heap.Ns1.of_empty e3).at fun o q=>ydk _ q,fun _=>True.intro,fun y hy=>absurd rfl hy⟩
theorem zoR {prog:Program} {w:World} {env:Env} {e:Expr} {f:Str} {pos:Pos} {s:Shared} {Q:Value->Shared->Prop} (hb:attributeBase e f env (eval e env)=eval e env)
  (h:wpAny (model prog w) A (eval e env) (fun o s₁=>wpAny (model prog w) A (getAttr o f true) Q E s₁) E s):wpAny (model prog w) A (eval (.Attribute e f pos) env) Q E s :=
 Attribute_any_ h (by rw[arm_eval_Attribute,hb])
end
def ztb (K:W.Frag) (ta:TE) (f:Str):TE:=fun σ H Q=>ta σ H fun x H1=>∃ a C dx fs v,x=.ref a/\H1 a=some (.ins C dx fs)/\Cls K C/\zU K C f/\fs.lookup f=some v/\Q v H1
def zu0 (K:W.Frag) (ta tv:TE) (f:Str):TS:=fun D σ H=>tv σ H fun y H1=>ta σ H1 fun x H2=>∃ a C dx fs,x=.ref a/\H2 a=some (.ins C dx fs)/\Cls K C/\zU K C f/\fs.length<1000 /\
 D.nx σ (upd H2 a (.ins C dx (zaq f y fs)))
section
variable {X:Cx} {o e value:Expr} {f:Str} {pos pos' tpos:Pos} {ta tv:TE}
theorem zpW (he:PE X e ta) (hb:attributeBase e f X.env (eval e X.env)=eval e X.env):PE X (.Attribute e f pos) (ztb X.K ta f):=by
 intro pins s σ H Q I h
 refine zoR hb (thn (he pins s σ H _ I h) fun u s1 ⟨x,H1,I1,rx,a,C,dx,fs,v,ex,ea,c,n,l,q⟩=>?_)
 subst ex
 obtain rfl:u=Value.ref a:=rx
 exact zj6 I1 ea c n l fun u' s2 I2 ru=>⟨v,H1,I2,ru,q⟩
theorem zmQ (ha:PE X o ta) (hv:PE X value tv) (hs:swapsWith value (some (.Attribute o f pos')) pos.line X.env=pure false):PS X (.Assign [.Attribute o f pos'] value pos) (zu0 X.K ta tv f):=by
 intro pins s σ H D I h
 refine plainObj_wpAny_Assign_Attribute (thn (hv pins s σ H _ I h) fun u s1 ⟨y,H1,I1,ry,q⟩=>thn (ha pins s1 σ H1 _ I1 q) fun ov s2 ⟨x,H2,I2,rx,a,C,dx,fs,ex,ea,c,n,l,q2⟩=>?_) hs
 subst ex
 obtain rfl:ov=Value.ref a:=rx
 exact zke I2 ea c n l ry fun s3 I3=>⟨σ,_,I3,q2⟩
end
section
variable {X:Cx} {pins:List (Addr × Obj)} {σ:St} {H:Hp} {s:Shared} {A:Around} {E:Value->Shared->Prop} {Q:Value->Shared->Prop} {c:Value} {b:Bool}
inductive zcd (K:W.Frag) (H:Hp):V->Value->Prop where
 | non:zcd K H .non (.type "NoneType")
 | bl (x:Bool):zcd K H (.bl x) (.type "bool")
 | int (i:Int):zcd K H (.int i) (.type "int")
 | str (x:Str):zcd K H (.str x) (.type "str")
 | flt (x:UInt64):zcd K H (.flt x) (.type "float")
 | lst {a:Addr} {xs:List V} (e:H a=some (.lst xs)):zcd K H (.ref a) (.type "list")
 | frz {a:Addr} {o:Obj} {xs:List V} (e:H a=some (.frz o (.lst xs))):zcd K H (.ref a) (.type "list")
 | tup {a:Addr} {xs:List V} (e:H a=some (.tup xs)):zcd K H (.ref a) (.type "tuple")
 | dK {a:Addr} {kvs:List (Key × V)} (e:H a=some (.dK kvs)):zcd K H (.ref a) (.type "dict")
 | ins {a C dx:Addr} {fs:List (Str × V)} (e:H a=some (.ins C dx fs)) (cl:Cls K C) (ha:PySem.W.findIn K (.ref C) "__class__" = some (some (.builtin "object.__class__")))
   (hn:PySem.W.specialIn K (.builtin "object.__class__") "__get__" = some (some (.builtin "getset_descriptor.__get__"))) (htk:PySem.W.takesIn K (.builtin "object.__class__")=some true)
   (hm:PySem.W.mroIn K C (.type "object")=some true):zcd K H (.ref a) (.ref C)
theorem zlr {x:V} {u t:Value} (I:Inv X pins σ H s) (rx:RelV x u) (ty:zcd X.K H x t) (e:PySem.W.kitOne X.K t c=some b) (h:∀ tk,Q (.bool b) { s with toks:=tk }) :
  wpAny (model X.prog X.w) A (call (.builtin "isinstance") [u,c]) Q E s:=by
 cases ty with
 | non=>cases (show u=Value.none from rx);exact PySem.W.kia_one PySem.W.kitx_none I.kIn True.intro e (fun z=>nomatch z) h
 | bl y=>cases (show u=Value.bool y from rx);exact PySem.W.kia_one PySem.W.kitx_bool I.kIn True.intro e (fun z=>nomatch z) h
 | int i=>obtain ⟨t,q⟩:=(show ∃ t,u=Value.int i t from rx);cases q;exact PySem.W.kia_one PySem.W.kitx_int I.kIn True.intro e (fun z=>nomatch z) h
 | str y=>obtain ⟨t,q⟩:=(show ∃ t,u=Value.str y t from rx);cases q;exact PySem.W.kia_one PySem.W.kitx_str I.kIn True.intro e (fun z=>nomatch z) h
 | flt y=>obtain ⟨t,q⟩:=(show ∃ t,u=Value.float y t from rx);cases q;exact PySem.W.kia_one PySem.W.kitx_float I.kIn True.intro e (fun z=>nomatch z) h
 | @lst a xs ea =>
  cases (show u=Value.ref a from rx)
  obtain ⟨_,_,n,_,h1⟩:=(show zX X.prog X.w H s.heap a (.lst xs) from I.hok a _ ea)
  exact PySem.W.kia_one PySem.W.kitx_list I.kIn ⟨_,h1,rfl⟩ e (fun z=>nomatch z) h
 | @frz a ob xs ea =>
  cases (show u=Value.ref a from rx)
  obtain ⟨_,_,_,n,_,h1⟩:=(show zX X.prog X.w H s.heap a (.frz ob (.lst xs)) from I.hok a _ ea)
  exact PySem.W.kia_one PySem.W.kitx_list I.kIn ⟨_,h1,rfl⟩ e (fun z=>nomatch z) h
 | @tup a xs ea =>
  cases (show u=Value.ref a from rx)
  obtain ⟨_,_,_,p⟩:=(show zX X.prog X.w H s.heap a (.tup xs) from I.hok a _ ea)
  obtain ⟨o,h1,h2,_⟩:=p
  exact PySem.W.kia_one PySem.W.kitx_tuple I.kIn ⟨o,h1,h2⟩ e (fun z=>nomatch z) h
 | @dK a kvs ea =>
  cases (show u=Value.ref a from rx)
  obtain ⟨_,_,vs,_,p⟩:=(show zX X.prog X.w H s.heap a (.dK kvs) from I.hok a _ ea)
  obtain ⟨o,es,ep,h1,h2,_⟩:=p
  exact PySem.W.kia_one PySem.W.kitx_dict I.kIn ⟨o,h1,h2.1⟩ e (fun z=>nomatch z) h
 | @ins a C dx fs ea cl ha hn htk hm =>
  cases (show u=Value.ref a from rx)
  obtain ⟨mA,O,_⟩:=zi3 I.hok ea
  obtain ⟨od,J,_⟩:=O.look
  exact PySem.W.kia_one (PySem.W.kitx_own (cl.get _) cl.hd ha hn htk hm) I.kIn J e (fun z=>nomatch z) h
end
structure Room (k:Nat) (A:Around):Prop where
 hd:A.handled=none
 dp:A.depth+3*k+5<recursionLimit
 un:A.units+16*k+200<cLine
theorem Room.mono {j k:Nat} {A:Around} (r:Room k A) (h:j<=k):Room j A:=⟨r.hd,by have:=r.dp;ac_rfl,by have:=r.un;ac_rfl⟩
theorem Room.deeper {k:Nat} {A:Around} (r:Room (k+1) A) (env:Env):Room k (A.deeper env) :=
 ⟨r.hd,by have:=r.dp;show A.depth+1+3*k+5<_;ac_rfl,by have:=r.un;show A.units+3+16*k+200<_;ac_rfl⟩
theorem zpC {A:Around} {C:Addr} {us:List Value} {kw:List (Str × Value)}:(A.under (.builtin "type.__call__" ⟨.ref C::us,kw⟩)).depth=A.depth+1:=by
 first | rfl | simp[Around.under,Code.weight,Code.isCreation,Code.isGuard,Code.isCaller,Code.frames,Code.isFrame,guardIds]
theorem zpb {A:Around} {C:Addr} {us:List Value} {kw:List (Str × Value)}:(A.under (.builtin "type.__call__" ⟨.ref C::us,kw⟩)).units=A.units+1:=by
 first | rfl | simp[Around.under,Code.cUnits,Code.frames,Code.isFrame]
theorem Room.make {k:Nat} {A:Around} (r:Room (k+1) A) (C:Addr) (us:List Value) (kw:List (Str × Value)):Room k (A.under (.builtin "type.__call__" ⟨.ref C::us,kw⟩)) :=
 ⟨r.hd,by have:=r.dp;rw[zpC];ac_rfl,by have:=r.un;rw[zpb];ac_rfl⟩
theorem Room.depth {k:Nat} {A:Around} (r:Room k A):A.depth<recursionLimit:=by have:=r.dp;ac_rfl
theorem Room.units {k:Nat} {A:Around} (r:Room k A):A.units+64<cLine:=by have:=r.un;ac_rfl
def zld:TA:=fun _ H Q=>Q [] H
def zuk (ta:TE) (tr:TA):TA:=fun σ H Q=>ta σ H fun x H1=>tr σ H1 fun xs H2=>Q (x::xs) H2
section
variable {X:Cx} {e:Expr} {es:List Expr} {te:TE} {t:TA} {pos:Pos}
theorem zb:PA X [] zld:=fun _ _ _ _ H Q I h=>Calls.spliced_nil ⟨[],H,I,.nil,h⟩
theorem za (ha:PE X e te) (hr:PA X es t) (hs:starEach (e::es) X.env=(false,eval e X.env)::starEach es X.env:=by rfl):PA X (e::es) (zuk te t):=by
 intro pos pins s σ H Q I h
 rw[hs]
 show wpAny _ _ (spliced ((false,eval e X.env)::backTo pos (starEach es X.env))) _ _ s
 refine Calls.spliced_cons (thn (ha pins s σ H _ I h) fun u s1 ⟨x,H1,I1,r1,q1⟩=>?_)
 exact thn (hr pos pins s1 σ H1 _ I1 q1) fun us s2 ⟨xs,H2,I2,r2,q2⟩=>⟨x::xs,H2,I2,.cons r1 r2,q2⟩
def zuU (t:TA):TE:=fun σ H Q=>t σ H fun xs H1=>xs.length<=sizeLine/\∀ p,H1 p=none->Q (.ref p) (upd H1 p (.tup xs))
def zuK (t:TA):TE:=fun σ H Q=>t σ H fun xs H1=>xs.length<=sizeLine/\∀ p,H1 p=none->Q (.ref p) (upd H1 p (.lst xs))
theorem zO {x1} (h:PA X es t):PE X (.Tuple es x1 pos) (zuU t):=by
 intro pins s σ H Q I hq
 refine wpAny_Tuple_spliced (thn (h pos pins s σ H _ I hq) fun us s1 ⟨xs,H1,I1,r,z,q⟩=>⟨by rw[<-r.length];exact z,?_⟩)
 have hf:H1 s1.heap.objs.size=none:=I1.hok.fresh (ycv _)
 refine ⟨.ref s1.heap.objs.size,upd H1 s1.heap.objs.size (.tup xs),I1.laid (t':=s1.toks) (fun b u e=>ydk _ e) (ycv _) ?_,rfl,q _ hf⟩
 exact ⟨z,us,r,⟨_,ydm _ rfl,rfl,_,rfl⟩⟩
theorem zai (h:PA X es t):PE X (.List es pos) (zuK t):=by
 intro pins s σ H Q I hq
 refine wpAny_List_spliced (thn (h pos pins s σ H _ I hq) fun us s1 ⟨xs,H1,I1,r,z,q⟩=>⟨by rw[<-r.length];exact z,?_⟩)
 have hf:H1 s1.heap.objs.size=none:=I1.hok.fresh (ycv _)
 refine ⟨.ref s1.heap.objs.size,upd H1 s1.heap.objs.size (.lst xs),I1.laid (t':=s1.toks) (fun b u e=>ydk _ e) (ycv _) ?_,rfl,q _ hf⟩
 exact ⟨z,us,0,r,ydm _ rfl⟩
end
noncomputable abbrev Sp:=List V->Hp->VK->XK->Prop
noncomputable abbrev CXT:=List Env->Hp->Shared->XK->Value->Shared->Prop
structure zj1 (P:Program) (w:World) (K:W.Frag) (mg:Str->Option Value) (base:Heap) (A:Around) (outer:List Env) (s:Shared) (H:Hp):Prop where
 frames:A.frames=some outer
 mod:Mod K mg base
 bs:∀ b o,base.get? b=some o->s.heap.get? b=some o/\H b=none
 bsz:base.objs.size<=s.heap.objs.size
 funs:s.heap.FunFrames base outer
 frf:∀ b∈frs outer,H b=none
 hok:HOk P w H s.heap
 bare:AllBare s.gens
def CE (outer:List Env) (P:Program) (w:World) (H:Hp) (s:Shared) (Q:VK) (u:Value) (s':Shared):Prop :=
 ∃ v H',s'.os=s.os/\AllBare s'.gens/\Un (frs outer) [] H H' s.heap s'.heap/\HOk P w H' s'.heap/\RelV v u/\Q v H'
def CR (CX:CXT) (outer:List Env) (P:Program) (w:World) (H:Hp) (s:Shared) (Q:VK) (E:XK) (r:Result) (s':Shared):Prop :=
 match r with
 | .ok (.ret u)=>CE outer P w H s Q u s'
 | .ok _=>False
 | .error e=>CX outer H s E e s'
structure zba (P:Program) (w:World) (K:W.Frag) (mg:Str->Option Value) (base:Heap) (CX:CXT) (k:Nat) (f:Addr) (fd:FuncData) (ps:List Str) (sp:Sp):Prop where
 len:∀ vs H Q E,sp vs H Q E->vs.length=ps.length
 run:∀ (A:Around) (outer:List Env) (s:Shared) (H:Hp) (args:Args) (us:List Value) (vs:List V) (Q:VK) (E:XK),Room k A->zj1 P w K mg base A outer s H->BindsTo s fd args (ps.zip us)->Vals vs us->sp vs H Q E ->
  codeAny (model P w) A (.call (.ref f) args) (CR CX outer P w H s Q E) s
theorem zj1.make {P:Program} {w:World} {K:W.Frag} {mg:Str->Option Value} {base:Heap} {A:Around} {outer:List Env} {s:Shared} {H:Hp} (e:zj1 P w K mg base A outer s H) (C:Addr) (us:List Value) (kw:List (Str × Value)) :
  zj1 P w K mg base (A.under (.builtin "type.__call__" ⟨.ref C::us,kw⟩)) outer s H:=⟨by first | exact e.frames | (simpa [Around.under,Code.envs,Code.isFrame,pushEnvs] using e.frames),e.mod,e.bs,e.bsz,e.funs,e.frf,e.hok,e.bare⟩
section
variable {X:Cx} {pins:List (Addr × Obj)} {σ:St} {H:Hp} {s s':Shared}
theorem Inv.zth (I:Inv X pins σ H s):zj1 X.prog X.w X.K X.mg X.base X.A X.stack s H :=
 ⟨I.ok.frames,I.ok.mod,I.bs,ydb I.ok.bsz I.sz,I.stack,I.zkN,I.hok,I.bare⟩
theorem Inv.after {Q:VK} {u:Value} (I:Inv X pins σ H s) (h:CE X.stack X.prog X.w H s Q u s'):EP X pins σ Q u s':=by
 obtain ⟨v,H',os,bare,un,hok,r,q⟩:=h
 obtain ⟨hh,g,d,t,os'⟩:=s'
 obtain rfl:os'=s.os:=os
 exact ⟨v,H',I.call (h':=hh) (g':=g) (d':=d) (t':=t) (ch:=[]) un hok bare (fun b z=>absurd z (by simp)),r,q⟩
end
def zma (sp:Sp) (dvs:List V) (E:XK) (t:TA):TE:=fun σ H Q=>t σ H fun vs H1=>sp (vs++dvs) H1 Q E
def zmg (C:Addr) (m:Str) (sp:Sp) (dvs:List V) (E:XK) (ta:TE) (t:TA):TE:=fun σ H Q=>ta σ H fun x H1=>∃ a dx fs,x=.ref a/\H1 a=some (.ins C dx fs)/\fs.lookup m=none /\
 t σ H1 fun vs H2=>sp (x::(vs++dvs)) H2 Q E
def zr3 (C:Addr) (sp:Sp) (dvs:List V) (E:XK) (t:TA):TE:=fun σ H Q=>t σ H fun vs H1=>∀ x dx,H1 x=none->H1 dx=none->dx≠x ->
 sp (.ref x::(vs++dvs)) (upd (upd H1 dx (.own x)) x (.ins C dx [])) (fun v H2=>v=.non/\Q (.ref x) H2) E
def Binds (K:W.Frag) (fd:FuncData) (ps:List Str) (ds:List Value):Prop :=
 ∀ (s:Shared) (us:List Value),K.In s.heap->(us++ds).length=ps.length->BindsTo s fd ⟨us,[]⟩ (ps.zip (us++ds))
theorem Binds.all {K:W.Frag} {fd:FuncData} {ps:List Str} (h:∀ us:List Value,us.length=ps.length->bindArgs fd ⟨us,[]⟩=pure (ps.zip us)):Binds K fd ps []:=fun s us _ hl=>by
 rw[ybi] at hl ⊢
 exact .of_eq (h us hl)
def Passes (CX:CXT) (X:Cx) (E:XK):Prop:=∀ (pins:List (Addr × Obj)) (σ:St) (H:Hp) (s:Shared) (e:Value) (s':Shared),Inv X pins σ H s->CX X.stack H s E e s'->X.xe e s'
section
variable {X:Cx} {CX:CXT} {k:Nat} {f C:Addr} {fd:FuncData} {ps:List Str} {sp:Sp} {dvs:List V} {ds:List Value} {E:XK} {x m:Str} {p pos apos:Pos} {e o:Expr} {es:List Expr} {ta:TE} {t:TA}
theorem zf3 {pins:List (Addr × Obj)} {σ:St} {H:Hp} {s:Shared} {Q:VK} {us:List Value} {vs:List V} (F:zba X.prog X.w X.K X.mg X.base CX k f fd ps sp) (hr:Room k X.A) (hb:Binds X.K fd ps ds) (hd:Vals dvs ds) (hx:Passes CX X E)
  (I:Inv X pins σ H s) (r:Vals vs us) (h:sp (vs++dvs) H Q E):wpAny (model X.prog X.w) X.A (call (.ref f) us) (EP X pins σ Q) X.xe s:=by
 have r2:Vals (vs++dvs) (us++ds):=r.append hd
 have hl:(us++ds).length=ps.length:=by rw[<-r2.length];exact F.len _ _ _ _ h
 refine wpAny_call (codeAny_mono (F.run X.A X.stack s H ⟨us,[]⟩ (us++ds) (vs++dvs) Q E hr I.zth (hb s us I.kIn hl) r2 h) fun r s' hq=>?_)
 cases r with
 | error e=>exact hx pins σ H s e s' I hq
 | ok fl =>
  cases fl with
  | ret u=>exact I.after hq
  | next=>exact False.elim hq
  | brk=>exact False.elim hq
  | cont=>exact False.elim hq
theorem zoT (F:zba X.prog X.w X.K X.mg X.base CX k f fd ps sp) (hr:Room k X.A) (hg:Gl X x) (hm:X.mg x=some (.ref f)) (hk:PySem.W.keepIn X.K (.ref f)=true) (hb:Binds X.K fd ps ds) (hd:Vals dvs ds) (hx:Passes CX X E)
  (ha:PA X (e::es) t) (hdb:(x == ("__debug__" : Str))=false:=by decide) (he:starEach (e::es) X.env=(false,eval e X.env)::starEach es X.env:=by rfl) (hpl:(backTo pos (starEach es X.env)).any (·.1)=false:=by rfl) :
  PE X (.Call (.Name x p) (e::es) [] pos) (zma sp dvs E t):=by
 intro pins s σ H Q I h
 refine wpAny_Call_Name_kw (zde I hg hm ?_ hdb)
 refine PySem.W.callWith_K (h₀:=X.base) I.ok.mod.kin hk (thn (ha pos pins s σ H _ I h) fun us s1 ⟨vs,H1,I1,r,q⟩=>⟨I1.kIn,?_⟩) he hpl
 exact zf3 F hr hb hd hx I1 r q
theorem zsL {pl:Sem Bool} (he:PE X o ta) (c:Cls X.K C) (hm:Meth X.K C m f) (F:zba X.prog X.w X.K X.mg X.base CX k f fd ps sp) (hr:Room k X.A) (hb:Binds X.K fd ps ds) (hd:Vals dvs ds) (hx:Passes CX X E) (ha:PA X (e::es) t)
  (hst:starEach (e::es) X.env=(false,eval e X.env)::starEach es X.env:=by rfl) (hpl:(backTo pos (starEach es X.env)).any (·.1)=false:=by rfl)
  (ht:eval (.Call (.Attribute o m apos) (e::es) [] pos) X.env=(do
   let ov <-eval o X.env
   standAt apos.atName
   let (f,first) <-holding [ov] (getMethod ov m pl)
   callWith pos f first (backTo pos (starEach (e::es) X.env)) (backToKw pos (keywordEach [] X.env))):=by rfl) :
  PE X (.Call (.Attribute o m apos) (e::es) [] pos) (zmg C m sp dvs E ta t):=by
 intro pins s σ H Q I h
 refine PySem.W.methodCall_KW (pl:=pl) (thn (he pins s σ H _ I h) fun u s1 ⟨x,H1,I1,rx,a,dx,fs,ex,ea,l,q⟩=>?_) ht
 subst ex
 obtain rfl:u=Value.ref a:=rx
 refine zdg I1 ea c hm l ?_
 refine PySem.W.callWith_K (first:=[.ref a]) (h₀:=X.base) I.ok.mod.kin hm.kp (thn (ha pos pins s1 σ H1 _ I1 q) fun us s2 ⟨vs,H2,I2,r,q2⟩=>⟨I2.kIn,?_⟩) hst hpl
 exact zf3 (us:=.ref a::us) (vs:=.ref a::vs) F hr hb hd hx I2 (.cons rfl r) q2
theorem zrb {pl:Sem Bool} (he:PE X o ta) (c:Cls X.K C) (hm:Meth X.K C m f) (F:zba X.prog X.w X.K X.mg X.base CX k f fd ps sp) (hr:Room k X.A) (hb:Binds X.K fd ps ds) (hd:Vals dvs ds) (hx:Passes CX X E)
  (ht:eval (.Call (.Attribute o m apos) [] [] pos) X.env=(do
   let ov <-eval o X.env
   standAt apos.atName
   let (f,first) <-holding [ov] (getMethod ov m pl)
   callWith pos f first (backTo pos (starEach [] X.env)) (backToKw pos (keywordEach [] X.env))):=by rfl) :
  PE X (.Call (.Attribute o m apos) [] [] pos) (zmg C m sp dvs E ta zld):=by
 intro pins s σ H Q I h
 refine PySem.W.methodCall_KW (pl:=pl) (thn (he pins s σ H _ I h) fun u s1 ⟨x,H1,I1,rx,a,dx,fs,ex,ea,l,q⟩=>?_) ht
 subst ex
 obtain rfl:u=Value.ref a:=rx
 refine zdg I1 ea c hm l ?_
 exact PySem.W.callWith_K0 (first:=[.ref a]) I1.kIn hm.kp (zf3 (us:=[.ref a]) (vs:=[.ref a]) F hr hb hd hx I1 (.cons rfl .nil) q)
structure Mk (K:W.Frag) (C f:Addr):Prop where
 makes:PySem.W.makesIn K C=true
 init:PySem.W.findIn K (.ref C) "__init__" = some (some (.ref f))
 fn:PySem.W.isFn K (.ref f)=true
 kp:PySem.W.keepIn K (.ref C)=true
theorem zrs {pins:List (Addr × Obj)} {σ:St} {H:Hp} {s:Shared} {Q:VK} {us:List Value} {vs:List V} (M:Mk X.K C f) (F:zba X.prog X.w X.K X.mg X.base CX k f fd ps sp) (hr:Room (k+1) X.A) (hb:Binds X.K fd ps ds) (hd:Vals dvs ds)
  (hx:Passes CX X E) (I:Inv X pins σ H s) (r:Vals vs us)
  (h:∀ x dx,H x=none->H dx=none->dx≠x->sp (.ref x::(vs++dvs)) (upd (upd H dx (.own x)) x (.ins C dx [])) (fun v H2=>v=.non/\Q (.ref x) H2) E) :
  wpAny (model X.prog X.w) X.A (call (.ref C) us) (EP X pins σ Q) X.xe s:=by
 have hq:=h (s.heap.objs.size+1) s.heap.objs.size (I.hok.fresh (ydh _)) (I.hok.fresh (ycv _)) (ycw (ydc _))
 have I2:=Inv.made (C:=C) I
 have r2:Vals (V.ref (s.heap.objs.size+1)::(vs++dvs)) (Value.ref (s.heap.objs.size+1)::(us++ds)):=.cons rfl (r.append hd)
 have hl:(Value.ref (s.heap.objs.size+1)::us++ds).length=ps.length:=by
  have e:=r2.length
  rw[F.len _ _ _ _ hq] at e
  exact e.symm
 refine wpAny_call (zrO (f:=f) I.kIn M.makes M.init (beq_iff_eq.mp M.fn) (codeAny_mono (F.run _ X.stack _ _ ⟨Value.ref (s.heap.objs.size+1)::us,[]⟩ (Value.ref (s.heap.objs.size+1)::(us++ds)) _ _ E (hr.make C us [])
  (I2.zth.make C us []) (hb _ (Value.ref (s.heap.objs.size+1)::us) I2.kIn hl) r2 hq) fun r s' hq'=>?_))
 cases r with
 | error e=>exact hx pins σ _ _ e s' I2 hq'
 | ok fl =>
  cases fl with
  | ret u =>
   obtain ⟨v,H',I3,rv,ev,q3⟩:=I2.after hq'
   subst ev
   exact ⟨rv,⟨V.ref (s.heap.objs.size+1),H',I3,rfl,q3⟩⟩
  | next=>exact False.elim hq'
  | brk=>exact False.elim hq'
  | cont=>exact False.elim hq'
theorem zsl (M:Mk X.K C f) (F:zba X.prog X.w X.K X.mg X.base CX k f fd ps sp) (hr:Room (k+1) X.A) (hg:Gl X x) (hm:X.mg x=some (.ref C)) (hb:Binds X.K fd ps ds) (hd:Vals dvs ds) (hx:Passes CX X E)
  (ha:PA X (e::es) t) (hdb:(x == ("__debug__" : Str))=false:=by decide) (he:starEach (e::es) X.env=(false,eval e X.env)::starEach es X.env:=by rfl) (hpl:(backTo pos (starEach es X.env)).any (·.1)=false:=by rfl) :
  PE X (.Call (.Name x p) (e::es) [] pos) (zr3 C sp dvs E t):=by
 intro pins s σ H Q I h
 refine wpAny_Call_Name_kw (zde I hg hm ?_ hdb)
 refine PySem.W.callWith_K (h₀:=X.base) I.ok.mod.kin M.kp (thn (ha pos pins s σ H _ I h) fun us s1 ⟨vs,H1,I1,r,q⟩=>⟨I1.kIn,?_⟩) he hpl
 exact zrs M F hr hb hd hx I1 r q
end
section
variable {X:Cx} {CX:CXT} {k:Nat} {f C:Addr} {fd:FuncData} {ps ks:List Str} {sp:Sp} {E:XK} {x m:Str} {p pos apos kpos:Pos} {e o:Expr} {es:List Expr} {kws:List Keyword} {te ta:TE} {t tk:TA} {nm:Option Str}
variable {g:List Value->List Value->List Value} {gV:List V->List V->List V}
end
structure zi (N P:List Str) (sc:Scope):Prop where
 kind:sc.kind=.function
 co:sc.isCoroutine=false
 gen:sc.isGenerator=false
 nd:N.Nodup
 pre:N.take P.length=P
 par:∀ x∈P,sc.names.lookup x=some .local\/sc.names.lookup x=some .cell
 nofree:∀ y∈sc.names,y.2≠.free
theorem zlu {kindOf:Str->Option NameKind} {x:Str}:∀ {binds:List (Str × Value)} {m:Str->Option Value},(∀ v,(x,v) ∉ binds)->bindL kindOf binds m x=m x
 | [],_,_=>rfl
 | (n,v)::r,m,h=>by
  unfold bindL
  rw[zlu fun w hw=>h w (yan _ hw)]
  split
  ·have:x≠n:=by rintro rfl;exact h v yao
   simp[this]
  ·rfl
theorem zlD {kindOf:Str->Option NameKind} {x:Str}:∀ {binds:List (Str × Value)} {m:Str->Option Value},(∀ v,(x,v) ∉ binds)->bindC kindOf binds m x=m x
 | [],_,_=>rfl
 | (n,v)::r,m,h=>by
  unfold bindC
  rw[zlD fun w hw=>h w (yan _ hw)]
  split
  ·rfl
  ·have:x≠n:=by rintro rfl;exact h v yao
   simp[this]
theorem zlE {kindOf:Str->Option NameKind} {x:Str} {v:Value}:∀ {P:List Str} {vs:List Value} {i:Nat} {m:Str->Option Value},P.Nodup->P[i]?=some x->vs[i]?=some v->kindOf x=some .local ->
  bindL kindOf (P.zip vs) m x=some v
 | [],_,_,_,_,h,_,_=>by simp at h
 | _::_,[],_,_,_,_,h,_=>by simp at h
 | p::P,w::vs,0,m,nd,h1,h2,hk=>by
  simp at h1 h2;subst h1;subst h2
  show bindL kindOf ((p,w)::P.zip vs) m p=_
  unfold bindL
  rw[zlu fun v hv=>(ybj.mp nd).1 (List.of_mem_zip hv).1,if_pos hk]
  simp
 | p::P,w::vs,i+1,m,nd,h1,h2,hk=>by
  show bindL kindOf ((p,w)::P.zip vs) m x=_
  unfold bindL
  exact zlE (i:=i) (ybj.mp nd).2 (by simpa using h1) (by simpa using h2) hk
theorem zlq {kindOf:Str->Option NameKind} {x:Str} {v:Value}:∀ {P:List Str} {vs:List Value} {i:Nat} {m:Str->Option Value},P.Nodup->P[i]?=some x->vs[i]?=some v->kindOf x≠some .local ->
  bindC kindOf (P.zip vs) m x=some v
 | [],_,_,_,_,h,_,_=>by simp at h
 | _::_,[],_,_,_,_,h,_=>by simp at h
 | p::P,w::vs,0,m,nd,h1,h2,hk=>by
  simp at h1 h2;subst h1;subst h2
  show bindC kindOf ((p,w)::P.zip vs) m p=_
  unfold bindC
  rw[zlD fun v hv=>(ybj.mp nd).1 (List.of_mem_zip hv).1,if_neg hk]
  simp
 | p::P,w::vs,i+1,m,nd,h1,h2,hk=>by
  show bindC kindOf ((p,w)::P.zip vs) m x=_
  unfold bindC
  exact zlq (i:=i) (ybj.mp nd).2 (by simpa using h1) (by simpa using h2) hk
noncomputable def start (N:List Str) (vs:List V):St:=vs.map some++yam (N.length-vs.length) none
noncomputable def zaC (CX:CXT) (P:Program) (w:World) (K:W.Frag) (mg:Str->Option Value) (base:Heap) (N:List Str) (qual:Str) (scope:Scope) (f:Addr) (cd:Value) (A:Around) (outer:List Env) (s:Shared) (H:Hp) (E:XK):Cx where
 prog:=P
 w:=w
 K:=K
 mg:=mg
 base:=base
 A:=A.deeper (envOfC qual scope s.heap.objs.size f cd)
 N:=N
 s₀:=s
 H₀:=H
 env:=envOfC qual scope s.heap.objs.size f cd
 outer:=outer
 stack:=envOfC qual scope s.heap.objs.size f cd::outer
 ex:=[]
 calm:=true
 fn:=fun _=>true
 pn:=[]
 xe:=fun e s'=>wpAny (model P w) (A.deeper (envOfC qual scope s.heap.objs.size f cd)) (leaving (envOfC qual scope s.heap.objs.size f cd) e) (fun _ s''=>CX outer H s E e s'') (fun e' s''=>CX outer H s E e' s'') s'
theorem zni {sc:Scope} {n:Nat} {x:Str} (h:sc.names.lookup x=some .cell):∃ c,(cellsFrom n sc.names []).lookup x=some c:=by
 have q:=PySem.W.cellsFrom_some sc.names n [] (.inl h)
 exact Option.isSome_iff_exists.mp q
theorem zpK {CX:CXT} {P:Program} {w:World} {K:W.Frag} {mg:Str->Option Value} {base:Heap} {N ps:List Str} {qual:Str} {scope:Scope} {f:Addr} {cd:Value} {A:Around} {outer:List Env} {s s1:Shared} {H:Hp} {E:XK} {us:List Value} {vs:List V}
  (S:zi N ps scope) (hd:A.handled=none) (e0:zj1 P w K mg base A outer s H) (hl:vs.length=ps.length) (r:Vals vs us)
  (x:InCallC s s.heap.objs.size (bindL (envOfC qual scope s.heap.objs.size f cd).kindOf (ps.zip us) fun _=>none) (cellsFrom (s.heap.objs.size+1) scope.names []) (bindC (envOfC qual scope s.heap.objs.size f cd).kindOf (ps.zip us) fun _=>none) s1) :
  Inv (zaC CX P w K mg base N qual scope f cd A outer s H E) [] (start N vs) H s1:=by
 have hpl:ps.length<=N.length:=by have:=congrArg List.length S.pre;rw[yat] at this;ac_rfl
 obtain ⟨h1,tk,rfl,hk⟩:=x.done
 have noA:∀ b:Addr,b ∉ (zaC CX P w K mg base N qual scope f cd A outer s H E).ex:=fun b z=>absurd (show b∈([]:List Addr) from z) (by simp)
 refine ⟨⟨e0.mod,S.kind,rfl,rfl,ycv _,fun y z c h1 h2=>?_,fun y hy=>?_,fun y c _ h=>?_,fun _=>hd,Around.frames_deeper e0.frames,.inr ⟨rfl,rfl⟩,fun b z=>absurd z (noA b),e0.bs,e0.bsz,fun b _ _=>noA b,fun b z=>absurd z (noA b),e0.funs,e0.frf⟩,
  rfl,e0.bare,Un.kept hk,⟨_,x.toInCall.ns,fun i y v h1 h2 h3=>?_⟩,fun y c h=>⟨_,x.cell y c h⟩,e0.hok.fresh (ycv _),fun y c h=>?_,fun p hp=>absurd (show p∈([]:List (Addr × Obj)) from hp) (by simp),e0.hok.kept hk,?_⟩
 ·exact name_of_addr x.apart (PySem.mem_of_lookup h1) (PySem.mem_of_lookup h2)
 ·have hy:scope.names.lookup y=some .cell\/scope.names.lookup y=some .free:=hy
  rcases hy with hy | hy
  ·exact zni hy
  ·exact absurd rfl (S.nofree _ (PySem.mem_of_lookup hy))
 ·exact ydi (x.above y c (PySem.mem_of_lookup h))
 ·have hi:i<vs.length:=by
   unfold start at h2
   by_cases hi:i<vs.length
   ·exact hi
   ·rw[yau (by simpa using hi)] at h2
    rw[yco] at h2
    split at h2 <;> cases h2
  have ha:vs[i]?=some v:=by
   unfold start at h2
   rw[yax (by simpa using hi),yaf] at h2
   cases e:vs[i]? with
   | none=>rw[e] at h2;cases h2
   | some a=>rw[e] at h2;cases h2;rfl
  obtain ⟨u,hu,rv⟩:=r.get ha
  have hp:ps[i]?=some y:=by
   rw[<-S.pre,List.getElem?_take_of_lt (by ac_rfl)];exact h1
  have ndP:ps.Nodup:=by rw[<-S.pre];exact S.nd.sublist (List.take_sublist _ _)
  refine ⟨u,rv,?_⟩
  rcases S.par y (yai hp) with k | k
  ·exact .inl ⟨k,zlE ndP hp hu k⟩
  ·obtain ⟨c,e⟩:=zni (n:=s.heap.objs.size+1) k
   refine .inr ⟨.inl k,c,e,?_⟩
   have q:=x.cell y c e
   rw[zlq ndP hp hu (by show scope.names.lookup y≠_;rw[k];decide)] at q
   exact q
 ·exact e0.hok.fresh (ydi (x.above y c (PySem.mem_of_lookup h)))
 ·unfold start
  show _=N.length
  rw[yae,yab,ycj]
  ac_rfl
theorem zpq {CX:CXT} {P:Program} {w:World} {K:W.Frag} {mg:Str->Option Value} {base:Heap} {k:Nat} {f:Addr} {name qual:Str} {params:Arguments} {body:List Stmt} {scope:Scope} {dV kV doc pm cdv ct oc:Value} {an od:Option Addr}
  {osl:Array (Option Value)} {N ps:List Str} {sp:Sp} (lk:K.lookup f=some ⟨oc,od,.func (PySem.W.fnOf name qual params body scope dV kV doc pm an cdv ct),osl⟩) (hcd:PySem.W.codeIn K cdv qual=true) (S:zi N ps scope)
  (len:∀ vs H Q E,sp vs H Q E->vs.length=ps.length)
  (hbody:∀ (A:Around) (outer:List Env) (s:Shared) (H:Hp) (vs:List V) (Q:VK) (E:XK),Room k (A.deeper (envOfC qual scope s.heap.objs.size f cdv))->sp vs H Q E ->
   ∃ t,PSs (zaC CX P w K mg base N qual scope f cdv A outer s H E) body t/\t { nx:=fun _ H'=>Q .non H',rt:=Q } (start N vs) H) :
  zba P w K mg base CX (k+1) f (PySem.W.fnOf name qual params body scope dV kV doc pm an cdv ct) ps sp:=by
 refine ⟨len,fun A outer s H args us vs Q E hr e0 hb r hsp=>?_⟩
 have hl:=len _ _ _ _ hsp
 have KX:K.In s.heap:=e0.mod.kin.keeps fun b o e=>(e0.bs b o e).1
 have lim:s.heap.NoLimit:=e0.mod.nolimit.keeps fun b o e=>(e0.bs b o e).1
 have hkind:∀ y∈ps.zip us,scope.names.lookup y.1=some .local\/(scope.names.lookup y.1=some .cell/\((cellsFrom (s.heap.objs.size+1) scope.names []).lookup y.1).isSome=true):=fun ⟨n,v⟩ hy=>by
  rcases S.par n (List.of_mem_zip hy).1 with q | q
  ·exact .inl q
  ·exact .inr ⟨q,PySem.W.cellsFrom_some _ _ _ (.inl q)⟩
 refine codeAny_call_function hr.depth (KX _ _ lk) rfl S.co S.gen rfl (PySem.W.codeRec_of KX hcd) (hb _ _ _ _ ?_)
 refine wpAny_newFunctionEnv_cells S.kind hkind fun env he s1 x=>?_
 subst he
 refine ⟨lim.keeps x.toInCall.keep,codeAny_func ?_⟩
 obtain ⟨t,ht,hq⟩:=hbody A outer s H vs Q E (hr.deeper _) hsp
 have I:Inv (zaC CX P w K mg base N qual scope f cdv A outer s H E) [] (start N vs) H s1:=zpK S hr.hd e0 hl r x
 refine wpAny_mono (ht [] s1 (start N vs) H _ I hq) (fun fl s' hs=>?_) fun e s' hs=>hs
 have fin:∀ {σ':St} {H':Hp} {v:V} {u:Value},Inv (zaC CX P w K mg base N qual scope f cdv A outer s H E) [] σ' H' s'->RelV v u->Q v H'->CE outer P w H s Q u s' :=
  fun {σ' H' v u} J rv q=>⟨v,H',J.os,J.bare,J.base,J.hok,rv,q⟩
 cases fl with
 | ret u =>
  obtain ⟨v,σ',H',J,rv,q⟩:=hs
  exact fin J rv q
 | next =>
  obtain ⟨σ',H',J,q⟩:=hs
  exact fin (v:=V.non) (u:=Value.none) J rfl q
 | brk =>
  obtain ⟨_,_,_,q⟩:=hs
  exact False.elim q
 | cont =>
  obtain ⟨_,_,_,q⟩:=hs
  exact False.elim q
section
variable {X:Cx} {x:Str} {p pos:Pos} {e:Expr} {es:List Expr} {t:TA} {id T:String} {r:List V->Hp->VK->Prop}
def tCB (r:List V->Hp->VK->Prop) (t:TA):TE:=fun σ H Q=>t σ H fun vs H1=>r vs H1 Q
theorem zy (hc:zbo X (.builtin id) r) (hg:Gl X x) (hm:X.mg x=none) (hv:bootBuiltins x=some (.builtin id)) (ha:PA X (e::es) t) (hn:x ≠ "__name__" := by decide) (hdb:(x == ("__debug__" : Str))=false:=by decide)
  (he:starEach (e::es) X.env=(false,eval e X.env)::starEach es X.env:=by rfl) (hpl:(backTo pos (starEach es X.env)).any (·.1)=false:=by rfl):PE X (.Call (.Name x p) (e::es) [] pos) (tCB r t):=by
 intro pins s σ H Q I h
 refine wpAny_Call_Name_kw (ziH I hg hm hv ?_ hn hdb)
 exact PyProof.Rows.callWith_builtin1 (thn (ha pos pins s σ H _ I h) fun us s1 ⟨vs,H1,I1,r1,q1⟩=>hc pins s1 σ H1 vs us Q I1 r1 q1) he hpl
theorem zR (hc:zbo X (.type T) r) (hg:Gl X x) (hm:X.mg x=none) (hv:bootBuiltins x=some (.type T)) (ha:PA X (e::es) t) (hn:x ≠ "__name__" := by decide) (hdb:(x == ("__debug__" : Str))=false:=by decide)
  (he:starEach (e::es) X.env=(false,eval e X.env)::starEach es X.env:=by rfl) (hpl:(backTo pos (starEach es X.env)).any (·.1)=false:=by rfl):PE X (.Call (.Name x p) (e::es) [] pos) (tCB r t):=by
 intro pins s σ H Q I h
 refine wpAny_Call_Name_kw (ziH I hg hm hv ?_ hn hdb)
 exact PyProof.Rows.callWith_type1 (thn (ha pos pins s σ H _ I h) fun us s1 ⟨vs,H1,I1,r1,q1⟩=>hc pins s1 σ H1 vs us Q I1 r1 q1) he hpl
end
end L2
namespace HT
open PySem PyProof.Rows
section
open PySem.SeqAt
open PySem.AutoSeq1 (wpAny_loadPart')
open PySem.MeetsSeq PySem.MeetsSeq2 PySem.MeetsSeq3
end
section
variable {prog:Program} {w:World} {A:Around} {E:Value->Shared->Prop} {s:Shared}
theorem zsx {t b:Addr} {vs ws:List Value} {Q:Value->Shared->Prop} (ht:IsTup s.heap t vs.toArray) (hb:IsTup s.heap b ws.toArray) (hv:vs≠[])
  (h1:ws=[]->Q (.ref t) s) (h2:ws≠[]->Q (.ref s.heap.objs.size) { s with heap:=s.heap.push { cls:=.type "tuple", data:=.seq (vs++ws).toArray } })
  (hsz:vs.length+ws.length<=sizeLine):wpAny (model prog w) A (binaryOp .Add (.ref t) (.ref b)) Q E s:=by
 obtain ⟨⟨cls,dd,data,sl⟩,ho,hc,n,hd⟩:=id ht
 obtain ⟨⟨cls2,dd2,data2,sl2⟩,ho2,hc2,n2,hd2⟩:=id hb
 simp only at hc hd hc2 hd2
 subst hc hd hc2 hd2
 have e:vs.toArray++ws.toArray=(vs++ws).toArray:=by simp
 by_cases hw:ws=[]
 ·exact concat_meets ⟨_,ho,rfl⟩ ⟨_,ho2,rfl⟩ noFill_tuple_add seq_tuple_add PySem.F.slot_tuple_add PySem.F.entry_tuple_add (PySem.F.args_tuple_add_2 _ _)
   (tuple_addW1 t b vs.toArray ws.toArray n n2 dd dd2 sl sl2 (by simpa using hv) (by simp[hw])) ⟨ho,ho2,h1 hw⟩
 ·refine concat_meets ⟨_,ho,rfl⟩ ⟨_,ho2,rfl⟩ noFill_tuple_add seq_tuple_add PySem.F.slot_tuple_add PySem.F.entry_tuple_add (PySem.F.args_tuple_add_2 _ _)
   (tuple_addW2 t b vs.toArray ws.toArray n n2 dd dd2 sl sl2 (by simpa using hv) (by simpa using hw) (by rw[yal,yal];exact hsz)) ⟨ho,ho2,?_⟩
  rw[e]
  exact h2 hw
noncomputable def sIx (n d:Nat):Option Int->Nat
 | none=>d
 | some v=>if v<0 then (v+(n:Int)).toNat else min v.toNat n
end
end HT
namespace L2
open PySem PySem.Spec PyProof.Rows
noncomputable abbrev TO:=St->Hp->(Option Int->Hp->Prop)->Prop
def PO (X:Cx) (e:Option Expr) (t:TO):Prop :=
 ∀ (pins:List (Addr × Obj)) (s:Shared) (σ:St) (H:Hp) (Q:Option Int->Hp->Prop),Inv X pins σ H s->t σ H Q ->
  wpAny (model X.prog X.w) X.A (evalPart e X.env) (fun u s'=>∃ o H',Inv X pins σ H' s'/\IsPart u o/\Q o H') X.xe s
def zsV:TO:=fun _ H Q=>Q none H
def zus (t:TE):TO:=fun σ H Q=>t σ H fun x H1=>∃ i,x=.int i/\Q (some i) H1
section
variable {X:Cx} {e:Expr} {te:TE} {lo hi:Option Expr} {tl th:TO} {pos p2:Pos}
theorem zha:PO X none zsV:=by
 intro pins s σ H Q I h
 rw[evalPart_none]
 exact wpAny_pure ⟨none,H,I,.none,h⟩
theorem zhl (h:PE X e te):PO X (some e) (zus te):=by
 intro pins s σ H Q I hw
 rw[evalPart_some]
 refine thn (h pins s σ H _ I hw) fun u s1 ⟨x,H1,I1,r1,q1⟩=>?_
 obtain ⟨i,rfl,q⟩:=q1
 obtain ⟨t,rfl⟩:=r1
 exact ⟨some i,H1,I1,.int i t,q⟩
def SlR (X:Cx) (r:V->Option Int->Option Int->Hp->VK->Prop):Prop :=
 ∀ (pins:List (Addr × Obj)) (s:Shared) (σ:St) (H:Hp) (x:V) (v vl vu:Value) (lo hi:Option Int) (sl:Addr) (Q:VK),Inv X pins σ H s->RelV x v->s.heap.IsSliceOf sl vl vu .none->IsPart vl lo->IsPart vu hi->r x lo hi H Q ->
  ∃ T id,typeLookup (.type T) "__getitem__" = pure (some (.builtin id))/\s.TypeIs v T/\wpAny (model X.prog X.w) X.A (getItem v (.ref sl)) (EP X pins σ Q) X.xe s
def tSl (r:V->Option Int->Option Int->Hp->VK->Prop) (te:TE) (tl th:TO):TE:=fun σ H Q=>te σ H fun x H1=>tl σ H1 fun l H2=>th σ H2 fun u H3=>r x l u H3 Q
theorem zfS {r:V->Option Int->Option Int->Hp->VK->Prop} (hr:SlR X r) (he:PE X e te) (hl:PO X lo tl) (hu:PO X hi th):PE X (.Subscript e (.Slice lo hi none p2) pos) (tSl r te tl th):=by
 intro pins s σ H Q I h
 refine Subscript_ (thn (he pins s σ H _ I h) fun v s1 ⟨x,H1,I1,r1,q1⟩=>?_)
 refine wpAny_Slice (thn (hl pins s1 σ H1 _ I1 q1) fun vl s2 ⟨l,H2,I2,pl,q2⟩=>thn (hu pins s2 σ H2 _ I2 q2) fun vu s3 ⟨u,H3,I3,pu,q3⟩=>?_)
 rw[evalPart_none]
 refine wpAny_pure ?_
 have I4:Inv X pins σ H3 { s3 with heap:=s3.heap.push { cls:=.type "slice", data:=.fields #[vl,vu,.none] } }:=I3.kept (t':=s3.toks) fun b ob q=>ydk _ q
 obtain ⟨T,id,hT,ht,hg⟩:=hr pins { s3 with heap:=s3.heap.push { cls:=.type "slice", data:=.fields #[vl,vu,.none] } } σ H3 x v vl vu l u s3.heap.objs.size Q I4 r1 (Heap.IsSliceOf.new ..) pl pu q3
 show wpAny (model X.prog X.w) X.A (subscriptTail e (.Slice lo hi none p2) v (.ref s3.heap.objs.size)) (EP X pins σ Q) X.xe { s3 with heap:=s3.heap.push { cls:=.type "slice", data:=.fields #[vl,vu,.none] } }
 exact tail_any (ops:=[.ref s3.heap.objs.size,v]) ht hT hg (by with_unfolding_all rfl)
noncomputable def zdQ (xs:List V) (lo hi:Option Int):List V:=(xs.drop (HT.sIx xs.length 0 lo)).take (HT.sIx xs.length xs.length hi-HT.sIx xs.length 0 lo)
theorem znV (xs:List V) (lo hi:Option Int):(zdQ xs lo hi).length<=xs.length:=by
 unfold zdQ
 rw[yat,List.length_drop]
 ac_rfl
def zrY (K:W.Frag):R2:=fun x y H Q=>∃ a b xs ys,x=.ref a/\y=.ref b/\SqT K H a xs/\SqT K H b ys/\xs≠[]/\xs.length+ys.length<=sizeLine /\
 (ys=[]->Q (.ref a) H)/\(ys≠[]->∀ p,H p=none->Q (.ref p) (upd H p (.tup (xs++ys))))
theorem Vals.zk0 {xs:List V} {us:List Value} (r:Vals xs us):us=[]↔xs=[]:=by
 cases r with
 | nil=>simp
 | cons _ _=>simp
theorem zs5:OpR X (binaryOp .Add) (zrY X.K):=by
 intro pins s σ H x y v u Q I rx ry h
 obtain ⟨a,b,xs,ys,rfl,rfl,ha,hb,hx,hz,q1,q2⟩:=h
 cases rx
 cases ry
 obtain ⟨its,r1,p1,_⟩:=I.tuple ha
 obtain ⟨its2,r2,p2,_⟩:=I.tuple hb
 refine HT.zsx p1 p2 (fun z=>hx (r1.zk0.mp z)) (fun z=>⟨.ref a,H,I,rfl,q1 (r2.zk0.mp z)⟩) (fun z=>?_) (by rw[<-r1.length,<-r2.length];exact hz)
 refine ⟨.ref s.heap.objs.size,_,I.laid (t':=s.toks) (o:=.tup (xs++ys)) (fun b ob q=>ydk _ q) (ycv _) ?_,rfl,q2 (fun w=>z (r2.zk0.mpr w)) _ (I.hok.fresh (ycv _))⟩
 exact ⟨by rw[yae];exact hz,_,r1.append r2,IsTup.new _ _⟩
end
noncomputable def ixN (n:Nat) (i:Int):Option Nat:=if 0<=i then (if i<n then some i.toNat else none) else if -(n:Int)<=i then some (i+n).toNat else none
noncomputable def atI {α:Type} (xs:List α) (i:Int):Option α:=(ixN xs.length i).bind fun j=>xs[j]?
theorem zoq {n:Nat} {i:Int} {j:Nat} (h:ixN n i=some j):seqIndex? i n=some j/\j<n /\ -(n:Int)<=i/\i<n:=by
 unfold ixN at h
 by_cases h0:0<=i
 ·rw[if_pos h0] at h
  by_cases h1:i<n
  ·rw[if_pos h1] at h
   have e:i.toNat=j:=Option.some.inj h
   exact ⟨by rw[seqIndex_of h0 h1,e],by ac_rfl,by ac_rfl,h1⟩
  ·rw[if_neg h1] at h;cases h
 ·rw[if_neg h0] at h
  by_cases h1:-(n:Int)<=i
  ·rw[if_pos h1] at h
   have e:(i+n).toNat=j:=Option.some.inj h
   exact ⟨by rw[seqIndex_neg (by ac_rfl) h1,e],by ac_rfl,h1,by ac_rfl⟩
  ·rw[if_neg h1] at h;cases h
theorem zoU {α:Type} {xs:List α} {i:Int} {v:α} (h:atI xs i=some v):∃ j,seqIndex? i xs.length=some j/\xs[j]?=some v/\j<xs.length /\ -(xs.length:Int)<=i/\i<xs.length:=by
 unfold atI at h
 cases e:ixN xs.length i with
 | none=>rw[e] at h;cases h
 | some j =>
  rw[e] at h
  obtain ⟨h1,h2,h3,h4⟩:=zoq e
  exact ⟨j,h1,h,h2,h3,h4⟩
theorem zak {α:Type} {xs:List α} {j:Nat} {v:α} (h:xs[j]?=some v):atI xs (j:Int)=some v:=by
 have hj:j<xs.length:=(yad.mp h).1
 have e:ixN xs.length (j:Int)=some j:=by
  unfold ixN
  rw[if_pos (by ac_rfl),if_pos (by ac_rfl)];simp
 unfold atI;rw[e];exact h
theorem zrR {α:Type} (xs:List α) (v:α):atI (xs++[v]) (-1)=some v:=by
 have hl:(xs++[v]).length=xs.length+1:=by simp
 have e:ixN (xs++[v]).length (-1)=some xs.length:=by
  unfold ixN
  rw[hl,if_neg (by decide),if_pos (by ac_rfl)]
  congr 1
  ac_rfl
 unfold atI
 rw[e]
 show (xs++[v])[xs.length]?=some v
 simp
def zs3 (b:Expr):Prop:=∀ o i,subscripted b false o i=operate [o,i] (getItem o i)
def IxR (X:Cx) (r:R2):Prop :=
 ∀ (value slice:Expr) (pins:List (Addr × Obj)) (s:Shared) (σ:St) (H:Hp) (x y:V) (v u:Value) (Q:VK),Inv X pins σ H s->RelV x v->RelV y u->r x y H Q ->
  subscripted slice false v u=operate [v,u] (getItem v u)->wpAny (model X.prog X.w) X.A (subscriptTail value slice v u) (EP X pins σ Q) X.xe s
def MtR (X:Cx) (id:String) (r:V->List V->Hp->VK->Prop):Prop :=
 ∀ (pins:List (Addr × Obj)) (s:Shared) (σ:St) (H:Hp) (x:V) (xs:List V) (v:Value) (us:List Value) (Q:VK),Inv X pins σ H s->RelV x v->Vals xs us->r x xs H Q ->
  wpAny (model X.prog X.w) X.A (call (.builtin id) (v::us)) (EP X pins σ Q) X.xe s
section
variable {X:Cx} {a b:Expr} {ta tb:TE} {pos:Pos}
theorem zr {r:R2} (hr:IxR X r) (ha:PE X a ta) (hb:PE X b tb) (hs:zs3 b):PE X (.Subscript a b pos) (tOp r ta tb):=by
 intro pins s σ H Q I h
 exact Subscript_ (zrB ha hb I h fun v u s2 x y H2 I2 rx ry q=>hr a b pins s2 σ H2 x y v u Q I2 rx ry q (hs _ _))
def ztI (K:W.Frag):R2:=fun x y H Q=>∃ p xs i v,x=.ref p/\y=.int i/\SqL K H p xs/\atI xs i=some v/\Q v H
def ztJ (K:W.Frag):R2:=fun x y H Q=>∃ p xs i v,x=.ref p/\y=.int i/\SqT K H p xs/\atI xs i=some v/\Q v H
theorem zG:IxR X (ztI X.K):=by
 intro value slice pins s σ H x y v u Q I rx ry h hs
 obtain ⟨p,xs,i,z,rfl,rfl,hq,he,q⟩:=h
 cases rx
 obtain ⟨t,rfl⟩:=ry
 obtain ⟨its,r,pl,hz⟩:=I.list hq
 obtain ⟨j,h1,h2,h3,h4,h5⟩:=zoU he
 obtain ⟨w,ew,rw'⟩:=r.get h2
 have hl:=r.length
 have hn:=zj5
 have fin:EP X pins σ Q w s:=⟨z,H,I,rw',q⟩
 by_cases h0:0<=i
 ·have hj:i.toNat=j:=by
   rw[seqIndex_of h0 h5] at h1
   exact Option.some.inj h1
  exact item_listR pl.isList h0 (by ac_rfl) (by rw[hj];simpa using ew) fin hs
 ·have hj:(i+(its.toArray.size:Int)).toNat=j:=by
   rw[seqIndex_neg (by ac_rfl) h4] at h1
   rw[yal,<-hl]
   exact Option.some.inj h1
  exact subscriptTail_builtinR (x:=w) pl.isList.typeIs slot_list_getitem.lookup
   (wpAny_getItem_list_neg (Q:=fun r s'=>r=w/\EP X pins σ Q r s') pl.isList (by ac_rfl) (by rw[yal] <;> ac_rfl) (by ac_rfl) (by rw[hj];simpa using ew) ⟨rfl,fin⟩) hs
theorem zP:IxR X (ztJ X.K):=by
 intro value slice pins s σ H x y v u Q I rx ry h hs
 obtain ⟨p,xs,i,z,rfl,rfl,hq,he,q⟩:=h
 cases rx
 obtain ⟨t,rfl⟩:=ry
 obtain ⟨its,r,pl,hz⟩:=I.tuple hq
 obtain ⟨j,h1,h2,h3,h4,h5⟩:=zoU he
 obtain ⟨w,ew,rw'⟩:=r.get h2
 have hl:=r.length
 have hn:=zj5
 have fin:EP X pins σ Q w s:=⟨z,H,I,rw',q⟩
 exact subscriptTail_builtinR (x:=w) pl.typeIs slot_tuple_getitem.lookup
  (getItem_tuple (j:=j) (Q:=fun r s'=>r=w/\EP X pins σ Q r s') pl (by ac_rfl) (by ac_rfl) (by rw[yal,<-hl];exact h1) (by simpa using ew) ⟨rfl,fin⟩) hs
theorem zpz (its:List Value) (n j:Nat) (u:Value):Obj.mapSeq (·.setIfInBounds j u) { cls:=.type "list", data:=.seq its.toArray n }={ cls:=.type "list", data:=.seq (its.set j u).toArray n }:=by
 simp[Obj.mapSeq]
theorem Inv.lst {pins:List (Addr × Obj)} {σ:St} {H:Hp} {s:Shared} {p:Addr} {xs:List V} (I:Inv X pins σ H s) (h:H p=some (.lst xs)) :
  ∃ (its:List Value) (n:Nat),Vals xs its/\s.heap.get? p=some { cls:=.type "list", data:=.seq its.toArray n }/\xs.length<=sizeLine:=by
 obtain ⟨z,its,n,r,e⟩:=I.hok p _ h
 exact ⟨its,n,r,e,z⟩
theorem Inv.ztk {pins:List (Addr × Obj)} {σ:St} {H:Hp} {s:Shared} {p:Addr} {xs ys:List V} {its its':List Value} {n n':Nat} {f:Obj->Obj} (I:Inv X pins σ H s) (h:H p=some (.lst xs))
  (ho:s.heap.get? p=some { cls:=.type "list", data:=.seq its.toArray n }) (hf:f { cls:=.type "list", data:=.seq its.toArray n }={ cls:=.type "list", data:=.seq its'.toArray n' }) (r:Vals ys its') (hz:ys.length<=sizeLine) (t:Nat) :
  Inv X pins σ (upd H p (.lst ys)) { s with heap:=s.heap.update p f,toks:=t }:=by
 have e:(s.heap.update p f).get? p=some { cls:=.type "list", data:=.seq its'.toArray n' }:=by
  rw[ydo f ho (by rw[hf] <;> rfl),hf]
 refine I.write (x:=p) (e:=p) (by rw[h];trivial) (.inl rfl) (fun b u hb q=>(ydp _ _ (Ne.symm hb)).trans q) ⟨_,e⟩ ?_
 exact ⟨hz,its',n',r,e⟩
noncomputable def zue:V->V->V->Hp->(Hp->Prop)->Prop:=fun o i v H Q=>∃ p xs k j,o=.ref p/\i=.int k/\H p=some (.lst xs)/\ixN xs.length k=some j/\Q (upd H p (.lst (xs.set j v)))
theorem set_list:PSet X zue:=by
 intro pins s σ H o i v ov iv u Q I ro ri rv h
 obtain ⟨p,xs,k,j,rfl,rfl,hp,hj,q⟩:=h
 cases ro
 obtain ⟨t,rfl⟩:=ri
 obtain ⟨its,n,r,ho,hz⟩:=I.lst hp
 obtain ⟨h1,h2,h3,h4⟩:=zoq hj
 have hl:=r.length
 have hn:=zj5
 have I':Inv X pins σ (upd H p (.lst (xs.set j v))) { s with heap:=s.heap.update p (Obj.mapSeq (·.setIfInBounds j u)) } :=
  I.ztk hp ho (zpz its n j u) (r.set rv j) (by rw[List.length_set];exact hz) s.toks
 by_cases h0:0<=k
 ·have hk:k.toNat=j:=by
   rw[seqIndex_of h0 h4] at h1
   exact Option.some.inj h1
  exact PySem.W.ki_setAt ho h0 (by ac_rfl) (by rw[yal,<-hl];exact h4) (by rw[hk];exact ⟨_,I',q⟩)
 ·have hk:(k+(its.toArray.size:Int)).toNat=j:=by
   rw[seqIndex_neg (by ac_rfl) h3] at h1
   rw[yal,<-hl]
   exact Option.some.inj h1
  exact PySem.W.ki_setBack ho (by ac_rfl) (by rw[yal,<-hl];exact h3) (by ac_rfl) (by rw[hk];exact ⟨_,I',q⟩)
theorem zmN (lo hi:Option Int) (n:Nat):(sliceBounds lo hi none n).1=((HT.sIx n 0 lo:Nat):Int)/\(sliceBounds lo hi none n).2.1=((HT.sIx n n hi:Nat):Int)/\(sliceBounds lo hi none n).2.2=1:=by
 refine ⟨?_,?_,rfl⟩
 ·cases lo with
  | none=>simp[sliceBounds,HT.sIx]
  | some i =>
   simp only[sliceBounds,HT.sIx,Option.getD_none,show (1:Int) > 0 by decide,if_true]
   by_cases h:i<0
   ·simp only[h,if_true] <;> ac_rfl
   ·simp only[h,if_false] <;> ac_rfl
 ·cases hi with
  | none=>simp[sliceBounds,HT.sIx]
  | some i =>
   simp only[sliceBounds,HT.sIx,Option.getD_none,show (1:Int) > 0 by decide,if_true]
   by_cases h:i<0
   ·simp only[h,if_true] <;> ac_rfl
   ·simp only[h,if_false] <;> ac_rfl
theorem zlW (its:List Value) (lo hi:Option Int):slicePick its.toArray lo hi none=((its.drop (HT.sIx its.length 0 lo)).take (HT.sIx its.length its.length hi-HT.sIx its.length 0 lo)).toArray:=by
 obtain ⟨h1,h2,h3⟩:=zmN lo hi its.toArray.size
 unfold slicePick
 rw[h1,h2,h3]
 simp only[sliceRange_one,pick_run,yal] <;> rfl
noncomputable def zu2 (K:W.Frag):V->Option Int->Option Int->Hp->VK->Prop:=fun x lo hi H Q=>∃ a xs,x=.ref a/\SqL K H a xs/\∀ p,H p=none->Q (.ref p) (upd H p (.lst (zdQ xs lo hi)))
theorem zhj:SlR X (zu2 X.K):=by
 intro pins s σ H x v vl vu lo hi sl Q I rx hs pl pu h
 obtain ⟨a,xs,rfl,hx,q⟩:=h
 cases rx
 obtain ⟨its,r,ht,hz⟩:=I.list hx
 have hlen:=r.length
 refine ⟨"list", _,slot_list_getitem.lookup,ht.isList.typeIs,?_⟩
 refine wpAny_getItem_list_slice ht.isList hs pl pu .none (by simp) ?_ (by rw[yal] <;> ac_rfl)
 rw[zlW,<-hlen]
 refine ⟨.ref s.heap.objs.size,_,I.laid (t':=s.toks) (o:=.lst (zdQ xs lo hi)) (fun b ob q=>ydk _ q) (ycv _) ?_,rfl,q _ (I.hok.fresh (ycv _))⟩
 exact ⟨ydb (znV xs lo hi) hz,_,0,(r.drop (HT.sIx xs.length 0 lo)).take (HT.sIx xs.length xs.length hi-HT.sIx xs.length 0 lo),ydm _ rfl⟩
theorem zZ:zbo X (.builtin "len") (fun xs H Q=>∃ p ys,xs=[.ref p]/\(SqL X.K H p ys\/SqT X.K H p ys)/\Q (.int ys.length) H):=by
 intro pins s σ H xs us Q I r h
 obtain ⟨p,ys,rfl,hq,q⟩:=h
 obtain ⟨u,rfl,rx⟩:=vals1 r
 cases rx
 have hn:=zj5
 rcases hq with hq | hq
 ·obtain ⟨its,r',pl,hz⟩:=I.list hq
  have hlen:=r'.length
  exact Calls.call_len_list pl.isList (by simp only[yal] <;> ac_rfl) ⟨.int ys.length,H,I.tok _,⟨s.toks+1,by rw[yal,hlen]⟩,q⟩
 ·obtain ⟨its,r',pl,hz⟩:=I.tuple hq
  have hlen:=r'.length
  exact len_tuple pl (by simp only[yal] <;> ac_rfl) ⟨.int ys.length,H,I.tok _,⟨s.toks+1,by rw[yal,hlen]⟩,q⟩
theorem zas:zbo X (.type "list") (fun xs H Q=>∃ p ys,xs=[.ref p]/\(SqL X.K H p ys\/SqT X.K H p ys)/\∀ l,H l=none->Q (.ref l) (upd H l (.lst ys))):=by
 intro pins s σ H xs us Q I r h
 obtain ⟨p,ys,rfl,hq,q⟩:=h
 obtain ⟨u,rfl,rx⟩:=vals1 r
 cases rx
 have fin:∀ (its:List Value),Vals ys its->ys.length<=sizeLine->∀ (h':Heap) (c':Nat),(∀ b o',s.heap.get? b=some o'->h'.get? b=some o') ->
   h'.get? s.heap.objs.size=some { cls:=.type "list", dict:=none,data:=.seq its.toArray c',slots:=#[] }->EP X pins σ Q (.ref s.heap.objs.size) { s with heap:=h' }:=fun its r' hz h' c' kp e =>
  ⟨.ref s.heap.objs.size,_,I.laid (t':=s.toks) kp (ycv _) (show zX X.prog X.w _ h' _ (.lst ys) from ⟨hz,its,c',r',e⟩),rfl,q _ (I.hok.fresh (ycv _))⟩
 rcases hq with hq | hq
 ·obtain ⟨its,r',pl,hz⟩:=I.list hq
  have hlen:=r'.length
  obtain ⟨o,ho,hc,n,hd⟩:=pl.isList
  exact call_list_seq p (.inl rfl) ho hc hd (fun h' c' kp e=>fin its r' hz h' c' kp e) (by simp only[yal] <;> ac_rfl)
 ·obtain ⟨its,r',pl,hz⟩:=I.tuple hq
  have hlen:=r'.length
  obtain ⟨o,ho,hc,n,hd⟩:=pl
  exact call_list_seq p (.inr rfl) ho hc hd (fun h' c' kp e=>fin its r' hz h' c' kp e) (by simp only[yal] <;> ac_rfl)
def tyV (K:W.Frag) (T:String) (x:V) (H:Hp):Prop:=match x with
 | .str _=>T = "str"
 | .int _=>T = "int"
 | .ref p=>(T = "list" /\ ∃ xs,SqL K H p xs)\/(T = "tuple" /\ ∃ o,K.lookup p=some o/\o.cls=.type "tuple" /\ o.dict=none) \/
   (T = "dict" /\ ∃ kvs,H p=some (.dK kvs))\/(T = "set" /\ ∃ S n,H p=some (.set S n))
 | _=>False
theorem ztt {pins:List (Addr × Obj)} {σ:St} {H:Hp} {s:Shared} {T:String} {x:V} {v:Value} (I:Inv X pins σ H s) (r:RelV x v) (ty:tyV X.K T x H) :
  s.TypeIs v T/\∀ a,v=.ref a->∃ ob,s.heap.get? a=some ob/\ob.dict=none:=by
 cases x with
 | str z =>
  obtain ⟨t,rfl⟩:=r
  cases (show T = "str" from ty)
  exact ⟨typeIs_str s z t,fun _ e=>nomatch e⟩
 | int i =>
  obtain ⟨t,rfl⟩:=r
  cases (show T = "int" from ty)
  exact ⟨typeIs_int s i t,fun _ e=>nomatch e⟩
 | ref p =>
  cases r
  rcases ty with ⟨rfl,xs,hq⟩ | ⟨rfl,o,hk,hc,hd⟩ | ⟨rfl,hk⟩ | ⟨rfl,S,n,hk⟩
  ·obtain ⟨its,_,pl,_⟩:=I.list hq
   refine ⟨pl.isList.typeIs,fun a e=>?_⟩
   cases e
   obtain ⟨o,n,e,c,hd,_⟩:=pl
   exact ⟨o,e,hd⟩
  ·refine ⟨⟨o,I.kIn p o hk,hc⟩,fun a e=>?_⟩
   cases e
   exact ⟨o,I.kIn _ o hk,hd⟩
  ·have z:∃ o,s.heap.get? p=some o/\o.ExactDict:=by
    obtain ⟨kvs,hk⟩:=hk
    obtain ⟨_,_,_,_,o,_,_,e,ex,_⟩:=I.hok p _ hk
    exact ⟨o,e,ex⟩
   obtain ⟨o,e,ex⟩:=z
   refine ⟨⟨o,e,ex.1⟩,fun a e2=>?_⟩
   cases e2
   exact ⟨o,e,ex.2.1⟩
  ·obtain ⟨o,_,_,_,e,ex,_⟩:=I.hok p _ hk
   refine ⟨⟨o,e,ex.1⟩,fun a e2=>?_⟩
   cases e2
   exact ⟨o,e,ex.2.1⟩
 | _=>exact False.elim ty
def tBM (K:W.Frag) (T:String) (r:V->List V->Hp->VK->Prop) (to:TE) (t:TA):TE:=fun σ H Q=>to σ H fun x H1=>tyV K T x H1/\t σ H1 fun xs H2=>r x xs H2 Q
variable {o e:Expr} {es:List Expr} {to:TE} {t:TA} {name:Str} {apos cpos:Pos} {T id:String} {r:V->List V->Hp->VK->Prop}
theorem zep (pa:PlainAttrs T) (slot:Slot T name id) (hty:typeOf (.builtin id)=pure (.type "method_descriptor")) (hm:MtR X id r) (ho:PE X o to) (ha:PA X (e::es) t)
  (hbase:attributeBase o name X.env (eval o X.env)=eval o X.env:=by rfl)
  (hfew:((backTo cpos (starEach (e::es) X.env)).all (fun x=>!x.1) && (backToKw cpos (keywordEach [] X.env)).all (fun x=>x.1.isSome)
   && decide ((e::es).length+([]:List Keyword).length+(if ([]:List Keyword).isEmpty then 0 else 1)<30))=true:=by rfl)
  (hline:(apos.endLine == cpos.line)=true:=by rfl) (hs:starEach (e::es) X.env=(false,eval e X.env)::starEach es X.env:=by rfl) (hplain:(backTo cpos (starEach es X.env)).any (·.1)=false:=by rfl) :
  PE X (.Call (.Attribute o name apos) (e::es) [] cpos) (tBM X.K T r to t):=by
 intro pins s σ H Q I h
 refine wpAny_Call_method_late hbase hfew hline rfl (thn (ho pins s σ H _ I h) fun v s1 ⟨x,H1,I1,r1,ty,q1⟩=>?_)
 obtain ⟨h1,h2⟩:=ztt I1 r1 ty
 refine ⟨T,id,pa,slot,hty,h1,h2,?_⟩
 have hA:=ha cpos pins s1 σ H1 _ I1 q1
 rw[hs] at hA ⊢
 refine Calls.callWith_builtin (by show (false || (backTo cpos (starEach es X.env)).any (·.1))=false;rw[hplain] <;> rfl) (Calls.evalArgs_plain ?_)
 exact thn hA fun us s2 ⟨vs,H2,I2,r2,q2⟩=>hm pins s2 σ H2 x vs v us Q I2 r1 r2 q2
/- xs.append(e),list.index on a module's tuple .. are MtR facts of 06m -/
end
def MtM (X:Cx) (id:String) (r:V->List V->Hp->VK->Prop):Prop :=
 ∀ (pins:List (Addr × Obj)) (s:Shared) (σ:St) (H:Hp) (x:V) (xs:List V) (v:Value) (us:List Value) (Q:VK),Inv X pins σ H s->RelV x v->Vals xs us->r x xs H Q ->
  wpAny (model X.prog X.w) X.A (call (.builtin id) (v::us)) (EP X pins σ Q) X.xe s
theorem Vals.one:∀ {x:V} {us:List Value},Vals [x] us->∃ u,us=[u]/\RelV x u
 | _,_,.cons r .nil=>⟨_,rfl,r⟩
theorem Vals.rep {xs:List V} {us:List Value} (h:Vals xs us):∀ k:Nat,Vals (yam k xs).flatten (yam k us).flatten
 | 0=>.nil
 | k+1=>by
  rw[yce,yce,ycp,ycp]
  exact Vals.append h (Vals.rep h k)
theorem foldl_rep (its:List Value):∀ (k:Nat) (acc:List Value),
  List.foldl (fun x1 x2=>x1++x2) acc.toArray (yam k its.toArray)=(acc++(yam k its).flatten).toArray
 | 0,acc=>by simp
 | k+1,acc=>by
  have e:acc.toArray++its.toArray=(acc++its).toArray:=by simp
  have e2:(acc++its)++(yam k its).flatten=acc++(yam (k+1) its).flatten:=by
   rw[yce,ycp,ycc]
  rw[<-e2,<-foldl_rep its k (acc++its),<-e,yce,ybz]
section
variable {X:Cx} {pins:List (Addr × Obj)} {σ:St} {H:Hp} {s:Shared} {l b:Addr} {xs ys zs:List V}
theorem Inv.lset {its its':List Value} {n:Nat} {f:Array Value->Array Value} {t':Nat} (I:Inv X pins σ H s) (hH:H l=some (.lst xs))
  (e:s.heap.get? l=some { cls:=.type "list", data:=.seq its.toArray n }) (hf:f its.toArray=its'.toArray) (hv:Vals ys its') (hz:ys.length<=sizeLine) :
  Inv X pins σ (upd H l (.lst ys)) { s with heap:=s.heap.update l (Obj.mapSeq f),toks:=t' }:=by
 have q:=PySem.IsL.update e f
 rw[hf] at q
 refine I.write (x:=l) (e:=l) (by rw[hH];exact trivial) (.inl rfl) (fun b' u hb hu=>(ydp s.heap (Obj.mapSeq f) (Ne.symm hb)).trans hu) ⟨_,q⟩ ?_
 exact ⟨hz,its',_,hv,q⟩
theorem Inv.lnew {its:List Value} {t':Nat} (I:Inv X pins σ H s) (hv:Vals ys its) (hz:ys.length<=sizeLine) :
  Inv X pins σ (upd H s.heap.objs.size (.lst ys)) { s with heap:=s.heap.push { cls:=.type "list", data:=.seq its.toArray },toks:=t' } :=
 I.laid (fun _ _ q=>ydk _ q) (ycv _) ⟨hz,its,0,hv,ydm _ rfl⟩
theorem Inv.fresh (I:Inv X pins σ H s):H s.heap.objs.size=none:=I.hok.fresh (ycv _)
theorem Inv.zjQ (I:Inv X pins σ H s) (hH:H l=some (.lst xs)):xs.length<=sizeLine/\∃ (its:List Value) (n:Nat),Vals xs its/\xs.length=its.length/\s.heap.get? l=some { cls:=.type "list", data:=.seq its.toArray n }:=by
 obtain ⟨z,its,n,r,e⟩:=I.hok l _ hH
 exact ⟨z,its,n,r,r.length,e⟩
theorem zjR {n:Nat} (h:n<=sizeLine):Builtin.List.listTooLong n=false:=by
 unfold Builtin.List.listTooLong
 exact decide_eq_false (by ac_rfl)
end
section
variable {X:Cx}
noncomputable def zsX:V->List V->Hp->VK->Prop:=fun x vs H Q=>∃ l xs y,x=.ref l/\vs=[y]/\H l=some (.lst xs)/\xs.length<sizeLine/\Q .non (upd H l (.lst (xs++[y])))
theorem zbi:MtM X "list.append" zsX:=by
 intro pins s σ H x vs v us Q I rx rv h
 obtain ⟨l,xs,y,rfl,rfl,hH,hz,q⟩:=h
 cases rx
 obtain ⟨u,rfl,ru⟩:=rv.one
 obtain ⟨z,its,n,r,hl,e⟩:=I.zjQ hH
 refine call_meets F.slot_list_append ⟨_,e,rfl⟩ F.entry_list_append (F.args_list_append_2 _ _) (PySem.list_append l its.toArray n u (by rw[yal];ac_rfl)) ⟨e,?_⟩
 refine ⟨.non,_,I.lset (its':=its++[u]) hH e (by simp) (r.append (.cons ru .nil)) ?_,rfl,q⟩
 rw[yae,ybm]
 ac_rfl
noncomputable def zsQ:V->List V->Hp->VK->Prop:=fun x vs H Q=>∃ l b xs zs,x=.ref l/\vs=[.ref b]/\H l=some (.lst xs)/\H b=some (.lst zs)/\xs.length+zs.length<=sizeLine/\Q .non (upd H l (.lst (xs++zs)))
theorem zll:MtM X "list.extend" zsQ:=by
 intro pins s σ H x vs v us Q I rx rv h
 obtain ⟨l,b,xs,zs,rfl,rfl,hH,hB,hz,q⟩:=h
 cases rx
 obtain ⟨u,rfl,ru⟩:=rv.one
 cases ru
 obtain ⟨z,its,n,r,hl,e⟩:=I.zjQ hH
 obtain ⟨z2,its2,n2,r2,hl2,e2⟩:=I.zjQ hB
 have hsz:its.toArray.size+its2.toArray.size<=sizeLine:=by rw[yal,yal];ac_rfl
 have hlong:¬ (!its.toArray.isEmpty && Builtin.List.listTooLong (its.toArray.size+its2.toArray.size))=true:=by
  rw[zjR hsz,Bool.and_false]
  exact Bool.false_ne_true
 refine call_meets F.slot_list_extend ⟨_,e,rfl⟩ F.entry_list_extend (F.args_list_extend_2 _ _)
  (AutoSeq1.list_extend_list_list_0 l its.toArray n b its2.toArray n2 hlong (by rw[yal];ac_rfl) (by ac_rfl)) ⟨e,e2,?_⟩
 refine ⟨.non,_,I.lset (its':=its++its2) hH e (by simp) (r.append r2) ?_,rfl,q⟩
 rw[yae]
 ac_rfl
def zuR:R2:=fun x y H Q=>∃ l b xs zs,x=.ref l/\y=.ref b/\H l=some (.lst xs)/\H b=some (.lst zs)/\xs.length+zs.length<=sizeLine/\∀ p,H p=none->Q (.ref p) (upd H p (.lst (xs++zs)))
theorem zcc:OpR X (binaryOp .Add) zuR:=by
 intro pins s σ H x y v u Q I rx ry h
 obtain ⟨l,b,xs,zs,rfl,rfl,hH,hB,hz,q⟩:=h
 cases rx
 cases ry
 obtain ⟨z,its,n,r,hl,e⟩:=I.zjQ hH
 obtain ⟨z2,its2,n2,r2,hl2,e2⟩:=I.zjQ hB
 refine PySem.P.add_list e e2 ?_ (by rw[yal,yal];ac_rfl)
 have ea:its.toArray++its2.toArray=(its++its2).toArray:=by simp
 rw[ea]
 exact ⟨.ref _,_,I.lnew (t':=s.toks) (r.append r2) (by rw[yae];ac_rfl),rfl,q _ I.fresh⟩
def zuV:R2:=fun x y H Q=>∃ l k xs,x=.ref l/\y=.int k/\H l=some (.lst xs) /\ -(2 ^ 63)<=k/\k<2 ^ 63/\xs.length*k.toNat<=sizeLine /\
 ∀ p,H p=none->Q (.ref p) (upd H p (.lst (yam k.toNat xs).flatten))
theorem len_rep {α:Type} (xs:List α) (k:Nat):(yam k xs).flatten.length=k*xs.length:=by
 induction k with
 | zero=>simp
 | succ k ih=>rw[yce,ycp,yae,ih,Nat.succ_mul,Nat.add_comm]
theorem zpT:OpR X (binaryOp .Mult) zuV:=by
 intro pins s σ H x y v u Q I rx ry h
 obtain ⟨l,k,xs,rfl,rfl,hH,h1,h2,hz,q⟩:=h
 cases rx
 obtain ⟨t,rfl⟩:=ry
 obtain ⟨z,its,n,r,hl,e⟩:=I.zjQ hH
 have hlen:its.toArray.size*k.toNat<=sizeLine:=by rw[yal,<-hl];exact hz
 have hcap:¬ its.toArray.size*k.toNat > (2 ^ 63-1) / 8:=by
  have:(sizeLine:Nat)<=(2 ^ 63-1) / 8:=by decide
  ac_rfl
 have hfit:¬ (!Builtin.List.listFitsIndex k)=true:=by
  rw[fitsIndex_both h1 h2]
  exact Bool.false_ne_true
 have hlong:¬ Builtin.List.listTooLong (its.toArray.size*k.toNat)=true:=by
  rw[zjR hlen]
  exact Bool.false_ne_true
 have hnew:List.foldl (fun x1 x2=>x1++x2) #[] (yam (if its.toArray.isEmpty=true then 0 else k.toNat) its.toArray)=(yam k.toNat its).flatten.toArray:=by
  have f0:∀ m:Nat,List.foldl (fun x1 x2=>x1++x2) #[] (yam m its.toArray)=(yam m its).flatten.toArray:=fun m=>by
   have:=foldl_rep its m []
   rw[List.nil_append] at this
   exact this
  rw[f0]
  cases its with
  | nil=>simp
  | cons a r'=>rw[if_neg (by simp)]
 refine wpAny_binaryOp_repeat_ref (T:="list") (U:="int") (by decide) ⟨_,e,rfl⟩ (fun s'=>typeIs_int s' k t) noFill_list_mul F.fills_int_mul F.slot_int_rmul repeat_list F.slot_int_index.lookup
  (call_meets F.slot_int_rmul (typeIs_int s k t) F.entry_int_rmul (F.args_int_rmul_2 _ _) (int___rmul___int_list k t l its.toArray n)
   ⟨e,rfl,⟨_,e,rfl⟩,call_meets F.slot_list_mul ⟨_,e,rfl⟩ F.entry_list_mul (F.args_list_mul_2 _ _) (AutoListH.list___mul___list_int_3 l its.toArray n k t hfit hcap hlong) ⟨e,?_⟩⟩)
 rw[hnew]
 exact ⟨.ref _,_,I.lnew (t':=s.toks) (r.rep k.toNat) (by rw[len_rep,Nat.mul_comm];exact hz),rfl,q _ I.fresh⟩
end
section
variable {prog:Program} {w:World} {A:Around} {E:Value->Shared->Prop} {s:Shared}
set_option maxRecDepth 100000 in
end
section
variable {X:Cx}
end
end L2
namespace Att
open PySem PySem.W PySem.Calls PyProof.Rows
theorem zkd {P:Params} {h:Heap}:∀ (ns:List Int) (vs:List Value),WellAll P h vs (ns.map WData.int)->IntsAre vs ns:=by
 intro ns
 induction ns with
 | nil =>
  intro vs w
  rw[List.map_nil] at w
  cases w
  exact .nil
 | cons n ns ih =>
  intro vs w
  rw[ybs] at w
  cases w with
  | cons a b =>
   cases a
   exact .cons _ _ (ih _ b)
theorem zp5 {l:OpenLaw} {n:Nat} (hn:l.most=some n) {P:Params} {h:Heap} {args:List WData} {vals:List Value}
  (hpre:l.row.toRowW.claim.pre args=true) (hwl:WellAll P h vals args) :
  ∃ a vs ns,vals=[Value.ref a]/\args=[WData.list (ns.map WData.int)]/\h.get? a=some { cls:=.type "list", data:=.seq vs.toArray }/\IntsAre vs ns/\ns.length<=n:=by
 have hsh:WShape.hasAll [] args [.list .int]=true:=(pre_splitW hpre).1
 have hc:l.pre.holds [] { args:=args }=true:=(pre_splitW hpre).2
 obtain ⟨d,r,rfl,h1,h2⟩:=hasAllW_cons hsh
 obtain rfl:=hasAllW_nil h2
 obtain ⟨xs,rfl,h3⟩:=hasW_list h1
 obtain ⟨ns,rfl⟩:=items_int h3
 have hlen:ns.length<=n:=by
  unfold OpenLaw.pre at hc
  have h4:(WTm.not (.lt (.lit (.int (n:Int))) (.len (.arg 0)))).holds [] { args:=[.list (ns.map .int)] }=true:=by
   have h4:=(holds_andW hc).1
   rw[hn] at h4
   exact h4
  have h5:=condW_of h4 (w_not (w_lt w_lit (w_len_list (w_arg rfl))))
  rw[yab] at h5
  refine Nat.le_of_not_lt fun q=>?_
  have q':(n:Int)<((ns.length:Nat):Int):=by ac_rfl
  first
   | (rw[decide_eq_true q'] at h5;exact absurd h5 (by decide))
   | (simp at h5;ac_rfl)
 cases hwl with
 | cons w1 w2 =>
  cases w2
  cases w1 with
  | list ho hall=>exact ⟨_,_,ns,rfl,rfl,ho,zkd ns _ hall,hlen⟩
theorem zqI (l:OpenLaw) (args:List WData):l.row.toRowW.claim.post args (.bool true) args=true :=
 postW_of (r:=l.row.toRowW) (X:=(true == true))
  (show WShape.has [] (.bool true) .bool=true by first | rfl | decide | simp[WShape.has,WShape.arms,WShape.armsAll])
  (show (WTm.eq .res (.lit (.bool true))).value [] { args:=args,res:=some (.bool true),after:=args }=some (.bool (true == true)) from w_eq_bool (w_res rfl) w_lit) rfl
theorem zoj {l:OpenLaw} {n:Nat} {q:Program} {loose:List Str} {XP:(Str->Option Value)->Heap->Prop} {YP:World->Heap->Prop} {d:DefRec}
  (hn:l.most=some n) (hdf:d.params.defaults=[])
  (call:∀ (w:World) (s₀ s₁:Shared) (mg mb:Str->Option Value) (fa:Addr) (o:Obj) (pm cd doc:Value) (a:Addr) (vs:List Value) (ns:List Int),
   Ground q loose [] XP w s₀ mg mb s₁.heap->YP w s₁.heap ->
   s₁.heap.get? fa=some o->o.data=.func (docDef d.name d.params d.body d.scope pm cd doc)->s₁.heap.CodeRec cd d.name->mg d.name=some (.ref fa) ->
   s₁.heap.get? a=some { cls:=.type "list", data:=.seq vs.toArray }->IntsAre vs ns->ns.length<=n->s₁.gens=#[] ->
   codeAny (model l.prog w) callerA (.call (.ref fa) ⟨[.ref a],[]⟩) (fun r s'=>r=.ok (.ret (.bool true))/\OldK s₁.heap s'.heap/\s'.os=s₁.os/\AllBare s'.gens) s₁) :
  WalkO q loose XP YP l.row.toRowW d [] (fun f vs=>PySem.call f vs):=by
 intro w s₀ s₁ mg mb G Y fa o pm cd doc dV kV ho hd hcd hD hmg hg args vals as hpre hlay hrd hwl hlo
 obtain rfl:dV=.none:=Dflts.none hD hdf
 obtain rfl:kV=.none:=Dflts.noKw hD
 obtain ⟨a,vs,ns,rfl,rfl,hobj,hints,hlen⟩:=zp5 hn hpre hwl
 refine enter_call (codeAny_mono (call w s₀ s₁ mg mb fa o pm cd doc a vs ns G Y ho (fd_plain hd) hcd hmg hobj hints hlen hg) fun r s' hq=>?_)
 obtain ⟨rfl,h2,h3,h4⟩:=hq
 exact ⟨.inl ⟨.bool true,.bool true,[],rfl,fun _=>rfl,.bool true,zqI l _,fun _=>⟨List.Pairwise.nil,fun _ hm=>(nomatch hm)⟩⟩,h2,h3,h4⟩
section
variable {prog:Program} {w:World} {A:Around} {E:Value->Shared->Prop} {s:Shared} {K:Frag}
noncomputable def ledger (h:Heap) (L d:Addr):List (Addr × Obj):=(yaq h.objs.size).filterMap fun a=>if a=L\/a=d then none else (h.get? a).map fun o=>(a,o)
end
end Att
namespace L2
open PySem PySem.Spec PyProof.Rows
theorem zig:∀ {vs:List Value} {ns:List Int},IntsAre vs ns->Vals (ns.map V.int) vs
 | _,_,.nil=>.nil
 | _,_,.cons n t h=>.cons ⟨t,rfl⟩ (zig h)
def Only (H:Hp):Prop:=∀ b,H b=none\/∃ o xs,H b=some (.frz o (.lst xs))
theorem zqX {P:Program} {w:World} {K:W.Frag} {mg mb:Str->Option Value} {CX:CXT} {k:Nat} {fa a:Addr} {fd:FuncData} {x:Str} {sp:Sp} {s₁:Shared} {vs:List Value} {ns:List Int}
  (KX:K.In s₁.heap) (hns:s₁.heap.Ns mainGlobals mg) (hb:s₁.heap.Ns builtinsNs mb) (hbb:∀ x:Str,x ≠ "__name__" -> mb x=bootBuiltins x) (hlim:s₁.heap.NoLimit) (hg:s₁.gens=#[])
  (ha:s₁.heap.get? a=some { cls:=.type "list", data:=.seq vs.toArray }) (hi:IntsAre vs ns) (hl:ns.length<=sizeLine) (hr:Room k callerA)
  (F:∀ base:Heap,K.In base->base.Ns mainGlobals mg->zba P w K mg base CX k fa fd [x] sp) (hbind:∀ (s:Shared) (u:Value),BindsTo s fd ⟨[u],[]⟩ [(x,u)])
  (hsp:∀ H:Hp,Only H->SqL K H a (ns.map V.int)->sp [.ref a] H (fun v _=>v=.bl true) fun _ _ _=>False)
  (hCX:∀ H e s',CX [] H s₁ (fun _ _ _=>False) e s'->False) :
  codeAny (model P w) callerA (.call (.ref fa) ⟨[.ref a],[]⟩) (fun r s'=>r=.ok (.ret (.bool true))/\OldK s₁.heap s'.heap/\s'.os=s₁.os/\AllBare s'.gens) s₁:=by
 have rv:=zig hi
 have lenV:=hi.length
 have core:∀ H:Hp,Only H->SqL K H a (ns.map V.int)->HOk P w H s₁.heap->(∀ b,H b≠none->b=a)->(H a≠none->K.lookup a=none) ->
   codeAny (model P w) callerA (.call (.ref fa) ⟨[.ref a],[]⟩) (fun r s'=>r=.ok (.ret (.bool true))/\OldK s₁.heap s'.heap/\s'.os=s₁.os/\AllBare s'.gens) s₁:=by
  intro H hO hS hok hA hK
  have base_of:∀ {b:Addr} {o:Obj},s₁.heap.get? b=some o->H b=none->(zhM s₁.heap H).get? b=some o:=fun e n=>zra e n
  have noA:∀ {b:Addr} {o:Obj} {es:Array DictEntry} {ep:Nat},s₁.heap.get? b=some o->o.data=.dict es ep->H b=none:=fun {b o es ep} e d=>by
   cases q:H b with
   | none=>rfl
   | some u =>
    have e':b=a:=hA b (by rw[q];simp)
    subst e'
    rw[ha] at e;cases e
    have d':Data.seq vs.toArray _=Data.dict es ep:=d
    cases d'
  have nsK:∀ {b:Addr} {m:Str->Option Value},s₁.heap.Ns b m->(zhM s₁.heap H).Ns b m:=fun {b m} ⟨o,es,ep,e,d,r⟩=>⟨o,es,ep,base_of e (noA e d),d,r⟩
  have hKb:K.In (zhM s₁.heap H):=fun b o e=>base_of (KX b o e) (by
   cases q:H b with
   | none=>rfl
   | some u =>
    have e':b=a:=hA b (by rw[q];simp)
    subst e'
    rw[hK (by rw[q];simp)] at e;cases e)
  have hM:Mod K mg (zhM s₁.heap H):=⟨hKb,nsK hns,⟨mb,nsK hb,hbb⟩,let ⟨mc,h1,h2⟩:=hlim;⟨mc,nsK h1,h2⟩⟩
  have e0:zj1 P w K mg (zhM s₁.heap H) callerA [] s₁ H:=⟨rfl,hM,fun b o e=>zs7 e,Nat.le_of_eq (zqe _ _),trivial,fun b hb=>absurd (show b∈([]:List Addr) from hb) (by simp),hok,.of_eq hg⟩
  refine codeAny_mono ((F _ hKb (nsK hns)).run callerA [] s₁ H ⟨[.ref a],[]⟩ [.ref a] [.ref a] _ _ hr e0 (hbind s₁ (.ref a)) (.cons rfl .nil) (hsp H hO hS)) fun r s' h=>?_
  cases r with
  | error e=>exact (hCX H e s' h).elim
  | ok fl =>
   cases fl with
   | next=>exact False.elim h
   | brk=>exact False.elim h
   | cont=>exact False.elim h
   | ret u =>
    obtain ⟨v,H',os,bare,un,hok',r',q⟩:=h
    have q':v=.bl true:=q
    subst q'
    obtain rfl:u=Value.bool true:=r'
    refine ⟨rfl,OldK.of_keep fun b o e=>?_,os,bare⟩
    cases q:H b with
    | none=>exact un.keep b o e q (by intro z;exact absurd (show b∈([]:List Addr) from z) (by simp)) (by simp)
    | some u =>
     rcases hO b with z | ⟨ob,xs,z⟩
     ·rw[q] at z;cases z
     ·have z2:=un.frzs b ob _ z
      obtain ⟨e1,_⟩:=hok b _ z
      obtain ⟨e2,_⟩:=hok' b _ z2
      rw[e] at e1;cases e1
      exact e2
 cases hk:K.lookup a with
 | some o =>
  have e:=KX a o hk
  rw[ha] at e
  cases e
  refine core (fun _=>none) (fun _=>.inl rfl) (.inr ⟨_,vs.toArray,_,hk,rfl,rfl,rfl,by rw[yal,lenV];exact hl,by simpa using rv⟩) (fun b u z=>by have z':(none:Option HO)=some u:=z;cases z') (fun b z=>absurd rfl z) fun z=>absurd rfl z
 | none =>
  refine core (fun b=>if b=a then some (.frz { cls:=.type "list", data:=.seq vs.toArray } (.lst (ns.map V.int))) else none) (fun b=>?_) (.inl (.inr ⟨{ cls:=.type "list", data:=.seq vs.toArray },if_pos rfl⟩)) (fun b u z=>?_) (fun b z=>?_) fun _=>hk
  ·by_cases hb:b=a
   ·exact .inr ⟨_,_,if_pos hb⟩
   ·exact .inl (if_neg hb)
  ·by_cases hb:b=a
   ·have z':=(if_pos hb).symm.trans z
    cases z'
    subst hb
    exact ⟨ha,by rw[yab];exact hl,vs,_,rv,ha⟩
   ·have z':=(if_neg hb).symm.trans z
    cases z'
  ·by_cases hb:b=a
   ·exact hb
   ·exact absurd (if_neg hb) z
theorem zsS {l:PySem.W.OpenLaw} {n k:Nat} {q:Program} {loose:List Str} {XP:(Str->Option Value)->Heap->Prop} {YP:World->Heap->Prop} {d:DefRec} {K:Params->W.Frag} {CX:World->CXT} {sp:World->Sp} {x:Str}
  (hn:l.most=some n) (hn2:n<=sizeLine) (hdf:d.params.defaults=[]) (hr:Room k callerA)
  (hY:∀ (w:World) (h:Heap),YP w h->(K w.params).In h)
  (F:∀ (w:World) (mg:Str->Option Value) (fa:Addr) (h:Heap),(K w.params).In h->h.Ns mainGlobals mg->mg d.name=some (.ref fa) ->
   ∃ fd:FuncData,(∀ (s:Shared) (u:Value),BindsTo s fd ⟨[u],[]⟩ [(x,u)]) /\
    ∀ base:Heap,(K w.params).In base->base.Ns mainGlobals mg->zba l.prog w (K w.params) mg base (CX w) k fa fd [x] (sp w))
  (hsp:∀ (w:World) (H:Hp) (a:Addr) (ns:List Int),ns.length<=n->Only H->SqL (K w.params) H a (ns.map V.int)->sp w [.ref a] H (fun v _=>v=.bl true) fun _ _ _=>False)
  (hCX:∀ (w:World) (H:Hp) (s:Shared) (e:Value) (s':Shared),CX w [] H s (fun _ _ _=>False) e s'->False) :
  PySem.W.WalkO q loose XP YP l.row.toRowW d [] (fun f vs=>PySem.call f vs):=by
 refine Att.zoj hn hdf fun w s₀ s₁ mg mb fa o pm cd doc a vs ns G Y ho hd hcd hmg hobj hints hlen hg=>?_
 have KX:=hY w _ Y
 obtain ⟨fd,hb,hF⟩:=F w mg fa _ KX G.T.g hmg
 exact zqX KX G.T.g G.T.b G.T.builtins G.T.nolimit hg hobj hints (ydb hlen hn2) hr hF hb (fun H hO hS=>hsp w H a ns hlen hO hS) fun H e s'=>hCX w H s₁ e s'
noncomputable def inClass (s:Stmt) (j:Nat):Stmt:=match s with
 | .ClassDef _ _ _ body _ _ _ _ _ _ _=>body.getD j (.Pass ⟨0,0,0,0⟩)
 | _=>.Pass ⟨0,0,0,0⟩
noncomputable def zcs (s:Stmt):Arguments:=match s with
 | .FunctionDef _ a _ _ _ _ _ _ _ _=>a
 | _=>{ posonlyargs:=[],args:=[],vararg:=none,kwonlyargs:=[],kw_defaults:=[],kwarg:=none,defaults:=[] }
noncomputable def zaE (s:Stmt):List Stmt:=match s with
 | .FunctionDef _ _ b _ _ _ _ _ _ _=>b
 | _=>[]
noncomputable def zg (s:Stmt):Scope:=match s with
 | .FunctionDef _ _ _ _ _ _ sc _ _ _=>sc
 | _=>{ kind:=.function,names:=[],isGenerator:=false,isCoroutine:=false }
noncomputable abbrev CX0:CXT:=fun _ _ _ _ _ _=>False
noncomputable abbrev E0:XK:=fun _ _ _=>False
theorem zgn {X:Cx}:Passes CX0 X E0:=fun _ _ _ _ _ _ _ h=>h.elim
structure Fun (K:W.Frag) (x qual:Str) (st:Stmt) (f:Addr) (fd:FuncData):Prop where
 ex:∃ (oc:Value) (od:Option Addr) (kV doc pm:Value) (an:Option Addr) (cdv ct:Value) (osl:Array (Option Value)),
  fd=PySem.W.fnOf x qual (zcs st) (zaE st) (zg st) .none kV doc pm an cdv ct/\K.lookup f=some ⟨oc,od,.func fd,osl⟩/\PySem.W.codeIn K cdv qual=true
 kp:PySem.W.keepIn K (.ref f)=true
section
variable {P:Program} {w:World} {K:W.Frag} {mg:Str->Option Value} {base:Heap}
theorem Fun.ok {x qual:Str} {st:Stmt} {f:Addr} {fd:FuncData} {N ps:List Str} {k:Nat} {sp:Sp} (F:Fun K x qual st f fd) (S:zi N ps (zg st)) (len:∀ vs H Q E,sp vs H Q E->vs.length=ps.length)
  (hbody:∀ (cdv:Value) (A:Around) (outer:List Env) (s:Shared) (H:Hp) (vs:List V) (Q:VK) (E:XK),Room k (A.deeper (envOfC qual (zg st) s.heap.objs.size f cdv))->sp vs H Q E ->
   ∃ t,PSs (zaC CX0 P w K mg base N qual (zg st) f cdv A outer s H E).nox (zaE st) t/\t { nx:=fun _ H'=>Q .non H',rt:=Q } (start N vs) H):zba P w K mg base CX0 (k+1) f fd ps sp:=by
 obtain ⟨oc,od,kV,doc,pm,an,cdv,ct,osl,rfl,lk,hcd⟩:=F.ex
 refine zpq lk hcd S len fun A outer s H vs Q E hr hsp=>?_
 obtain ⟨t,h,q⟩:=hbody cdv A outer s H vs Q E hr hsp
 exact ⟨t,h.nox,q⟩
theorem zmj {x qual:Str} {st:Stmt} {f:Addr} {oc:Value} {od an:Option Addr} {osl:Array (Option Value)} {kV doc pm cdv ct:Value} (l:K.lookup f=some ⟨oc,od,.func (PySem.W.fnOf x qual (zcs st) (zaE st) (zg st) .none kV doc pm an cdv ct),osl⟩)
  (c:PySem.W.codeIn K cdv qual=true) (k:PySem.W.keepIn K (.ref f)=true):Fun K x qual st f (PySem.W.fnOf x qual (zcs st) (zaE st) (zg st) .none kV doc pm an cdv ct):=⟨⟨oc,od,kV,doc,pm,an,cdv,ct,osl,rfl,l,c⟩,k⟩
end
section
variable {X:Cx}
theorem pv (i:Nat) {x:Str} {pos:Pos} (hN:X.N[i]?=some x:=by rfl) (hv:Vis X.env.scope x:=by first | exact Or.inl rfl | exact Or.inr (Or.inl rfl) | exact Or.inr (Or.inr rfl)) (hd:(x == ("__debug__" : Str))=false:=by decide)
  (hcd:(x == ("__classdict__" : Str))=false:=by decide):PE X (.Name x pos) (ztP i):=ztZ hN hv hd hcd
end
theorem ztF {A B:Prop} (h:B):if false=true then A else B:=by
 rw[if_neg Bool.false_ne_true]
 exact h
theorem ztQ {A B:Prop} (h:A):if true=true then A else B:=by
 rw[if_pos rfl]
 exact h
def Same (H H':Hp):Prop:=∀ b o,H b=some o->H' b=some o
theorem Same.refl (H:Hp):Same H H:=fun _ _ h=>h
theorem Same.trans {H H1 H2:Hp} (a:Same H H1) (b:Same H1 H2):Same H H2:=fun c o h=>b c o (a c o h)
theorem Same.seq {K:W.Frag} {H H':Hp} {a:Addr} {xs:List V} (e:Same H H') (h:SqL K H a xs):SqL K H' a xs:=by
 rcases h with (h | ⟨o,h⟩) | h
 ·exact .inl (.inl (e _ _ h))
 ·exact .inl (.inr ⟨o,e _ _ h⟩)
 ·exact .inr h
theorem zX.swap {P:Program} {w:World} {H H':Hp} {h h':Heap} {a:Addr} {o:HO} (x:zX P w H h a o) (y:zX P w H' h' a o):zX P w H h' a o:=by
 induction o with
 | ins C dx fs=>exact ⟨x.1,y.2⟩
 | frz ob u ih=>exact ⟨y.1,ih x.2 y.2⟩
 | _=>exact y
theorem HOk.forget {P:Program} {w:World} {H H':Hp} {h h':Heap} (a:HOk P w H h) (b:HOk P w H' h') (s:Same H H'):HOk P w H h':=fun x o e=>(a x o e).swap (b x o (s x o e))
theorem Un.forget {fs ex:List Addr} {H H':Hp} {h h':Heap} (u:Un fs ex H H' h h'):Un fs ex H H h h' :=
 ⟨u.keep,u.slot,fun _ _ _ n _=>n,u.there,fun _ _ q=>q,fun _ _ _ q=>q,fun b ps q=>⟨#[],by rw[q];simp⟩⟩
theorem zba.forget {P:Program} {w:World} {K:W.Frag} {mg:Str->Option Value} {base:Heap} {CX:CXT} {k:Nat} {f:Addr} {fd:FuncData} {ps:List Str} {sp sp':Sp} (F:zba P w K mg base CX k f fd ps sp)
  (h:∀ vs H Q E,sp' vs H Q E->sp vs H (fun v H'=>Same H H'/\Q v H) E):zba P w K mg base CX k f fd ps sp' where
 len:=fun vs H Q E q=>F.len _ _ _ _ (h _ _ _ _ q)
 run:=fun A outer s H args us vs Q E hr e0 hb hv hs=>by
  refine codeAny_mono (F.run A outer s H args us vs _ E hr e0 hb hv (h _ _ _ _ hs)) fun r s' q=>?_
  cases r with
  | error e=>exact q
  | ok fl =>
   cases fl with
   | ret u =>
    obtain ⟨v,H',os,bare,un,hok,rv,sm,qv⟩:=q
    exact ⟨v,H,os,bare,un.forget,e0.hok.forget hok sm,rv,qv⟩
   | next=>exact q
   | brk=>exact q
   | cont=>exact q
structure Src (K:W.Frag) (mg:Str->Option Value) (x:Str) (st:Stmt) (ps:List Str):Prop where
 ex:∃ (f:Addr) (fd:FuncData),Fun K x x st f fd/\mg x=some (.ref f)/\∀ us:List Value,us.length=ps.length->bindArgs fd ⟨us,[]⟩=pure (ps.zip us)
structure Def (P:Program) (w:World) (K:W.Frag) (mg:Str->Option Value) (base:Heap) (k:Nat) (x:Str) (ps:List Str) (sp:Sp):Prop where
 ex:∃ (f:Addr) (fd:FuncData),zba P w K mg base CX0 k f fd ps sp/\mg x=some (.ref f)/\PySem.W.keepIn K (.ref f)=true/\(∀ us:List Value,us.length=ps.length->bindArgs fd ⟨us,[]⟩=pure (ps.zip us)) /\
  ∃ o,K.lookup f=some o/\o.data=.func fd
section
variable {P:Program} {w:World} {K:W.Frag} {mg:Str->Option Value} {base:Heap} {x:Str} {st:Stmt} {N ps:List Str} {k:Nat} {sp:Sp}
theorem Src.ok (S:Src K mg x st ps) (sc:zi N ps (zg st)) (len:∀ vs H Q E,sp vs H Q E->vs.length=ps.length)
  (hbody:∀ (f:Addr) (cdv:Value) (A:Around) (outer:List Env) (s:Shared) (H:Hp) (vs:List V) (Q:VK) (E:XK),Room k (A.deeper (envOfC x (zg st) s.heap.objs.size f cdv))->sp vs H Q E ->
   ∃ t,PSs (zaC CX0 P w K mg base N x (zg st) f cdv A outer s H E).nox (zaE st) t/\t { nx:=fun _ H'=>Q .non H',rt:=Q } (start N vs) H):Def P w K mg base (k+1) x ps sp:=by
 obtain ⟨f,fd,F,hm,hb⟩:=S.ex
 refine ⟨f,fd,F.ok sc len (fun cdv=>hbody f cdv),hm,F.kp,hb,?_⟩
 obtain ⟨oc,od,kV,doc,pm,an,cdv,ct,osl,e,lk,hcd⟩:=F.ex
 exact ⟨_,lk,rfl⟩
theorem Src.okF (S:Src K mg x st ps) (sc:zi N ps (zg st)) (len:∀ vs H Q E,sp vs H Q E->vs.length=ps.length)
  (hbody:∀ (f:Addr) (cdv:Value) (A:Around) (outer:List Env) (s:Shared) (H:Hp) (vs:List V) (Q:VK) (E:XK),Room k (A.deeper (envOfC x (zg st) s.heap.objs.size f cdv))->sp vs H Q E ->
   ∃ t,PSs (zaC CX0 P w K mg base N x (zg st) f cdv A outer s H E).nox (zaE st) t/\t { nx:=fun _ H'=>Same H H'/\Q .non H,rt:=fun v H'=>Same H H'/\Q v H } (start N vs) H):Def P w K mg base (k+1) x ps sp:=by
 obtain ⟨f,fd,F,hm,hb⟩:=S.ex
 have G:zba P w K mg base CX0 (k+1) f fd ps (fun vs H R E=>∃ Q,sp vs H Q E/\R=fun v H'=>Same H H'/\Q v H) :=
  F.ok sc (fun vs H R E ⟨Q,h,_⟩=>len vs H Q E h) fun cdv A outer s H vs R E hr ⟨Q,h,e⟩=>by
   subst e
   exact hbody f cdv A outer s H vs Q E hr h
 refine ⟨f,fd,G.forget fun vs H Q E h=>⟨Q,h,rfl⟩,hm,F.kp,hb,?_⟩
 obtain ⟨oc,od,kV,doc,pm,an,cdv,ct,osl,e,lk,hcd⟩:=F.ex
 exact ⟨_,lk,rfl⟩
theorem zA {h:Heap} {f:Addr} {oc:Value} {od an:Option Addr} {osl:Array (Option Value)} {kV doc pm cdv ct:Value} (X:K.In h) (G:h.Ns mainGlobals mg) (a:PySem.W.nsIn K mainGlobals x=some (some (.ref f)))
  (l:K.lookup f=some ⟨oc,od,.func (PySem.W.fnOf x x (zcs st) (zaE st) (zg st) .none kV doc pm an cdv ct),osl⟩) (c:PySem.W.codeIn K cdv x=true) (k:PySem.W.keepIn K (.ref f)=true)
  (hb:∀ us:List Value,us.length=ps.length->bindArgs (PySem.W.fnOf x x (zcs st) (zaE st) (zg st) .none kV doc pm an cdv ct) ⟨us,[]⟩=pure (ps.zip us)):Src K mg x st ps :=
 ⟨f,_,zmj l c k,PySem.W.mg_of X G a,hb⟩
theorem zfn {h:Heap} {i:Int} {t:Tok} (X:K.In h) (G:h.Ns mainGlobals mg) (a:PySem.W.nsIn K mainGlobals x=some (some (.int i t))):∃ t,mg x=some (.int i t):=⟨t,PySem.W.mg_of X G a⟩
end
theorem zqV {l:PySem.W.OpenLaw} {lv:Nat} {q:Program} {loose:List Str} {XP:(Str->Option Value)->Heap->Prop} {YP:World->Heap->Prop} {d:DefRec} {K:Params->W.Frag} {sp:W.Frag->Sp} {x:Str} {st:Stmt}
  (hn:l.most=some 63) (hdf:d.params.defaults=[]) (hnm:d.name = "law") (hr:Room lv callerA)
  (hY:∀ (w:World) (h:Heap),YP w h->(K w.params).In h)
  (F:∀ (w:World) (mg:Str->Option Value) (h:Heap),(K w.params).In h->h.Ns mainGlobals mg ->
   Src (K w.params) mg "law" st [x]/\∀ base:Heap,Def l.prog w (K w.params) mg base lv "law" [x] (sp (K w.params)))
  (hsp:∀ (K:W.Frag) (H:Hp) (a:Addr) (ns:List Int),ns.length<=63->SqL K H a (ns.map V.int)->sp K [.ref a] H (fun v _=>v=.bl true) fun _ _ _=>False) :
  PySem.W.WalkO q loose XP YP l.row.toRowW d [] (fun f vs=>PySem.call f vs):=by
 refine L2.zsS (n:=63) (k:=lv) (x:=x) (CX:=fun _=>CX0) (sp:=fun w=>sp (K w.params)) hn (by decide) hdf hr hY ?_ (fun w H a ns h1 h2 h3=>hsp (K w.params) H a ns h1 h3) fun _ _ _ _ _ z=>z
 intro w mg fa h KX G hmg
 obtain ⟨S,D⟩:=F w mg h KX G
 obtain ⟨f,fd,Fn,hm,hb⟩:=S.ex
 obtain ⟨oc,od,kV,doc,pm,an,cdv,ct,osl,e,lk,hcd⟩:=Fn.ex
 refine ⟨fd,fun s u=>.of_eq (hb [u] rfl),fun base _ _=>?_⟩
 obtain ⟨f',fd',ok,hm',_,_,o,lk',ho⟩:=(D base).ex
 rw[hnm,hm] at hmg
 rw[hm] at hm'
 cases hmg
 cases hm'
 rw[lk] at lk'
 cases lk'
 cases ho
 exact ok
section
variable {X:Cx} {x:Str} {p pos:Pos} {e:Expr} {es:List Expr} {t:TA} {j k:Nat} {ps:List Str} {sp:Sp}
theorem zt (D:Def X.prog X.w X.K X.mg X.base j x ps sp) (hr:Room k X.A) (ha:PA X (e::es) t) (hg:Gl X x:=by rfl) (hj:j<=k:=by decide) (hdb:(x == ("__debug__" : Str))=false:=by decide)
  (he:starEach (e::es) X.env=(false,eval e X.env)::starEach es X.env:=by rfl) (hpl:(backTo pos (starEach es X.env)).any (·.1)=false:=by rfl) :
  PE X (.Call (.Name x p) (e::es) [] pos) (zma sp [] E0 t):=by
 obtain ⟨f,fd,F,hm,hk,hb,_⟩:=D.ex
 exact zoT F (hr.mono hj) hg hm hk (.all hb) .nil zgn ha hdb he hpl
theorem zd0 {i:Int} (h:∃ t,X.mg x=some (.int i t)) (hg:Gl X x:=by rfl) (hd:(x == ("__debug__" : Str))=false:=by decide):PE X (.Name x pos) (tC (.int i)):=by
 obtain ⟨t,h⟩:=h
 exact zbE hg h ⟨t,rfl⟩ hd
theorem zgB:zbo X (.builtin "isinstance") (fun xs H Q=>∃ x t n b,xs=[x,.ty n]/\zcd X.K H x t/\PySem.W.kitOne X.K t (.type n)=some b/\Q (.bl b) H):=by
 intro pins s σ H xs us Q I r h
 obtain ⟨x,t,n,b,rfl,ty,e,q⟩:=h
 obtain ⟨u,w',rfl,rx,rn⟩:=vals2 r
 cases rn
 exact zlr I rx ty e fun tk=>⟨.bl b,H,I.tok tk,rfl,q⟩
end
theorem ifI {a b:Int} {A B:Prop} (h1:a=b->A) (h2:¬ a=b->B):if decide (V.int a=V.int b)=true then A else B:=by
 by_cases h:a=b
 ·rw[if_pos (by rw[h];simp)];exact h1 h
 ·rw[if_neg (by simpa using h)];exact h2 h
theorem ifD {p A B:Prop} [Decidable p] (h1:p->A) (h2:¬ p->B):if decide p=true then A else B:=by
 by_cases h:p
 ·rw[if_pos (by simpa using h)];exact h1 h
 ·rw[if_neg (by simpa using h)];exact h2 h
theorem dI {a b:Int}:decide (V.int a=V.int b)=decide (a=b):=by
 by_cases h:a=b <;> simp[h]
def zuC (t:TS):TS:=fun D σ H=>∃ Mid:St->Hp->Prop,t { D with nx:=Mid } σ H/\∀ σ' H',Mid σ' H'->D.nx σ' H'
theorem zu4 {X:Cx} {st:Stmt} {t:TS} (h:PS X st t):PS X st (zuC t):=by
 intro pins s σ H D I ⟨Mid,hq,hm⟩
 refine thn (h pins s σ H _ I hq) fun f s' q=>?_
 cases f with
 | next =>
  obtain ⟨σ',H',I',q⟩:=q
  exact ⟨σ',H',I',hm σ' H' q⟩
 | ret v=>exact q
 | brk=>exact q
 | cont=>exact q
theorem ty_int {K:W.Frag} {H:Hp} {x:V} (h:zcd K H x (.type "int")):∃ i,x=.int i:=by
 generalize e:Value.type "int" = t at h
 cases h with
 | int i=>exact ⟨i,rfl⟩
 | ins=>cases e
 | _=>injection e with e;exact absurd e (by decide)
theorem zs8 {K:W.Frag} {H:Hp} {i:Int} {T:String} (h:zcd K H (.int i) (.type T)):T = "int" := by
 cases h
 rfl
theorem noE {α:Type} {M:Model} {A:Around} {s:Shared} {t:Sem α} {Q:α->Shared->Prop} {E:Value->Shared->Prop} (h:wpAny M A t Q (fun _ _=>False) s):wpAny M A t Q E s:=wpAny_mono h (fun _ _ q=>q) fun _ _ z=>z.elim
section
variable {prog:Program} {w:World} {A:Around} {R:Result->Shared->Prop} {s:Shared}
theorem zqu {elt target iter:Expr} {scope:Scope} {pos:Pos} {it acc:Value} {env:Env} (I:Nat->Shared->Prop)
  (turn:∀ n s,I n s->wpAny (model prog w) A (pyNext it) (fun r s₁=>match r with
   | none=>R (.ok .next) s₁
   | some v=>wpAny (model prog w) A (letOwnedTupleGo target it v) (fun _ s₂=>wpAny (model prog w) A (assign target env v) (fun _ s₃=>wpAny (model prog w) A (eval elt env) (fun y s₄ =>
     wpAny (model prog w) A (call (.builtin "list.append") [acc,y]) (fun _ s₅=>∃ m,m<n/\I m s₅) (fun _ _=>False) s₄) (fun _ _=>False) s₃) (fun _ _=>False) s₂) (fun _ _=>False) s₁) (fun _ _=>False) s)
  (n:Nat) (h:I n s):codeAny (model prog w) A (.compLoop (.ListComp elt [⟨target,iter,[],0⟩] scope pos) 0 it acc env) R s:=by
 refine codeAny_loop rfl I (fun n s hI=>?_) n h
 show wpAny _ _ (Sem.onRaise (compTurn (.ListComp elt [⟨target,iter,[],0⟩] scope pos) 0 it acc env) _) _ _ s
 refine wpAny_noted (noE ?_)
 rw[compTurn_list1]
 refine wpAny_bind (wpAny_standAt (wpAny_bind (wpAny_mono (turn n s hI) (fun r s₁ h₁=>?_) fun _ _ z=>z)))
 cases r with
 | none=>exact wpAny_pure h₁
 | some v =>
  refine wpAny_bind (wpAny_mono h₁ (fun _ s₂ h₂=>?_) fun _ _ z=>z)
  refine wpAny_bind (wpAny_mono h₂ (fun _ s₃ h₃=>?_) fun _ _ z=>z)
  refine wpAny_bind (wpAny_bind (wpAny_mono h₃ (fun y s₄ h₄=>?_) fun _ _ z=>z))
  refine wpAny_bind (wpAny_mono h₄ (fun _ s₅ h₅=>?_) fun _ _ z=>z)
  exact wpAny_pure (wpAny_pure ⟨rfl,h₅⟩)
theorem znE {elt target iter c:Expr} {scope:Scope} {pos:Pos} {it acc:Value} {env:Env} (I:Nat->Shared->Prop)
  (turn:∀ n s,I n s->wpAny (model prog w) A (pyNext it) (fun r s₁=>match r with
   | none=>R (.ok .next) s₁
   | some v=>wpAny (model prog w) A (letOwnedTupleGo target it v) (fun _ s₂=>wpAny (model prog w) A (assign target env v) (fun _ s₃=>wpAny (model prog w) A (isTrue c env (eval c env)) (fun b s₄ =>
     if b=true then wpAny (model prog w) A (eval elt env) (fun y s₅ =>
      wpAny (model prog w) A (call (.builtin "list.append") [acc,y]) (fun _ s₆=>∃ m,m<n/\I m s₆) (fun _ _=>False) s₅) (fun _ _=>False) s₄
     else ∃ m,m<n/\I m s₄) (fun _ _=>False) s₃) (fun _ _=>False) s₂) (fun _ _=>False) s₁) (fun _ _=>False) s)
  (n:Nat) (h:I n s):codeAny (model prog w) A (.compLoop (.ListComp elt [⟨target,iter,[c],0⟩] scope pos) 0 it acc env) R s:=by
 refine codeAny_loop rfl I (fun n s hI=>?_) n h
 show wpAny _ _ (Sem.onRaise (compTurn (.ListComp elt [⟨target,iter,[c],0⟩] scope pos) 0 it acc env) _) _ _ s
 refine wpAny_noted (noE ?_)
 rw[compTurn_list]
 refine wpAny_bind (wpAny_standAt (wpAny_bind (wpAny_mono (turn n s hI) (fun r s₁ h₁=>?_) fun _ _ z=>z)))
 cases r with
 | none=>exact wpAny_pure h₁
 | some v =>
  refine wpAny_bind (wpAny_mono h₁ (fun _ s₂ h₂=>?_) fun _ _ z=>z)
  refine wpAny_bind (wpAny_mono h₂ (fun _ s₃ h₃=>?_) fun _ _ z=>z)
  simp only[List.forIn_cons,List.forIn_nil,if_true,bind_assoc,pure_bind]
  refine wpAny_bind (wpAny_mono h₃ (fun b s₄ h₄=>?_) fun _ _ z=>z)
  cases b with
  | true =>
   simp only[if_true] at h₄ ⊢
   refine wpAny_bind (wpAny_mono h₄ (fun y s₅ h₅=>?_) fun _ _ z=>z)
   refine wpAny_bind (wpAny_mono h₅ (fun _ s₆ h₆=>?_) fun _ _ z=>z)
   exact wpAny_pure ⟨rfl,h₆⟩
  | false =>
   simp only[Bool.false_eq_true,if_false] at h₄ ⊢
   exact wpAny_pure ⟨rfl,h₄⟩
end
noncomputable def zdK (sc:Scope) (env:Env):List (Str × Addr):=(sc.names.filterMap fun p=>if p.2 == .free then (env.cells.lookup p.1).map fun c=>(p.1,c) else none).reverse
structure Blk where
 C:Addr
 s:Shared
 H:Hp
 pn:List (Addr × Obj)
 ex:List Addr
noncomputable def Cx.block (X:Cx) (sc:Scope) (x:Str) (ix:List Nat) (b:Blk):Cx where
 prog:=X.prog
 w:=X.w
 K:=X.K
 mg:=X.mg
 base:=X.base
 A:=X.A
 N:=x::ix.map fun i=>X.N.getD i x
 s₀:=b.s
 H₀:=b.H
 env:=compEnvC sc (zdK sc X.env) b.C X.env
 outer:=X.stack
 stack:=X.stack
 ex:=b.ex
 fn:=fun _=>false
 calm:=X.calm
 pn:=b.pn
 xe:=fun _ _=>False
noncomputable def capts (σ:St) (ix:List Nat):St:=ix.map fun i=>σ.getD i none
def zr1 (X:Cx) (sc:Scope) (x:Str) (i:Nat):Prop :=
 (X.env.kindOf (X.N.getD i x)=some .cell\/X.env.kindOf (X.N.getD i x)=some .free)/\((relabel sc X.env).names.lookup (X.N.getD i x)=some .cell\/(relabel sc X.env).names.lookup (X.N.getD i x)=some .free) /\
  (zdK sc X.env).lookup (X.N.getD i x)=X.env.cells.lookup (X.N.getD i x)
noncomputable def zio (X:Cx) (sc:Scope) (x:Str):List Nat->Prop
 | []=>True
 | i::r=>zr1 X sc x i/\zio X sc x r
theorem zio.get {X:Cx} {sc:Scope} {x:Str}:∀ {ix:List Nat},zio X sc x ix->∀ i∈ix,zr1 X sc x i
 | [],_,_,h=>nomatch h
 | _::_,h,_,hi=>(yak.mp hi).elim (fun e=>e ▸ h.1) fun z=>zio.get h.2 _ z
noncomputable def zkx (cells:List (Str × Addr)):List (Str × Addr)->Prop
 | []=>True
 | p::r=>cells.lookup p.1=some p.2/\zkx cells r
theorem zkx.get {cells:List (Str × Addr)}:∀ {cl:List (Str × Addr)},zkx cells cl->∀ y c,cl.lookup y=some c->cells.lookup y=some c
 | [],_,_,_,h=>by simp at h
 | p::r,h,y,c,e=>by
  rw[List.lookup_cons] at e
  cases q:y == p.1 with
  | true =>
   rw[q] at e
   have e1:p.2=c:=Option.some.inj e
   rw[eq_of_beq q,<-e1]
   exact h.1
  | false =>
   rw[q] at e
   exact zkx.get h.2 y c e
noncomputable def zkw (cl:List (Str × Addr)):List (Str × NameKind)->Prop
 | []=>True
 | p::r=>(p.2=.cell\/p.2=.free->∃ c,cl.lookup p.1=some c)/\zkw cl r
theorem zkw.get {cl:List (Str × Addr)}:∀ {ns:List (Str × NameKind)},zkw cl ns->∀ p∈ns,p.2=.cell\/p.2=.free->∃ c,cl.lookup p.1=some c
 | [],_,_,h=>nomatch h
 | _::_,h,_,hp=>(yak.mp hp).elim (fun e=>e ▸ h.1) fun z=>zkw.get h.2 _ z
structure zeJ (X:Cx) (sc:Scope) (x:Str) (ix:List Nat):Prop where
 clos:closureFor sc X.env=pure (zdK sc X.env)
 cell:∀ y∈sc.names,y.2≠.cell
 kind:sc.kind=.function
 names:∀ y∈sc.names,y.2=.local->sc.names.lookup y.1=some .local
 var:sc.names.lookup x=some .local
 nd:(x::ix.map fun i=>X.N.getD i x).Nodup
 cap:zio X sc x ix
 sub:zkx X.env.cells (zdK sc X.env)
 has:zkw (zdK sc X.env) (relabel sc X.env).names
section
variable {X:Cx} {pins:List (Addr × Obj)} {σ:St} {H:Hp} {s:Shared} {sc:Scope} {x:Str} {ix:List Nat} {fp:List Addr}
theorem zrw (I:Inv X pins σ H s) (O:zeJ X sc x ix) (hf:∀ b∈fp,zcl X pins H b) (hx:∀ b∈fp,∃ o,s.heap.get? b=some o):(X.block sc x ix ⟨s.heap.objs.size,s,H,X.pn++pins,fp⟩).Ok where
 mod:=I.ok.mod
 kind:=O.kind
 glob:=I.ok.glob
 blt:=I.ok.blt
 above:=ycv _
 inj:=fun y z c h1 h2=>I.ok.inj y z c (O.sub.get y c h1) (O.sub.get z c h2)
 has:=fun y h=>by
  have h':(relabel sc X.env).names.lookup y=some .cell\/(relabel sc X.env).names.lookup y=some .free:=h
  rcases h' with h' | h'
  ·exact O.has.get _ (PySem.mem_of_lookup h') (.inl rfl)
  ·exact O.has.get _ (PySem.mem_of_lookup h') (.inr rfl)
 cab:=fun _ _ h=>absurd (show false=true from h) Bool.false_ne_true
 hd:=I.ok.hd
 frames:=I.ok.frames
 stk:=.inl rfl
 exf:=fun b hb=>by
  obtain ⟨o,e⟩:=hx b hb
  exact ⟨ycw (ydl e),fun y c h=>(hf b hb).2.2.2.2.1 y c (O.sub.get y c h)⟩
 bs:=I.bs
 bsz:=ydb I.ok.bsz I.sz
 noex:=fun b o e hb=>by
  rcases (hf b hb).2.2.2.1 with z | z
  ·exact I.ok.noex b o e z
  ·exact absurd (ycx (ydl e) (ydb I.ok.bsz z)) (yda _)
 exfs:=fun b hb z=>(yak.mp (I.zeI b z)).elim (hf b hb).2.1 (hf b hb).2.2.1
 funs:=I.stack
 frf:=I.zkN
theorem zlm {h₁:Heap} {m:Str->Option Value} {tk:Nat} (I:Inv X pins σ H s) (O:zeJ X sc x ix) (hf:∀ b∈fp,zcl X pins H b) (hx:∀ b∈fp,∃ o,s.heap.get? b=some o)
  (hn:h₁.Ns s.heap.objs.size m) (keep:∀ b o,s.heap.get? b=some o->h₁.get? b=some o) :
  Inv (X.block sc x ix ⟨s.heap.objs.size,s,H,X.pn++pins,fp⟩) [] (none::capts σ ix) H { s with heap:=h₁,toks:=tk }:=by
 refine ⟨zrw I O hf hx,rfl,I.bare,Un.kept keep,⟨m,hn,fun i y v e1 e2 _=>?_⟩,fun y c h=>?_,I.hok.fresh (ycv _),fun y c h=>I.freeC y c (O.sub.get y c h),fun p hp=>?_,I.hok.kept keep,?_⟩
 ·cases i with
  | zero=>cases e2
  | succ j =>
   have e1':(ix.map fun i=>X.N.getD i x)[j]?=some y:=e1
   have e2':(capts σ ix)[j]?=some (some v):=e2
   unfold capts at e2'
   rw[yaf] at e1' e2'
   cases q:ix[j]? with
   | none=>rw[q] at e1';cases e1'
   | some i =>
    rw[q] at e1' e2'
    have e3:X.N.getD i x=y:=Option.some.inj e1'
    have e4:σ.getD i none=some v:=Option.some.inj e2'
    obtain ⟨c1,c2,c3⟩:=O.cap.get i (yai q)
    rw[e3] at c1 c2 c3
    have e5:σ[i]?=some (some v):=by
     rw[yac] at e4
     cases z:σ[i]? with
     | none=>rw[z] at e4;cases e4
     | some a=>rw[z] at e4;exact congrArg some e4
    have hl:i<X.N.length:=by
     rw[<-I.len]
     exact (yad.mp e5).1
    have e6:X.N[i]?=some y:=by
     rw[yac,yaa hl] at e3
     rw[yaa hl]
     exact congrArg some e3
    obtain ⟨m0,_,l0⟩:=I.loc
    have vis:Vis X.env.scope y:=by
     rcases c1 with z | z
     ·exact .inr (.inl z)
     ·exact .inr (.inr z)
    obtain ⟨u,ru,lu⟩:=l0 i y v e6 e5 vis
    refine ⟨u,ru,?_⟩
    rcases lu with ⟨k,_⟩ | ⟨_,c,hc,o,ho,hd⟩
    ·rcases c1 with z | z
     ·rw[z] at k;cases k
     ·rw[z] at k;cases k
    ·exact .inr ⟨c2,c,c3.trans hc,o,keep c o ho,hd⟩
 ·obtain ⟨v,o,ho,hd⟩:=I.cell y c (O.sub.get y c h)
  exact ⟨v,o,keep c o ho,hd⟩
 ·have hp':p∈X.pn++pins:=by
   rcases yag.mp hp with z | z
   ·exact z
   ·cases z
  obtain ⟨e,n,ne,nf,d⟩:=I.pin p hp'
  exact ⟨keep _ _ e,n,ycw (ydl e),fun z=>(yak.mp (I.zeI _ z)).elim ne nf,d⟩
 ·show (none::capts σ ix).length=(x::ix.map fun i=>X.N.getD i x).length
  simp[capts]
theorem zkb {pins':List (Addr × Obj)} {σ':St} {H':Hp} {s':Shared} (I:Inv X pins σ H s) (hf:∀ b∈fp,zcl X pins H b) (J:Inv (X.block sc x ix ⟨s.heap.objs.size,s,H,X.pn++pins,fp⟩) pins' σ' H' s'):Inv X pins σ H' s' :=
 I.call' J.os J.base J.hok J.bare fun b hb=>⟨(hf b hb).2.2.2.1,(hf b hb).2.1,(hf b hb).2.2.2.2.1,(hf b hb).2.2.2.2.2⟩
theorem Inv.addpin {b:Addr} {o:Obj} (I:Inv X pins σ H s) (e:s.heap.get? b=some o) (hn:H b=none) (hL:b≠X.env.locals) (hf:b ∉ X.fs) (hd:∀ v,o.data≠.cell v):Inv X (pins++[(b,o)]) σ H s :=
 I.zkK fun p hp=>(yag.mp hp).elim (fun z=>I.pin p (yaj _ z)) fun z=>by
  have e':p=(b,o):=by simpa using z
  subst e'
  exact ⟨e,hn,hL,hf,hd⟩
end
def Turns (ix:List Nat) (te:TE) (σ:St) (J:It) (l:Addr) (R:Hp->Prop) (W:Nat->Nat->List V->Hp->Prop):Prop :=
 ∀ i m xs H',W i m xs H'->H' l=some (.lst xs)/\((J.stop i H'/\R H')\/(J.go i H'/\xs.length<sizeLine/\∀ x H2,J.yld i H' x H2 ->
  te (some x::capts σ ix) H2 fun v H3=>H3 l=some (.lst xs)/\∃ m',m'<m/\W (i+1) m' (xs++[v]) (upd H3 l (.lst (xs++[v])))))
def zr0 (ix:List Nat) (wi:TI) (te:TE):TE:=fun σ H Q=>wi σ H fun J H1=>∀ l,H1 l=none->∃ W:Nat->Nat->List V->Hp->Prop,(∃ m,W 0 m [] (upd H1 l (.lst [])))/\Turns ix te σ J l (Q (.ref l)) W
section
variable {X:Cx} {pins:List (Addr × Obj)} {σ:St} {H:Hp} {s:Shared} {sc:Scope} {x:Str} {ix:List Nat} {fp:List Addr} {elt iter:Expr} {te:TE} {wi:TI} {px pos:Pos}
theorem zlp {it:Addr} {tn:Nat->Heap->Prop} {J:It} {use:Option (Value->Sem Unit)} {Q:Value->Shared->Prop} {E:Value->Shared->Prop} (O:zeJ X sc x ix) (hel:∀ b,PE (X.block sc x ix b) elt te) (hc:X.calm=true)
  (I:Inv X pins σ H s) (T:Turn X.prog X.w X.K (.Name x px) J fp it tn) (st:tn 0 s.heap) (hf:∀ b∈fp,zcl X pins H b) (R:Addr->Hp->Prop)
  (h:∀ l,H l=none->∃ W:Nat->Nat->List V->Hp->Prop,(∃ m,W 0 m [] (upd H l (.lst [])))/\Turns ix te σ J l (R l) W)
  (fin:∀ l C m s' H',Inv X pins σ H' s'->s'.heap.Ns C m->zcl X pins H' C->R l H'->compPost (model X.prog X.w) X.A E use Q (.ref l) C (.ok .next) s') :
  wpAny (model X.prog X.w) X.A (newList []) (fun acc s₃=>wpAny (model X.prog X.w) X.A (newFunctionEnv sc X.env.globals (zdK sc X.env) [] X.env.qual none .none (some X.env)) (fun cenv s₄ =>
   codeAny (model X.prog X.w) X.A (.compStart (.ListComp elt [⟨.Name x px,iter,[],0⟩] sc pos) 0 (.ref it) acc { cenv with scope:=relabel sc X.env }) (compPost (model X.prog X.w) X.A E use Q acc cenv.locals) s₄) E s₃) E s:=by
 refine wpAny_newObj_type (wpAny_newFunctionEnv O.cell (by intro y hy;simp at hy) (fun h₁ hns hsb=>?_) O.kind)
 dsimp only at hns hsb ⊢
 have hl0:H s.heap.objs.size=none:=I.hok.fresh (ycv _)
 obtain ⟨W,⟨m0,w0⟩,tr⟩:=h s.heap.objs.size hl0
 have I3:Inv X pins σ (upd H s.heap.objs.size (.lst [])) { s with heap:=s.heap.push { cls:=.type "list", dict:=none,data:=.seq ([]:List Value).toArray } } :=
  I.laid (t':=s.toks) (fun b o e=>ydk _ e) (ycv _) ⟨ycz _,[],0,.nil,ydm _ rfl⟩
 have ofp:∀ b∈fp,∃ o,s.heap.get? b=some o:=fun b hb=>by
  obtain ⟨o,e,_⟩:=T.obj 0 _ st b hb
  exact ⟨o,e⟩
 generalize e3:s.heap.push { cls:=.type "list", dict:=none,data:=.seq ([]:List Value).toArray }=G at I3 hns hsb ⊢
 have ofp3:∀ b∈fp,∃ o,G.get? b=some o:=fun b hb=>by
  obtain ⟨o,e⟩:=ofp b hb
  exact ⟨o,by rw[<-e3];exact ydk _ e⟩
 have nl:∀ b∈fp,b≠s.heap.objs.size:=fun b hb=>by
  obtain ⟨o,e⟩:=ofp b hb
  exact ycw (ydl e)
 have hf3:∀ b∈fp,zcl X pins (upd H s.heap.objs.size (.lst [])) b:=fun b hb=>⟨by rw[zp (nl b hb)];exact (hf b hb).1,(hf b hb).2⟩
 have keep3:∀ b o,G.get? b=some o->h₁.get? b=some o:=fun b o e=>hsb.extBut b o (ycw (ydl e)) (ydk _ e)
 have stk:tn 0 h₁:=T.keep _ _ _ st fun b hb o e=>keep3 b o (by rw[<-e3];exact ydk _ e)
 have J0:=zlm (tk:=s.toks+([]:List (Str × Value)).length) I3 O hf3 ofp3 hns keep3
 have stat:∀ {H':Hp},(∀ b∈fp,H' b=none)->∀ b∈fp,zcl (X.block sc x ix ⟨G.objs.size,{ s with heap:=G },upd H s.heap.objs.size (.lst []),X.pn++pins,fp⟩) [] H' b:=fun hn b hb=>by
  obtain ⟨o,e⟩:=ofp3 b hb
  refine ⟨hn b hb,ycw (ydl e),fun z=>(yak.mp (I3.zeI _ z)).elim (hf b hb).2.1 (hf b hb).2.2.1,.inl hb,fun y c q=>(hf b hb).2.2.2.2.1 y c (O.sub.get y c q),fun p hp=>?_⟩
  have hp':p∈X.pn++pins:=by
   rcases yag.mp hp with z | z
   ·exact z
   ·cases z
  exact (hf b hb).2.2.2.2.2 p hp'
 have loop:∀ s4:Shared,s4={ s with heap:=h₁,toks:=s.toks+([]:List (Str × Value)).length } ->
   codeAny (model X.prog X.w) X.A (.compLoop (.ListComp elt [⟨.Name x px,iter,[],0⟩] sc pos) 0 (.ref it) (.ref s.heap.objs.size) (compEnvC sc (zdK sc X.env) G.objs.size X.env))
    (compPost (model X.prog X.w) X.A E use Q (.ref s.heap.objs.size) G.objs.size) s4:=by
  rintro s4 rfl
  refine zqu (fun n s'=>∃ i xs H' z,Inv (X.block sc x ix ⟨G.objs.size,{ s with heap:=G },upd H s.heap.objs.size (.lst []),X.pn++pins,fp⟩) [] (z::capts σ ix) H' s'/\tn i s'.heap/\(∀ b∈fp,H' b=none)/\W i n xs H') ?_ m0
   ⟨0,[],_,none,J0,stk,fun b hb=>(hf3 b hb).1,w0⟩
  rintro n s5 ⟨i,xs,H5,z,I5,st5,fr5,w5⟩
  obtain ⟨hl5,h5⟩:=tr i n xs H5 w5
  rcases h5 with ⟨stop,r5⟩ | ⟨go,hz,step⟩
  ·refine thn (T.done (X.block sc x ix ⟨G.objs.size,{ s with heap:=G },upd H s.heap.objs.size (.lst []),X.pn++pins,fp⟩) rfl rfl rfl hc i [] s5 _ H5 _ I5 (stat fr5) st5 stop) fun r s6 ⟨hr,I6⟩=>?_
   subst hr
   obtain ⟨m6,hn6,_⟩:=I6.loc
   refine fin _ _ m6 s6 H5 (zkb I3 hf3 I6) hn6 ?_ r5
   exact I3.zpw (ycv _) I6.free
  ·refine thn (T.item (X.block sc x ix ⟨G.objs.size,{ s with heap:=G },upd H s.heap.objs.size (.lst []),X.pn++pins,fp⟩) rfl rfl rfl hc i [] s5 _ H5 _ I5 (stat fr5) st5 go) fun r s6 ⟨u,hr,h6⟩=>?_
   subst hr
   refine thn h6 fun _ s7 ⟨y,H7,I7,r7,y7,st7,fr7⟩=>?_
   have I7':=I7.pinned (stat fr7) (T.obj _ _ st7)
   have lx:(relabel sc X.env).names.lookup x=some .local:=lookup_relabel_local O.var
   refine thn ((zay (i:=0) O.nd rfl (Or.inl lx) (Or.inr lx):PG (X.block sc x ix ⟨G.objs.size,{ s with heap:=G },upd H s.heap.objs.size (.lst []),X.pn++pins,fp⟩) (.Name x px) (zfk 0)) _ s7 _ H7 y u (fun σ' H'=>σ'=some y::capts σ ix/\H'=H7) I7' r7 ⟨rfl,rfl⟩) fun _ s8 ⟨σ8,H8,I8,e8,e8'⟩=>?_
   subst e8 e8'
   refine thn (hel _ _ s8 _ H8 _ I8 (step y H8 y7)) fun v9 s9 ⟨v,H9,I9,r9,hl9,m',hm,w9⟩=>?_
   refine thn (zbi _ s9 _ H9 (.ref s.heap.objs.size) [v] (.ref s.heap.objs.size) [v9] (fun _ H'=>H'=upd H9 s.heap.objs.size (.lst (xs++[v]))) I9 rfl (.cons r9 .nil) ⟨_,xs,v,rfl,rfl,hl9,hz,rfl⟩) fun _ s10 ⟨_,H10,I10,_,e10⟩=>?_
   subst e10
   refine ⟨m',hm,i+1,xs++[v],_,some y,I10.unpinned,T.keep _ _ _ st7 fun b hb o e=>(I10.pin (b,o) (yaj _ (yaj _ (zcv hb e)))).1,fun b hb=>?_,w9⟩
   obtain ⟨o,e,d⟩:=T.obj _ _ st7 b hb
   exact (I10.pin (b,o) (yaj _ (yaj _ (zcv hb e)))).2.1
 exact codeAny_compStart_list (loop _ rfl) (T.self _ 0 _ _ _ stk (loop _ rfl))
theorem zaM (O:zeJ X sc x ix) (hi:PI X (.Name x px) iter wi) (hel:∀ b,PE (X.block sc x ix b) elt te) (hc:X.calm=true:=by rfl) (hs:∀ v,foldedSetIterable iter X.env v=pure v:=by intro _;rfl) :
  PE X (.ListComp elt [⟨.Name x px,iter,[],0⟩] sc pos) (zr0 ix wi te):=by
 intro pins s σ H Q I h
 rw[eval_ListComp]
 refine wpAny_comprehension_free (use:=none) rfl hs O.clos O.kind O.names (thn (hi pins s σ H _ I h) fun xv s1 h1=>thn h1 fun itv s2 h2=>?_)
 obtain ⟨it,fp,tn,J,H2,e,I2,T,st2,f2,hq⟩:=h2
 subst e
 refine zlp O hel hc I2 T st2 f2 (fun l H'=>Q (.ref l) H') hq ?_
 intro l C m s' H' I' hn hf r
 refine ⟨m,hn,fun h' hb=>⟨.ref l,H',?_,rfl,r⟩⟩
 exact I'.turned (t':=s'.toks) (fun b o hne e=>hb.extBut b o hne e) hf.1 hf.2.1 hf.2.2.2.1 hf.2.2.2.2.1 hf.2.2.2.2.2
theorem zkJ {y:Str} {i:Nat} {py spos:Pos} (hN:X.N.Nodup) (hiy:X.N[i]?=some y) (hy:X.env.scope.names.lookup y=some .local) (O:zeJ X sc x ix) (hi:PI X (.Name x px) iter wi) (hel:∀ b,PE (X.block sc x ix b) elt te)
  (hc:X.calm=true:=by rfl) (hs:∀ v,foldedSetIterable iter X.env v=pure v:=by intro _;rfl) (hsw:swapsWith (.ListComp elt [⟨.Name x px,iter,[],0⟩] sc pos) (some (.Name y py)) spos.line X.env=pure true:=by rfl) :
  PS X (.Assign [.Name y py] (.ListComp elt [⟨.Name x px,iter,[],0⟩] sc pos) spos) (zmw (zr0 ix wi te) (zfk i)):=by
 intro pins s σ H D I h
 rw[exec_Assign_Name_used _ _ _ _ hsw]
 refine wpAny_bind (wpAny_standAt (wpAny_bind ?_))
 show wpAny _ X.A (do let _ <-comprehension (.ListComp elt [⟨.Name x px,iter,[],0⟩] sc pos) sc X.env _ (newList []) false (eval iter X.env) (some (assign (.Name y py) X.env))) _ _ s
 refine wpAny_bind (wpAny_mono (wpAny_comprehension_free (use:=some (assign (.Name y py) X.env)) (Q:=fun _ s'=>SP X pins D .next s') rfl hs O.clos O.kind O.names
  (thn (hi pins s σ H _ I h) fun xv s1 h1=>thn h1 fun itv s2 h2=>?_)) (fun _ s' hq=>wpAny_pure (wpAny_pure hq)) fun _ _ e=>e)
 obtain ⟨it,fp,tn,J,H2,e,I2,T,st2,f2,hq⟩:=h2
 subst e
 refine zlp O hel hc I2 T st2 f2 (fun l H'=>D.nx (σ.set i (some (.ref l))) H') hq ?_
 intro l C m s' H' I' hn hf r
 obtain ⟨o,es,ep,ho,hd,hr⟩:=id hn
 have Ip:=I'.addpin ho hf.1 hf.2.1 hf.2.2.1 (by intro v z;rw[hd] at z;cases z)
 refine thn ((zay (i:=i) hN hiy (Or.inl hy) (Or.inr hy):PG X (.Name y py) (zfk i)) _ s' σ H' (.ref l) (.ref l) (fun σ' H''=>σ'=σ.set i (some (.ref l))/\H''=H') Ip rfl ⟨rfl,rfl⟩) fun _ s'' ⟨σ'',H'',I'',e1,e2⟩=>?_
 subst e1 e2
 have pc:=(I''.pin (C,o) (yaj _ (yaj _ yao))).1
 refine ⟨m,⟨o,es,ep,pc,hd,hr⟩,fun h' hb=>⟨_,_,?_,r⟩⟩
 exact I''.unpinned.turned (t':=s''.toks) (fun b o hne e=>hb.extBut b o hne e) hf.1 hf.2.1 hf.2.2.2.1 hf.2.2.2.2.1 hf.2.2.2.2.2
end
def zjb (ix:List Nat) (tt:TT) (te:TE) (σ:St) (J:It) (l:Addr) (R:Hp->Prop) (W:Nat->Nat->List V->Hp->Prop):Prop :=
 ∀ i m xs H',W i m xs H'->H' l=some (.lst xs)/\((J.stop i H'/\R H')\/(J.go i H'/\xs.length<sizeLine/\∀ x H2,J.yld i H' x H2 ->
  tt (some x::capts σ ix) H2 fun b H3=>if b=true then te (some x::capts σ ix) H3 fun v H4=>H4 l=some (.lst xs)/\∃ m',m'<m/\W (i+1) m' (xs++[v]) (upd H4 l (.lst (xs++[v]))) else ∃ m',m'<m/\W (i+1) m' xs H3))
def zoL (ix:List Nat) (wi:TI) (tt:TT) (te:TE):TE:=fun σ H Q=>wi σ H fun J H1=>∀ l,H1 l=none->∃ W:Nat->Nat->List V->Hp->Prop,(∃ m,W 0 m [] (upd H1 l (.lst [])))/\zjb ix tt te σ J l (Q (.ref l)) W
section
variable {X:Cx} {pins:List (Addr × Obj)} {σ:St} {H:Hp} {s:Shared} {sc:Scope} {x:Str} {ix:List Nat} {fp:List Addr} {elt iter c:Expr} {te:TE} {tt:TT} {wi:TI} {px pos:Pos}
theorem zjp {it:Addr} {tn:Nat->Heap->Prop} {J:It} {use:Option (Value->Sem Unit)} {Q:Value->Shared->Prop} {E:Value->Shared->Prop} (O:zeJ X sc x ix) (htt:∀ b,PT (X.block sc x ix b) c tt) (hel:∀ b,PE (X.block sc x ix b) elt te) (hc:X.calm=true)
  (I:Inv X pins σ H s) (T:Turn X.prog X.w X.K (.Name x px) J fp it tn) (st:tn 0 s.heap) (hf:∀ b∈fp,zcl X pins H b) (R:Addr->Hp->Prop)
  (h:∀ l,H l=none->∃ W:Nat->Nat->List V->Hp->Prop,(∃ m,W 0 m [] (upd H l (.lst [])))/\zjb ix tt te σ J l (R l) W)
  (fin:∀ l C m s' H',Inv X pins σ H' s'->s'.heap.Ns C m->zcl X pins H' C->R l H'->compPost (model X.prog X.w) X.A E use Q (.ref l) C (.ok .next) s') :
  wpAny (model X.prog X.w) X.A (newList []) (fun acc s₃=>wpAny (model X.prog X.w) X.A (newFunctionEnv sc X.env.globals (zdK sc X.env) [] X.env.qual none .none (some X.env)) (fun cenv s₄ =>
   codeAny (model X.prog X.w) X.A (.compStart (.ListComp elt [⟨.Name x px,iter,[c],0⟩] sc pos) 0 (.ref it) acc { cenv with scope:=relabel sc X.env }) (compPost (model X.prog X.w) X.A E use Q acc cenv.locals) s₄) E s₃) E s:=by
 refine wpAny_newObj_type (wpAny_newFunctionEnv O.cell (by intro y hy;simp at hy) (fun h₁ hns hsb=>?_) O.kind)
 dsimp only at hns hsb ⊢
 have hl0:H s.heap.objs.size=none:=I.hok.fresh (ycv _)
 obtain ⟨W,⟨m0,w0⟩,tr⟩:=h s.heap.objs.size hl0
 have I3:Inv X pins σ (upd H s.heap.objs.size (.lst [])) { s with heap:=s.heap.push { cls:=.type "list", dict:=none,data:=.seq ([]:List Value).toArray } } :=
  I.laid (t':=s.toks) (fun b o e=>ydk _ e) (ycv _) ⟨ycz _,[],0,.nil,ydm _ rfl⟩
 have ofp:∀ b∈fp,∃ o,s.heap.get? b=some o:=fun b hb=>by
  obtain ⟨o,e,_⟩:=T.obj 0 _ st b hb
  exact ⟨o,e⟩
 generalize e3:s.heap.push { cls:=.type "list", dict:=none,data:=.seq ([]:List Value).toArray }=G at I3 hns hsb ⊢
 have ofp3:∀ b∈fp,∃ o,G.get? b=some o:=fun b hb=>by
  obtain ⟨o,e⟩:=ofp b hb
  exact ⟨o,by rw[<-e3];exact ydk _ e⟩
 have nl:∀ b∈fp,b≠s.heap.objs.size:=fun b hb=>by
  obtain ⟨o,e⟩:=ofp b hb
  exact ycw (ydl e)
 have hf3:∀ b∈fp,zcl X pins (upd H s.heap.objs.size (.lst [])) b:=fun b hb=>⟨by rw[zp (nl b hb)];exact (hf b hb).1,(hf b hb).2⟩
 have keep3:∀ b o,G.get? b=some o->h₁.get? b=some o:=fun b o e=>hsb.extBut b o (ycw (ydl e)) (ydk _ e)
 have stk:tn 0 h₁:=T.keep _ _ _ st fun b hb o e=>keep3 b o (by rw[<-e3];exact ydk _ e)
 have J0:=zlm (tk:=s.toks+([]:List (Str × Value)).length) I3 O hf3 ofp3 hns keep3
 have stat:∀ {H':Hp},(∀ b∈fp,H' b=none)->∀ b∈fp,zcl (X.block sc x ix ⟨G.objs.size,{ s with heap:=G },upd H s.heap.objs.size (.lst []),X.pn++pins,fp⟩) [] H' b:=fun hn b hb=>by
  obtain ⟨o,e⟩:=ofp3 b hb
  refine ⟨hn b hb,ycw (ydl e),fun z=>(yak.mp (I3.zeI _ z)).elim (hf b hb).2.1 (hf b hb).2.2.1,.inl hb,fun y c q=>(hf b hb).2.2.2.2.1 y c (O.sub.get y c q),fun p hp=>?_⟩
  have hp':p∈X.pn++pins:=by
   rcases yag.mp hp with z | z
   ·exact z
   ·cases z
  exact (hf b hb).2.2.2.2.2 p hp'
 have loop:∀ s4:Shared,s4={ s with heap:=h₁,toks:=s.toks+([]:List (Str × Value)).length } ->
   codeAny (model X.prog X.w) X.A (.compLoop (.ListComp elt [⟨.Name x px,iter,[c],0⟩] sc pos) 0 (.ref it) (.ref s.heap.objs.size) (compEnvC sc (zdK sc X.env) G.objs.size X.env))
    (compPost (model X.prog X.w) X.A E use Q (.ref s.heap.objs.size) G.objs.size) s4:=by
  rintro s4 rfl
  refine znE (fun n s'=>∃ i xs H' z,Inv (X.block sc x ix ⟨G.objs.size,{ s with heap:=G },upd H s.heap.objs.size (.lst []),X.pn++pins,fp⟩) [] (z::capts σ ix) H' s'/\tn i s'.heap/\(∀ b∈fp,H' b=none)/\W i n xs H') ?_ m0
   ⟨0,[],_,none,J0,stk,fun b hb=>(hf3 b hb).1,w0⟩
  rintro n s5 ⟨i,xs,H5,z,I5,st5,fr5,w5⟩
  obtain ⟨hl5,h5⟩:=tr i n xs H5 w5
  rcases h5 with ⟨stop,r5⟩ | ⟨go,hz,step⟩
  ·refine thn (T.done (X.block sc x ix ⟨G.objs.size,{ s with heap:=G },upd H s.heap.objs.size (.lst []),X.pn++pins,fp⟩) rfl rfl rfl hc i [] s5 _ H5 _ I5 (stat fr5) st5 stop) fun r s6 ⟨hr,I6⟩=>?_
   subst hr
   obtain ⟨m6,hn6,_⟩:=I6.loc
   refine fin _ _ m6 s6 H5 (zkb I3 hf3 I6) hn6 ?_ r5
   exact I3.zpw (ycv _) I6.free
  ·refine thn (T.item (X.block sc x ix ⟨G.objs.size,{ s with heap:=G },upd H s.heap.objs.size (.lst []),X.pn++pins,fp⟩) rfl rfl rfl hc i [] s5 _ H5 _ I5 (stat fr5) st5 go) fun r s6 ⟨u,hr,h6⟩=>?_
   subst hr
   refine thn h6 fun _ s7 ⟨y,H7,I7,r7,y7,st7,fr7⟩=>?_
   have I7':=I7.pinned (stat fr7) (T.obj _ _ st7)
   have lx:(relabel sc X.env).names.lookup x=some .local:=lookup_relabel_local O.var
   refine thn ((zay (i:=0) O.nd rfl (Or.inl lx) (Or.inr lx):PG (X.block sc x ix ⟨G.objs.size,{ s with heap:=G },upd H s.heap.objs.size (.lst []),X.pn++pins,fp⟩) (.Name x px) (zfk 0)) _ s7 _ H7 y u (fun σ' H'=>σ'=some y::capts σ ix/\H'=H7) I7' r7 ⟨rfl,rfl⟩) fun _ s8 ⟨σ8,H8,I8,e8,e8'⟩=>?_
   subst e8 e8'
   refine thn (htt _ _ s8 _ H8 _ I8 (step y H8 y7)) fun b s9 ⟨H9,I9,q9⟩=>?_
   have kp:∀ {σ0:St} {H0:Hp} {s0:Shared},Inv (X.block sc x ix ⟨G.objs.size,{ s with heap:=G },upd H s.heap.objs.size (.lst []),X.pn++pins,fp⟩) ([]++ziJ fp s7.heap) σ0 H0 s0->tn (i+1) s0.heap/\∀ b∈fp,H0 b=none:=fun {σ0 H0 s0} I0=>by
    refine ⟨T.keep _ _ _ st7 fun b hb o e=>(I0.pin (b,o) (yaj _ (yaj _ (zcv hb e)))).1,fun b hb=>?_⟩
    obtain ⟨o,e,d⟩:=T.obj _ _ st7 b hb
    exact (I0.pin (b,o) (yaj _ (yaj _ (zcv hb e)))).2.1
   cases b with
   | false =>
    rw[if_neg Bool.false_ne_true] at q9 ⊢
    obtain ⟨m',hm,w9⟩:=q9
    exact ⟨m',hm,i+1,xs,_,some y,I9.unpinned,(kp I9).1,(kp I9).2,w9⟩
   | true =>
    rw[if_pos rfl] at q9 ⊢
    refine thn (hel _ _ s9 _ H9 _ I9 q9) fun v9 s10 ⟨v,H10,I10,r10,hl10,m',hm,w10⟩=>?_
    refine thn (zbi _ s10 _ H10 (.ref s.heap.objs.size) [v] (.ref s.heap.objs.size) [v9] (fun _ H'=>H'=upd H10 s.heap.objs.size (.lst (xs++[v]))) I10 rfl (.cons r10 .nil) ⟨_,xs,v,rfl,rfl,hl10,hz,rfl⟩) fun _ s11 ⟨_,H11,I11,_,e11⟩=>?_
    subst e11
    exact ⟨m',hm,i+1,xs++[v],_,some y,I11.unpinned,(kp I11).1,(kp I11).2,w10⟩
 exact codeAny_compStart_list (loop _ rfl) (T.self _ 0 _ _ _ stk (loop _ rfl))
theorem zdb (O:zeJ X sc x ix) (hi:PI X (.Name x px) iter wi) (htt:∀ b,PT (X.block sc x ix b) c tt) (hel:∀ b,PE (X.block sc x ix b) elt te) (hc:X.calm=true:=by rfl) (hs:∀ v,foldedSetIterable iter X.env v=pure v:=by intro _;rfl) :
  PE X (.ListComp elt [⟨.Name x px,iter,[c],0⟩] sc pos) (zoL ix wi tt te):=by
 intro pins s σ H Q I h
 rw[eval_ListComp]
 refine wpAny_comprehension_free (use:=none) rfl hs O.clos O.kind O.names (thn (hi pins s σ H _ I h) fun xv s1 h1=>thn h1 fun itv s2 h2=>?_)
 obtain ⟨it,fp,tn,J,H2,e,I2,T,st2,f2,hq⟩:=h2
 subst e
 refine zjp O htt hel hc I2 T st2 f2 (fun l H'=>Q (.ref l) H') hq ?_
 intro l C m s' H' I' hn hf r
 refine ⟨m,hn,fun h' hb=>⟨.ref l,H',?_,rfl,r⟩⟩
 exact I'.turned (t':=s'.toks) (fun b o hne e=>hb.extBut b o hne e) hf.1 hf.2.1 hf.2.2.2.1 hf.2.2.2.2.1 hf.2.2.2.2.2
end
theorem ze {H:Hp} {p:Addr} (h:H p=none) (o:HO):Same H (upd H p o):=fun b u q=>by rw[zp (zN q h)];exact q
theorem zhH {ix:List Nat} {te:TE} {σ:St} {lo:Int} {n:Nat} {l:Addr} {H:Hp} {R:Hp->Prop} (P:Nat->V->Prop) (hl:H l=none) (hn:n<=sizeLine)
  (hel:∀ i H' Q',i<n->Same H H'->(∀ v,P i v->Q' v H')->te (some (.int (lo+i))::capts σ ix) H' Q') (fin:∀ xs:List V,xs.length=n->(∀ j v,xs[j]?=some v->P j v)->R (upd H l (.lst xs))) :
  ∃ W:Nat->Nat->List V->Hp->Prop,(∃ m,W 0 m [] (upd H l (.lst [])))/\Turns ix te σ (Itr lo n) l R W:=by
 refine ⟨fun i m xs H'=>m=n-i/\i<=n/\xs.length=i/\(∀ j v,xs[j]?=some v->P j v)/\H'=upd H l (.lst xs),⟨n,by simp,ycz _,rfl,(fun j v e=>by simp at e),rfl⟩,?_⟩
 rintro i m xs H' ⟨rfl,hi,hx,hp,rfl⟩
 refine ⟨zh,?_⟩
 by_cases hlt:i<n
 ·refine .inr ⟨hlt,by ac_rfl,fun x H2 y=>?_⟩
  obtain ⟨e,y⟩:=y
  subst e y
  refine hel i _ _ hlt (ze hl _) fun v hv=>⟨zh,n-(i+1),by ac_rfl,rfl,hlt,by rw[yae,hx] <;> rfl,fun j w e=>?_,by rw[zad]⟩
  by_cases hj:j<xs.length
  ·rw[yax hj] at e
   exact hp j w e
  ·by_cases hj2:j=xs.length
   ·subst hj2
    rw[yau (ycv _),ydj] at e
    have e':v=w:=Option.some.inj e
    subst e'
    rw[hx];exact hv
   ·rw[yap (by rw[yae,ybm];ac_rfl)] at e
    cases e
 ·have e:i=n:=by ac_rfl
  subst e
  exact .inl ⟨ycv _,fin xs hx hp⟩
section
variable {X:Cx}
theorem ziX:∀ {ns:List Int} {us:List Value},Vals (ns.map V.int) us->IntsAre us ns
 | [],_,.nil=>.nil
 | n::ns,_,.cons ⟨t,e⟩ r=>by
  subst e
  exact .cons n t (ziX r)
end
mutual
inductive RdV (K:W.Frag) (H:Hp):V->PyData->Prop
 | non:RdV K H .non .none
 | bl (b:Bool):RdV K H (.bl b) (.bool b)
 | int (i:Int):RdV K H (.int i) (.int i)
 | str (x:Str):RdV K H (.str x) (.str x)
 | lst {a:Addr} {xs:List V} {ds:List PyData}:SqL K H a xs->zfD K H xs ds->RdV K H (.ref a) (.list ds)
 | tup {a:Addr} {xs:List V} {ds:List PyData}:SqT K H a xs->zfD K H xs ds->RdV K H (.ref a) (.tuple ds)
inductive zfD (K:W.Frag) (H:Hp):List V->List PyData->Prop
 | nil:zfD K H [] []
 | cons {x:V} {d:PyData} {xs:List V} {ds:List PyData}:RdV K H x d->zfD K H xs ds->zfD K H (x::xs) (d::ds)
end
section
variable {X:Cx} {pins:List (Addr × Obj)} {σ:St} {H:Hp} {s:Shared} {pos:Pos}
mutual
theorem RdV.reads (I:Inv X pins σ H s):∀ {x:V} {d:PyData} {u:Value},RdV X.K H x d->RelV x u->∃ as,Reads s.heap u d as
 | _,_,_,.non,r=>by cases r;exact ⟨_,.none⟩
 | _,_,_,.bl b,r=>by cases r;exact ⟨_,.bool b⟩
 | _,_,_,.int i,r=>by obtain ⟨t,rfl⟩:=r;exact ⟨_,.int i t⟩
 | _,_,_,.str x,r=>by obtain ⟨t,rfl⟩:=r;exact ⟨_,.str x t⟩
 | _,_,_,.lst h hs,r=>by
  cases r
  obtain ⟨its,rv,pl,hz⟩:=I.list h
  obtain ⟨as,q⟩:=zfD.reads I hs rv
  obtain ⟨o,n,e,c,hd,dt⟩:=pl
  exact ⟨_,reads_list_at e c dt (by simpa using q)⟩
 | _,_,_,.tup h hs,r=>by
  cases r
  obtain ⟨its,rv,pl,hz⟩:=I.tuple h
  obtain ⟨as,q⟩:=zfD.reads I hs rv
  obtain ⟨o,e,c,n,dt⟩:=pl
  exact ⟨_,reads_tuple_at e c dt (by simpa using q)⟩
theorem zfD.reads (I:Inv X pins σ H s):∀ {xs:List V} {ds:List PyData} {us:List Value},zfD X.K H xs ds->Vals xs us->∃ as,ReadsAll s.heap us ds as
 | _,_,_,.nil,.nil=>⟨_,.nil⟩
 | _,_,_,.cons h hs,.cons r rs=>by
  obtain ⟨as,q⟩:=RdV.reads I h r
  obtain ⟨bs,q'⟩:=zfD.reads I hs rs
  exact ⟨_,.cons q q'⟩
end
def zuX (K:W.Frag):R2:=fun x y H Q=>∃ d e,RdV K H x d/\RdV K H y e/\SeqAt.shaped d=true/\SeqAt.shaped e=true/\Q (.bl (PyData.eqv d e)) H
def zu1 (K:W.Frag):R2:=fun x y H Q=>∃ d e,RdV K H x d/\RdV K H y e/\SeqAt.shaped d=true/\SeqAt.shaped e=true/\Q (.bl (!PyData.eqv d e)) H
theorem zpN (hu:X.A.units+64<cLine):OpR X (compareOp .Eq) (zuX X.K):=by
 intro pins s σ H x y v u Q I rx ry h
 obtain ⟨d,e,hd,he,sd,se,q⟩:=h
 obtain ⟨as,ra⟩:=hd.reads I rx
 obtain ⟨bs,rb⟩:=he.reads I ry
 exact eq_dataH ra rb sd se hu ⟨.bl _,H,I,rfl,q⟩
theorem ziI (hu:X.A.units+64<cLine):OpR X (compareOp .NotEq) (zu1 X.K):=by
 intro pins s σ H x y v u Q I rx ry h
 obtain ⟨d,e,hd,he,sd,se,q⟩:=h
 obtain ⟨as,ra⟩:=hd.reads I rx
 obtain ⟨bs,rb⟩:=he.reads I ry
 exact ne_dataH ra rb sd se hu ⟨.bl _,H,I,rfl,q⟩
end
noncomputable def kinds:List String:=["NoneType", "bool", "int", "str", "list", "tuple", "dict"]
theorem zsC {K:W.Frag} {T:String} (h:T∈kinds):PySem.W.kitOne K (.type T) (.type "int")=some (decide (T = "int" \/ T = "bool")):=by
 simp only[kinds,yak,ybt,or_false] at h
 rcases h with rfl | rfl | rfl | rfl | rfl | rfl | rfl <;> rfl
theorem zrr {K:W.Frag} {T:String} (h:T∈kinds):PySem.W.kitOne K (.type T) (.type "bool")=some (decide (T = "bool")):=by
 simp only[kinds,yak,ybt,or_false] at h
 rcases h with rfl | rfl | rfl | rfl | rfl | rfl | rfl <;> rfl
def zam (K:W.Frag) (H:Hp) (x:V) (T:String):Prop:=zcd K H x (.type T)/\T∈kinds
theorem zt9 {A B:Prop} (h:A):if (!false)=true then A else B:=ztQ (B:=B) h
theorem zud {A B:Prop} (h:B):if (!true)=true then A else B:=ztF (A:=A) h
theorem zuM {p A B:Prop} [Decidable p] (h1:¬ p->A) (h2:p->B):if (!decide p)=true then A else B:=by
 by_cases h:p
 ·rw[if_neg (by simpa using h)];exact h2 h
 ·rw[if_pos (by simpa using h)];exact h1 h
theorem zea {X:Cx} {a b v:Int} {j j':Nat} {p p' pos:Pos} (h:a ^ b.toNat=v) (hb:CPow a b):PE X (.BinOp (.Constant (.int a) j p) .Pow (.Constant (.int b) j' p') pos) (tC (.int v)):=by
 intro pins s σ H Q I hq
 exact zk ztM zd zd pins s σ H Q I ⟨_,_,rfl,rfl,hb,by show Q (V.int (a ^ b.toNat)) H;rw[h];exact hq⟩
theorem zX.get {P:Program} {w:World} {H:Hp} {h:Heap} {a:Addr} {o:HO} (x:zX P w H h a o):∃ u,h.get? a=some u:=by
 cases o with
 | lst xs=>obtain ⟨_,_,_,_,e⟩:=x;exact ⟨_,e⟩
 | tup xs=>obtain ⟨_,_,_,_,e,_⟩:=x;exact ⟨_,e⟩
 | dK kvs=>obtain ⟨_,_,_,_,_,_,_,e,_⟩:=x;exact ⟨_,e⟩
 | set S n=>obtain ⟨_,_,_,_,e,_⟩:=x;exact ⟨_,e⟩
 | ins C dx fs=>obtain ⟨_,_,_,e,_⟩:=x;exact ⟨_,e⟩
 | own y=>exact x
 | xd fs=>obtain ⟨_,⟨_,_,_,e,_⟩,_⟩:=x;exact ⟨_,e⟩
 | rng lo hi=>obtain ⟨_,_,_,e⟩:=x;exact ⟨_,e⟩
 | frz ob u=>obtain ⟨e,_⟩:=x;exact ⟨_,e⟩
 | tbl ps=>exact ⟨_,(show h.get? a=some _ from x)⟩
 | met f y=>exact ⟨_,(show h.get? a=some _ from x)⟩
 | ext φ=>obtain ⟨_,e,_⟩:=x;exact e
theorem HOk.gone {P:Program} {w:World} {H:Hp} {h:Heap} {a:Addr} (x:HOk P w H h) (e:h.get? a=none):H a=none:=by
 cases q:H a with
 | none=>rfl
 | some o =>
  obtain ⟨u,z⟩:=(x a o q).get
  rw[e] at z;cases z
structure ExcAt (g:Heap) (H:Hp) (h:Heap) (e:Addr) (C:Value):Prop where
 new:g.get? e=none
 free:H e=none
 ex:∃ oe vs T oT ts a0,h.get? e=some oe/\(oe.cls=C/\vs[0]?=some a0)/\oe.data=.fields vs/\vs[1]?=some (.ref T)/\(g.get? T=none/\H T=none)/\T≠e/\h.get? T=some oT/\oT.data=.fields ts/\ts[3]?=some .none
noncomputable def CXX (P:Program) (w:World):CXT:=fun outer H s E ev s'=>∃ e C H',ev=.ref e/\E C none H'/\s'.os=s.os/\AllBare s'.gens/\Un (frs outer) [] H H' s.heap s'.heap/\HOk P w H' s'.heap/\ExcAt s.heap H' s'.heap e C
structure Flew (X:Cx) (hid:List Addr) (h h':Heap):Prop where
 keep:∀ b o,h.get? b=some o->b ∉ frs X.stack->b ∉ hid->h'.get? b=some o
 slot:h.UpToSlots h'
section
variable {X:Cx} {pins:List (Addr × Obj)} {σ:St} {H:Hp} {s:Shared} {h':Heap} {hid:List Addr}
theorem Inv.zkf (I:Inv X pins σ H s) (F:Flew X hid s.heap h') (hh:∀ b∈hid,X.s₀.heap.get? b=none):Un X.fs X.ex X.H₀ H X.s₀.heap h' where
 keep:=fun b o q n hb hx=>F.keep b o (I.base.keep b o q n hb hx)
  (fun z=>(yak.mp (I.zeI b z)).elim (fun e=>absurd (ycx (ydl q) I.ok.above) (by rw[e];exact yda _)) hb) (fun z=>by rw[hh b z] at q;cases q)
 slot:=fun b o q n hb hx=>by
  obtain ⟨sl,e1⟩:=I.base.slot b o q n hb hx
  obtain ⟨_,o',ho',hd⟩:=I.funs.mem hb
  rw[e1] at ho';cases ho'
  obtain ⟨sl',e2⟩:=F.slot b _ e1 hd
  exact ⟨sl',e2⟩
 free:=I.base.free
 there:=fun b o q hx=>by
  obtain ⟨o',e1⟩:=I.base.there b o q hx
  by_cases z:b∈frs X.stack
  ·obtain ⟨_,o'',ho,hd⟩:=I.stack.mem z
   rw[e1] at ho;cases ho
   obtain ⟨sl,e2⟩:=F.slot b _ e1 hd
   exact ⟨_,e2⟩
  ·exact ⟨o',F.keep b o' e1 z (fun y=>by rw[hh b y] at q;cases q)⟩
 tups:=I.base.tups
 frzs:=I.base.frzs
 tbls:=I.base.tbls
theorem Inv.zji (I:Inv X pins σ H s) (F:Flew X hid s.heap h') (hf:∀ b∈hid,H b=none):HOk X.prog X.w H h':=fun a o q=>by
 refine (I.hok a o q).stay (fun b u hb r=>?_) (fun _ z=>z) fun _ _ z=>z
 have t:H b≠none:=by
  rcases hb with rfl | hb
  ·rw[q];exact fun z=>nomatch z
  ·rw[hb];exact fun z=>nomatch z
 exact F.keep b u r (fun z=>t (I.zkN b z)) fun z=>t (hf b z)
theorem zlt {h:Heap} {c:Addr} {v:Option Value} (F:h.UpToSlots h') (z:h.IsCell c v):h'.IsCell c v:=by
 obtain ⟨o,ho,hd⟩:=z
 obtain ⟨sl,e⟩:=F c o ho (fun vs q=>by rw[hd] at q;cases q)
 exact ⟨_,e,hd⟩
theorem Inv.flew (I:Inv X pins σ H s) (F:Flew X hid s.heap h') (hh:∀ b∈hid,X.s₀.heap.get? b=none/\H b=none/\∀ p∈X.pn++pins,p.1≠b):Inv X pins σ H { s with heap:=h' }:=by
 refine ⟨I.ok,I.os,I.bare,I.zkf F fun b hb=>(hh b hb).1,?_,fun x c e=>?_,I.free,I.freeC,fun p hp=>?_,I.zji F fun b hb=>(hh b hb).2.1,I.len⟩
 ·obtain ⟨m,hn,hl⟩:=I.loc
  refine ⟨m,F.slot.ns hn,fun i x v e1 e2 e3=>?_⟩
  obtain ⟨u,r,l⟩:=hl i x v e1 e2 e3
  refine ⟨u,r,?_⟩
  rcases l with l | ⟨k,c,e,z⟩
  ·exact .inl l
  ·exact .inr ⟨k,c,e,zlt F.slot z⟩
 ·obtain ⟨v,z⟩:=I.cell x c e
  exact ⟨v,zlt F.slot z⟩
 ·obtain ⟨e,n,ne,nf,d⟩:=I.pin p hp
  exact ⟨F.keep p.1 p.2 e (fun z=>(yak.mp (I.zeI _ z)).elim ne nf) (fun z=>(hh p.1 z).2.2 p hp rfl),n,ne,nf,d⟩
theorem zmz {B h'':Heap} {l:List Env} {e:Addr} {C a0:Value} (I:Inv X pins σ H s) (F:Flew X hid s.heap h'') (hB:∀ b o,s.heap.get? b=some o->b ∉ frs X.stack->b ∉ hid->B.get? b=some o)
  (fl:Heap.FlyingW B l e C a0 h'') (hh:∀ b∈hid,X.s₀.heap.get? b=none/\H b=none) (he:X.s₀.heap.get? e=none/\H e=none) (hex:∀ b,b ∉ X.ex):ExcAt X.s₀.heap H h'' e C:=by
 obtain ⟨_,_,_,oe,vs,T,oT,ts,h1,h2,h3,h4,h5,h6,h7,h8,h9⟩:=fl
 have key:∀ o,s.heap.get? T=some o->T∈hid:=fun o q=>by
  by_cases z:T∈hid
  ·exact z
  ·exfalso
   by_cases y:T∈frs X.stack
   ·obtain ⟨_,o',ho,hd⟩:=I.stack.mem y
    obtain ⟨sl,e2⟩:=F.slot T o' ho hd
    rw[h7] at e2;cases e2
    exact hd ts h8
   ·have:=hB T o q y z
    rw[h5] at this;cases this
 refine ⟨he.1,he.2,oe,vs,T,oT,ts,a0,h1,h2,h3,h4,⟨?_,?_⟩,h6,h7,h8,h9⟩
 ·cases q:X.s₀.heap.get? T with
  | none=>rfl
  | some o =>
   obtain ⟨o',e1⟩:=I.base.there T o q (hex T)
   rw[(hh T (key o' e1)).1] at q;cases q
 ·cases q:H T with
  | none=>rfl
  | some u =>
   obtain ⟨o',e1⟩:=(I.hok T u q).get
   rw[(hh T (key o' e1)).2] at q;cases q
end
section
variable {P:Program} {w:World} {K:W.Frag} {mg:Str->Option Value} {base:Heap} {N:List Str} {qual:Str} {scope:Scope} {f:Addr} {cd:Value} {A:Around} {outer:List Env} {s₀:Shared} {H₀:Hp} {E:XK}
theorem zkX {pins:List (Addr × Obj)} {σ:St} {H:Hp} {s:Shared} {h':Heap} {e:Addr} {C:Value} {vs:List Value} (I:Inv (zaC (CXX P w) P w K mg base N qual scope f cd A outer s₀ H₀ E) pins σ H s)
  (hx:Heap.MadeExcOf s.heap h' e C vs) (hE:E C none H):(zaC (CXX P w) P w K mg base N qual scope f cd A outer s₀ H₀ E).xe (.ref e) { s with heap:=h' }:=by
 refine wpAny_leaves_madeW (base:=PySem.W.hideAll s.heap (frs (zaC (CXX P w) P w K mg base N qual scope f cd A outer s₀ H₀ E).stack)) (h:=s.heap) (outer:=outer) (L:=s₀.heap.objs.size) I.ok.frames rfl (fun b o q=>PySem.W.of_hideAll _ q)
  (PySem.W.funFrames_hide I.stack fun env he a ha=>ych.mpr ⟨env,he,ha⟩) hx fun h'' t x1 x2 x3 x4=>?_
 have F:Flew (zaC (CXX P w) P w K mg base N qual scope f cd A outer s₀ H₀ E) [] s.heap h'':=⟨fun b o q n _=>x1.1 b o (PySem.W.hideAll_get _ q n),(Heap.UpToSlots.of_keeps hx.keeps).trans x4⟩
 refine ⟨e,C,H,rfl,hE,I.os,I.bare,I.zkf F (fun b z=>absurd z (by simp)),I.zji F (fun b z=>absurd z (by simp)),zmz I F (fun b o q n _=>PySem.W.hideAll_get _ q n) x1 (fun b z=>absurd z (by simp)) ⟨?_,I.hok.gone hx.new⟩ fun b z=>absurd (show b∈([]:List Addr) from z) (by simp)⟩
 cases q:s₀.heap.get? e with
 | none=>exact q
 | some o =>
  obtain ⟨o',e1⟩:=I.base.there e o q fun z=>absurd (show e∈([]:List Addr) from z) (by simp)
  rw[hx.new] at e1;cases e1
theorem zkF:Passes (CXX P w) (zaC (CXX P w) P w K mg base N qual scope f cd A outer s₀ H₀ E) E:=by
 intro pins σ H s ev s' I hc
 obtain ⟨e,C,H',rfl,hE,os,bare,un,hok,new,free,oe,vs,T,oT,ts,a0,h1,h2,h3,h4,h5,h6,h7,h8,h9⟩:=hc
 have I':Inv (zaC (CXX P w) P w K mg base N qual scope f cd A outer s₀ H₀ E) pins σ H' s':=I.call' os un hok bare (fun b z=>absurd z (by simp))
 have fresh:∀ b,s.heap.get? b=none->s₀.heap.get? b=none:=fun b z=>by
  cases q:s₀.heap.get? b with
  | none=>rfl
  | some o =>
   obtain ⟨o',e1⟩:=I.base.there b o q fun z=>absurd (show b∈([]:List Addr) from z) (by simp)
   rw[z] at e1;cases e1
 have me:e∈e::T::frs (zaC (CXX P w) P w K mg base N qual scope f cd A outer s₀ H₀ E).stack:=yao
 have mT:T∈e::T::frs (zaC (CXX P w) P w K mg base N qual scope f cd A outer s₀ H₀ E).stack:=yan _ yao
 refine wpAny_leaves_onW (base:=PySem.W.hideAll s'.heap (e::T::frs (zaC (CXX P w) P w K mg base N qual scope f cd A outer s₀ H₀ E).stack)) (outer:=outer) (L:=s₀.heap.objs.size) (cls:=C) (a0:=a0) I.ok.frames rfl
  ⟨fun b o q=>PySem.W.of_hideAll _ q,PySem.W.hideAll_none _ me,PySem.W.funFrames_hide I'.stack (fun env he a ha=>yan _ (yan _ (ych.mpr ⟨env,he,ha⟩))),
   oe,vs,T,oT,ts,h1,h2,h3,h4,PySem.W.hideAll_none _ mT,h6,h7,h8,h9⟩ fun h'' x1 x2=>?_
 have nm:∀ b,b ∉ frs (zaC (CXX P w) P w K mg base N qual scope f cd A outer s₀ H₀ E).stack->b ∉ [e,T]->b ∉ e::T::frs (zaC (CXX P w) P w K mg base N qual scope f cd A outer s₀ H₀ E).stack:=fun b n m z=>by
  rcases yak.mp z with z | z
  ·exact m (by rw[z];simp)
  ·rcases yak.mp z with z | z
   ·exact m (by rw[z];simp)
   ·exact n z
 have F:Flew (zaC (CXX P w) P w K mg base N qual scope f cd A outer s₀ H₀ E) [e,T] s'.heap h'':=⟨fun b o q n m=>x1.1 b o (PySem.W.hideAll_get _ q (nm b n m)),x2⟩
 have hh:∀ b∈[e,T],s₀.heap.get? b=none/\H' b=none:=fun b z=>by
  rcases yak.mp z with z | z
  ·subst z;exact ⟨fresh _ new,free⟩
  ·have z':b=T:=by simpa using z
   subst z';exact ⟨fresh _ h5.1,h5.2⟩
 exact ⟨e,C,H',rfl,hE,os.trans I.os,bare,I'.zkf F (fun b z=>(hh b z).1),I'.zji F (fun b z=>(hh b z).2),zmz I' F (fun b o q n m=>PySem.W.hideAll_get _ q (nm b n m)) x1 hh ⟨fresh _ new,free⟩ fun b z=>absurd (show b∈([]:List Addr) from z) (by simp)⟩
theorem zqm {X:Cx}:Passes (CXX P w) X E0:=fun _ _ _ _ _ _ _ ⟨_,_,_,_,hE,_⟩=>hE.elim
end
structure zaR (P:Program) (w:World) (K:W.Frag) (mg:Str->Option Value) (base:Heap) (k:Nat) (x:Str) (ps:List Str) (sp:Sp):Prop where
 ex:∃ (f:Addr) (fd:FuncData),zba P w K mg base (CXX P w) k f fd ps sp/\mg x=some (.ref f)/\PySem.W.keepIn K (.ref f)=true/\(∀ us:List Value,us.length=ps.length->bindArgs fd ⟨us,[]⟩=pure (ps.zip us))
theorem zba.zsA {P:Program} {w:World} {K:W.Frag} {mg:Str->Option Value} {base:Heap} {k:Nat} {f:Addr} {fd:FuncData} {ps:List Str} {sp sp':Sp} (F:zba P w K mg base (CXX P w) k f fd ps sp)
  (h:∀ vs H Q E,sp' vs H Q E->sp vs H (fun v H'=>Same H H'/\Q v H) (fun C d H'=>Same H H'/\E C d H)):zba P w K mg base (CXX P w) k f fd ps sp' where
 len:=fun vs H Q E q=>F.len _ _ _ _ (h _ _ _ _ q)
 run:=fun A outer s H args us vs Q E hr e0 hb hv hs=>by
  refine codeAny_mono (F.run A outer s H args us vs _ _ hr e0 hb hv (h _ _ _ _ hs)) fun r s' q=>?_
  cases r with
  | error e =>
   obtain ⟨e,C,H',rfl,⟨sm,hE⟩,os,bare,un,hok,new,free,oe,vs,T,oT,ts,a0,h1,h2,h3,h4,h5,h6,h7,h8,h9⟩:=q
   have back:∀ b,H' b=none->H b=none:=fun b z=>by
    cases q:H b with
    | none=>rfl
    | some o=>rw[sm b o q] at z;cases z
   exact ⟨e,C,H,rfl,hE,os,bare,un.forget,e0.hok.forget hok sm,new,back _ free,oe,vs,T,oT,ts,a0,h1,h2,h3,h4,⟨h5.1,back _ h5.2⟩,h6,h7,h8,h9⟩
  | ok fl =>
   cases fl with
   | ret u =>
    obtain ⟨v,H',os,bare,un,hok,rv,sm,qv⟩:=q
    exact ⟨v,H,os,bare,un.forget,e0.hok.forget hok sm,rv,qv⟩
   | next=>exact q
   | brk=>exact q
   | cont=>exact q
section
variable {P:Program} {w:World} {K:W.Frag} {mg:Str->Option Value} {base:Heap} {x:Str} {st:Stmt} {N ps:List Str} {k:Nat} {sp:Sp}
theorem Src.okX (S:Src K mg x st ps) (sc:zi N ps (zg st)) (len:∀ vs H Q E,sp vs H Q E->vs.length=ps.length)
  (hbody:∀ (f:Addr) (cdv:Value) (A:Around) (outer:List Env) (s:Shared) (H:Hp) (vs:List V) (Q:VK) (E:XK),Room k (A.deeper (envOfC x (zg st) s.heap.objs.size f cdv))->sp vs H Q E ->
   ∃ t,PSs (zaC (CXX P w) P w K mg base N x (zg st) f cdv A outer s H E) (zaE st) t/\t { nx:=fun _ H'=>Q .non H',rt:=Q } (start N vs) H):zaR P w K mg base (k+1) x ps sp:=by
 obtain ⟨f,fd,F,hm,hb⟩:=S.ex
 have kp:=F.kp
 obtain ⟨oc,od,kV,doc,pm,an,cdv,ct,osl,rfl,lk,hcd⟩:=F.ex
 exact ⟨f,_,zpq lk hcd sc len (hbody f cdv),hm,kp,hb⟩
theorem Src.zpv (S:Src K mg x st ps) (sc:zi N ps (zg st)) (len:∀ vs H Q E,sp vs H Q E->vs.length=ps.length)
  (hbody:∀ (f:Addr) (cdv:Value) (A:Around) (outer:List Env) (s:Shared) (H:Hp) (vs:List V) (Q:VK) (E:XK),Room k (A.deeper (envOfC x (zg st) s.heap.objs.size f cdv))->sp vs H Q E ->
   ∃ t,PSs (zaC (CXX P w) P w K mg base N x (zg st) f cdv A outer s H (fun C d H'=>Same H H'/\E C d H)) (zaE st) t/\t { nx:=fun _ H'=>Same H H'/\Q .non H,rt:=fun v H'=>Same H H'/\Q v H } (start N vs) H):zaR P w K mg base (k+1) x ps sp:=by
 obtain ⟨f,fd,F,hm,hb⟩:=S.ex
 have kp:=F.kp
 obtain ⟨oc,od,kV,doc,pm,an,cdv,ct,osl,rfl,lk,hcd⟩:=F.ex
 have G:zba P w K mg base (CXX P w) (k+1) f _ ps (fun vs H R E'=>∃ Q E,sp vs H Q E/\R=(fun v H'=>Same H H'/\Q v H)/\E'=fun C d H'=>Same H H'/\E C d H) :=
  zpq lk hcd sc (fun vs H R E' ⟨Q,E,h,_⟩=>len vs H Q E h) fun A outer s H vs R E' hr ⟨Q,E,h,e1,e2⟩=>by
   subst e1 e2
   exact hbody f cdv A outer s H vs Q E hr h
 exact ⟨f,_,G.zsA fun vs H Q E h=>⟨Q,E,h,rfl,rfl⟩,hm,kp,hb⟩
end
section
variable {X:Cx} {x:Str} {p pos:Pos} {e:Expr} {es:List Expr} {t:TA} {j k:Nat} {ps:List Str} {sp:Sp}
theorem zbh {E:XK} (D:zaR X.prog X.w X.K X.mg X.base j x ps sp) (hr:Room k X.A) (hx:Passes (CXX X.prog X.w) X E) (ha:PA X (e::es) t) (hg:Gl X x:=by rfl) (hj:j<=k:=by decide) (hdb:(x == ("__debug__" : Str))=false:=by decide)
  (he:starEach (e::es) X.env=(false,eval e X.env)::starEach es X.env:=by rfl) (hpl:(backTo pos (starEach es X.env)).any (·.1)=false:=by rfl) :
  PE X (.Call (.Name x p) (e::es) [] pos) (zma sp [] E t):=by
 obtain ⟨f,fd,F,hm,hk,hb⟩:=D.ex
 exact zoT F (hr.mono hj) hg hm hk (.all hb) .nil hx ha hdb he hpl
end
noncomputable def bmV:List Value:=[.type "ValueError", .type "Exception", .type "BaseException", .type "object"]
noncomputable def cA (K:W.Frag) (x:Str):Addr:=match PySem.W.nsIn K mainGlobals x with
 | some (some (.ref C))=>C
 | _=>0
theorem zbj {K:W.Frag} {x:Str} {C:Addr} (e:PySem.W.nsIn K mainGlobals x=some (some (.ref C))):cA K x=C:=by unfold cA;rw[e]
structure XK1 (K:W.Frag) (C:Addr):Prop where
 ga:PySem.W.findIn K (.ref C) "__getattribute__" = some (some (.builtin "BaseException.__getattribute__"))
 gh:PySem.W.findIn K (.ref C) "__getattr__" = some none
 cl:PySem.W.findIn K (.ref C) "__class__" = some (some (.builtin "object.__class__"))
 gt:PySem.W.specialIn K (.builtin "object.__class__") "__get__" = some (some (.builtin "getset_descriptor.__get__"))
 tk:PySem.W.takesIn K (.builtin "object.__class__")=some true
 ob:PySem.W.mroIn K C (.type "object")=some true
 be:PySem.W.subIn K (.ref C) (.type "BaseException")=some true
structure XK2 (K:W.Frag) (C:Addr):Prop where
 ok:PySem.W.excIn K C bmV "ValueError.__new__" = true
theorem zsy {K:W.Frag} {h:Heap} {C:Addr} {bmB:List Value} {newId:String} (X:K.In h) (q:PySem.W.excIn K C bmB newId=true) :
  ∃ bm N nm qn bs hdct sn sub ab col dd k0 k1 k2 k3 k5 mN,h.get? C=some (excClassObj nm qn C N bs bm hdct sn sub ab col dd k0 k1 k2 k3 k5 newId)/\h.Ns N mN/\mN "__init__" = none/\OwnTail h bmB bm:=by
 unfold PySem.W.excIn at q
 split at q
 ·rename_i dd cd sl ho
  split at q
  ·rename_i C' bm k0 k1 k2 k3 n k5 hm hs
   simp only[Bool.and_eq_true,Bool.not_eq_true',beq_iff_eq] at q
   obtain ⟨⟨⟨⟨⟨e1,e2⟩,hdel⟩,ht⟩,hok⟩,hni⟩:=q
   subst e1 e2
   obtain ⟨nm,bs,mro,ns,qn,hd,sn,sub,ab,col,del⟩:=cd
   dsimp only at hm hdel hok hni
   subst hm hdel
   obtain ⟨l⟩:=sl
   have hl:l=[k0,k1,k2,k3,some (.builtin n),k5]:=hs
   subst hl
   exact ⟨bm,ns,nm,qn,bs,hd,sn,sub,ab,col,dd,k0,k1,k2,k3,k5,_,X _ _ ho,.of_isNs (PySem.W.isNs_of_in X hok),PySem.W.nsMap_none_of_in X hok hni,PySem.W.tail_of_in X ht⟩
  ·cases q
 ·cases q
section
variable {X:Cx} {x:Str} {np cpos pos:Pos} {e0:Expr} {rest:List Expr} {t:TA} {E:XK}
def ztN (C:Addr) (E:XK) (t:TA):TS:=fun _ σ H=>t σ H fun vs H1=>vs.length<=sizeLine/\E (.ref C) none H1
theorem zjE (hm:X.mg x=some (.ref (cA X.K x))) (xk:XK2 X.K (cA X.K x)) (hE:∀ pins σ H s h' e vs,Inv X pins σ H s->Heap.MadeExcOf s.heap h' e (.ref (cA X.K x)) vs->E (.ref (cA X.K x)) none H->X.xe (.ref e) { s with heap:=h' })
  (ha:PA X (e0::rest) t) (hc:X.calm=true:=by rfl) (hg:Gl X x:=by rfl) (hd:(x == ("__debug__" : Str))=false:=by decide) (he:starEach (e0::rest) X.env=(false,eval e0 X.env)::starEach rest X.env:=by rfl)
  (hpl:(backTo cpos (starEach rest X.env)).any (·.1)=false:=by rfl):PS X (.Raise (some (.Call (.Name x np) (e0::rest) [] cpos)) none pos) (ztN (cA X.K x) E t):=by
 intro pins s σ H D I h
 obtain ⟨bm,N,nm,qn,bs,hdct,sn,sub,ab,col,dd,k0,k1,k2,k3,k5,mN,hC,hN,hni,T⟩:=zsy I.ok.mod.kin xk.ok
 refine wpAny_Raise_call_subT (C:=cA X.K x) (nm:=nm) (q:=qn) (N:=N) (bs:=bs) (bm:=bm) (hdct:=hdct) (sn:=sn) (sub:=sub) (ab:=ab) (col:=col) (dd:=dd) (k0:=k0) (k1:=k1) (k2:=k2) (k3:=k3) (k5:=k5)
  PySem.F.excBase_ValueError (mN:=mN) (T.hasType PySem.F.excBase_ValueError.hasBase) (I.ok.hd hc) (by rw[he];show (false || (backTo cpos (starEach rest X.env)).any (·.1))=false;rw[hpl];rfl) hni (zde I hg hm ⟨rfl,?_⟩ hd)
 have h2:=ha cpos pins s σ H _ I h
 rw[he] at h2 ⊢
 refine Calls.evalArgs_plain (thn h2 fun us s1 hq=>?_)
 obtain ⟨vs,H1,I1,r,hz,hE1⟩:=hq
 exact ⟨rfl,by rw[<-r.length];exact hz,I1.bk _ _ hC,hN.keeps I1.bk,T.keeps I1.bk,fun h' e hx=>hE pins σ H1 s1 h' e us I1 hx hE1⟩
end
noncomputable def zbT (e:Addr) (C:Value):HO:=.ext fun h=>∃ o vs,h.get? e=some o/\o.cls=C/\o.data=.fields vs
section
open PySem.Builtin PySem.Builtin.ObjectAttr PySem.Builtin.Getset_descriptor
variable {prog:Program} {w:World} {A:Around} {E:Value->Shared->Prop} {s:Shared} {K:W.Frag} {e C:Addr} {oe:Obj}
theorem xtype {M:Model} {h:Heap} (hx:h.get? e=some oe) (hc:oe.cls=.ref C):PySem.W.Looks M h (typeOf (.ref e)) (.ref C):=hc ▸ (PySem.W.Looks.ld hx).andThen .now
theorem zpe {R:Result->Shared->Prop} {tp:Value} (X:K.In s.heap) (hx:s.heap.get? e=some oe) (hc:oe.cls=.ref C) (hm:PySem.W.mroIn K C (.type "object")=some true) (h:R (.ok (.ret (.ref C))) s) :
  codeAny (model prog w) A (.call (.builtin "getset_descriptor.__get__") ⟨[.builtin "object.__class__", .ref e,tp],[]⟩) R s:=by
 obtain ⟨hh,g,dr,t,os⟩:=s
 have M0:=xtype (M:=model prog w) hx hc
 have M1:=PySem.W.looks_mroIn (M:=model prog w) X hm
 refine codeAny_call_builtin PySem.W.KF.slot_gs.plain PySem.W.KF.entry_gs (PySem.W.KF.slot_gs.check _ _ _ _ _ _ _ _ PySem.W.KF.type_class (PySem.W.KF.args_gs _ _ _) ?_)
 unfold Builtin.«getset_descriptor.__get__» descrGet
 rw[PySem.W.dga_obj]
 refine wpAny_bind (wpAny_pure ?_)
 unfold descrGetter descrCheckInstance descrNameAndClass isInstance
 simp only[PySem.W.KF.owner_class]
 repeat lk
 refine ⟨Code.quiet_builtin _ (by decide +kernel),codeAny_builtin PySem.W.KF.entry_class ?_⟩
 unfold Builtin.«object.__class__» shownTypeOf
 repeat lk
 exact h
theorem xfind {M:Model} {h:Heap} (X:K.In h) (Z:XK1 K C):PySem.W.Looks M h (find (.ref e) (.ref C) "__class__") (.bind (.builtin "getset_descriptor.__get__") (.builtin "object.__class__")):=by
 intro A Q E s k q
 have X':=X.keeps k
 obtain ⟨hh,g,d,t,os⟩:=s
 have L1:=PySem.W.looks_findIn (M:=M) X' Z.cl
 have L2:=PySem.W.looks_specialIn (M:=M) X' Z.gt
 have L3:=PySem.W.looks_takesIn (M:=M) X' Z.tk
 unfold find
 refine wpAny_bind (L1.at (wpAny_bind (L2.at (wpAny_bind (wpAny_bind (L3.at ?_))))))
 repeat lk
 exact q
theorem zn0 {Q:Option Value->Shared->Prop} (X:K.In s.heap) (Z:XK1 K C) (hx:s.heap.get? e=some oe) (hc:oe.cls=.ref C) (h:Q (some (.ref C)) { s with toks:=s.toks+1 }) :
  wpAny (model prog w) A (getAttr? (.ref e) "__class__") Q E s:=by
 obtain ⟨hh,g,d,t,os⟩:=s
 have L0:=xtype (M:=model prog w) hx hc
 have L1:=PySem.W.looks_findIn (M:=model prog w) X Z.ga
 have L2:=PySem.W.looks_findIn (M:=model prog w) X Z.gh
 have L3:=xfind (M:=model prog w) (e:=e) X Z
 have L4:=PySem.W.looks_subIn (M:=model prog w) X Z.be
 have hk:builtinKind "BaseException.__getattribute__" = some .slot:=by decide +kernel
 have hsplit:splitId "BaseException.__getattribute__" = some ("BaseException", "__getattribute__"):=by decide +kernel
 unfold getAttr? getAttrBy? getAttrBy
 refine wpAny_bind (wpAny_mkText (wpAny_bind (wpAny_attempt (wpAny_holding (wpAny_bind (L0.at (wpAny_bind (L1.at ?_))))))))
 have hne:(Value.builtin "BaseException.__getattribute__" == Value.builtin "object.__getattribute__")=false:=by decide +kernel
 dsimp only
 rw[if_neg (by rw[hne,Bool.and_false];exact Bool.false_ne_true)]
 unfold getAttrByItsOwn hookBefore
 rw[if_pos (show onTheHeap (Value.ref C)=true from rfl)]
 refine wpAny_bind (L2.at ?_)
 refine wpAny_bind (wpAny_attempt (wpAny_holding ?_))
 unfold callGetattribute boundAndCalled
 rw[if_neg (show ¬ (false && onTheHeap (Value.builtin "BaseException.__getattribute__"))=true from Bool.false_ne_true)]
 refine wpAny_bind (wpAny_of_eq (PySem.F.attr_ValueError.ga.bind (.ref e)) ?_)
 refine wpAny_call (codeAny_call_builtin PySem.F.attr_ValueError.ga.plain PySem.F.entry_bexc_ga ?_)
 have ha:=F.args_bexc_ga (.ref e) (.str "__class__" t)
 simp only[checkBuiltinCall,hk,hsplit]
 unfold isInstance
 repeat (any_goals (first | with_reducible refine PySem.W.Looks.at (by assumption) ?_ | wp_step))
 refine zpe (s:=⟨hh,g,d,t+1,os⟩) X hx hc Z.ob (wpAny_pure ?_)
 show wpAny _ _ (handedOut (.ref C)) _ _ _
 repeat (any_goals (first | assumption | wp_step))
end
section
variable {K:W.Frag} {e C:Addr}
theorem zkl {v:Value} {b:Bool} (h:PySem.W.mroIn K C v=some b):∃ c d cd sl,K.lookup C=some ⟨c,d,.cls cd,sl⟩:=by
 unfold PySem.W.mroIn PySem.W.clsIn at h
 obtain ⟨cd,hc,_⟩:=Option.bind_eq_some_iff.mp h
 split at hc
 ·rename_i c d cd' sl ho
  exact ⟨c,d,cd',sl,ho⟩
 ·cases hc
theorem zq9 (Z:XK1 K C):PySem.W.KitX K (.ref e) (.ref C) (fun h=>∃ o vs,h.get? e=some o/\o.cls=.ref C/\o.data=.fields vs) where
 ty:=fun M h X p=>by
  obtain ⟨o,vs,h1,h2,_⟩:=p
  exact xtype h1 h2
 it:=fun M h X _=>by
  obtain ⟨c,d,cd,sl,ho⟩:=zkl Z.ob
  intro A Q E s k q
  unfold isType loadHead
  exact wpAny_bind (wpAny_loadPart (k _ _ (X _ _ ho)) (wpAny_pure q))
 ne:=fun h tp dd its n sl X htp=>by
  obtain ⟨c,d,cd,sl',ho⟩:=zkl Z.ob
  refine Bool.eq_false_iff.mpr fun q=>?_
  have e:C=tp:=Value.ref.inj (beq_iff_eq.mp q)
  subst e
  have z:=(X _ _ ho).symm.trans htp
  cases z
 ca:=fun X p k=>by
  obtain ⟨o,vs,h1,h2,_⟩:=p
  exact zn0 X Z h1 h2 k
end
section
variable {X:Cx}
end
noncomputable abbrev Cx.held (X:Cx) (e:Addr):Cx:={ X with A:=X.A.mark (some (.ref e)),calm:=false,xe:=fun _ _=>False }
section
variable {X:Cx} {pins:List (Addr × Obj)} {σ:St} {H:Hp} {s:Shared} {e:Addr}
theorem Inv.held (I:Inv X pins σ H s) (e:Addr):Inv (X.held e) pins σ H s :=
 ⟨⟨I.ok.mod,I.ok.kind,I.ok.glob,I.ok.blt,I.ok.above,I.ok.inj,I.ok.has,I.ok.cab,fun z=>(Bool.false_ne_true z).elim,I.ok.frames,I.ok.stk,I.ok.exf,I.ok.bs,I.ok.bsz,I.ok.noex,I.ok.exfs,I.ok.funs,I.ok.frf⟩,
  I.os,I.bare,I.base,I.loc,I.cell,I.free,I.freeC,I.pin,I.hok,I.len⟩
theorem Inv.unheld (ok:X.Ok) (I:Inv (X.held e) pins σ H s):Inv X pins σ H s:=⟨ok,I.os,I.bare,I.base,I.loc,I.cell,I.free,I.freeC,I.pin,I.hok,I.len⟩
theorem Inv.track {o:HO} (I:Inv X pins σ H s) (hn:H e=none) (h0:X.s₀.heap.get? e=none) (hL:e≠X.env.locals) (hC:∀ x c,X.env.cells.lookup x=some c->c≠e) (hp:∀ p∈X.pn++pins,p.1≠e)
  (new:zX X.prog X.w (upd H e o) s.heap e o):Inv X pins σ (upd H e o) s:=by
 refine ⟨I.ok,I.os,I.bare,⟨I.base.keep,I.base.slot,fun b u q n hx=>?_,I.base.there,fun b xs q=>?_,fun b u v q=>?_,fun b ps q=>?_⟩,I.loc,I.cell,?_,fun x c q=>?_,fun p q=>?_,fun b u q=>?_,I.len⟩
 ·rw[zp (fun z=>by rw[z,h0] at q;cases q)]
  exact I.base.free b u q n hx
 ·have z:=I.base.tups b xs q
  rw[zp (zN z hn)];exact z
 ·have z:=I.base.frzs b u v q
  rw[zp (zN z hn)];exact z
 ·obtain ⟨more,z⟩:=I.base.tbls b ps q
  exact ⟨more,by rw[zp (zN z hn)];exact z⟩
 ·rw[zp (Ne.symm hL)];exact I.free
 ·rw[zp (hC x c q)];exact I.freeC x c q
 ·obtain ⟨a,b,c,d,f⟩:=I.pin p q
  exact ⟨a,by rw[zp (hp p q)];exact b,c,d,f⟩
 ·by_cases hb:b=e
  ·subst hb
   rw[zh] at q;cases q
   exact new
  ·rw[zp hb] at q
   exact (I.hok b u q).stay (fun _ _ _ z=>z) (fun c z=>by rw[zp (zN z hn)];exact z) fun c xs z=>by rw[zp (zN z hn)];exact z
theorem Inv.zqC {h':Heap} {m':Str->Option Value} {t':Nat} (I:Inv X pins σ H s) (hn:h'.Ns X.env.locals m') (hs:Heap.SameBut X.env.locals s.heap h'):Inv X pins (yam X.N.length none) H { s with heap:=h',toks:=t' }:=by
 have neL:∀ b o,X.s₀.heap.get? b=some o->b≠X.env.locals:=fun b o q=>ycw (ycx (ydl q) I.ok.above)
 refine ⟨I.ok,I.os,I.bare,⟨fun b o q n hb hx=>(hs.2 b (neL b o q)).trans (I.base.keep b o q n hb hx),fun b o q n hb hx=>?_,I.base.free,fun b o q hx=>?_,I.base.tups,I.base.frzs,I.base.tbls⟩,⟨m',hn,fun i x v e1 e2 e3=>?_⟩,fun x c q=>?_,I.free,I.freeC,fun p hp=>?_,fun a o q=>?_,by rw[ycj]⟩
 ·obtain ⟨sl,e1⟩:=I.base.slot b o q n hb hx
  exact ⟨sl,(hs.2 b (neL b o q)).trans e1⟩
 ·obtain ⟨o',e1⟩:=I.base.there b o q hx
  exact ⟨o',(hs.2 b (neL b o q)).trans e1⟩
 ·rw[yco] at e2
  split at e2 <;> cases e2
 ·obtain ⟨v,o,ho,hd⟩:=I.cell x c q
  exact ⟨v,o,(hs.2 c (I.cne x c q)).trans ho,hd⟩
 ·obtain ⟨a,b,c,d,f⟩:=I.pin p hp
  exact ⟨(hs.2 p.1 c).trans a,b,c,d,f⟩
 ·refine (I.hok a o q).stay (fun b u hb r=>(hs.2 b ?_).trans r) (fun _ z=>z) fun _ _ z=>z
  intro z
  have t:H b≠none:=by
   rcases hb with rfl | hb
   ·rw[q];exact fun z=>nomatch z
   ·rw[hb];exact fun z=>nomatch z
  exact t (by rw[z];exact I.free)
end
section
variable {K:W.Frag} {h:Heap} {mg:Str->Option Value} {x y:Str} {C D:Addr} {v:Bool} {n:String}
theorem zcO (X:K.In h) (a:PySem.W.nsIn K mainGlobals x=some (some (.ref C))):PySem.W.nsIn K mainGlobals x=some (some (.ref C)):=a
theorem zgG (X:K.In h) (G:h.Ns mainGlobals mg) (a:PySem.W.nsIn K mainGlobals x=some (some (.ref C))):mg x=some (.ref (cA K x)):=by
 rw[zbj a];exact PySem.W.mg_of X G a
theorem zrW (a:PySem.W.nsIn K mainGlobals x=some (some (.ref C))) (q:PySem.W.excIn K C [.type "ValueError", .type "Exception", .type "BaseException", .type "object"] "ValueError.__new__" = true):XK2 K (cA K x):=by
 rw[zbj a];exact ⟨q⟩
theorem zsb (a:PySem.W.nsIn K mainGlobals x=some (some (.ref C))) (q1:PySem.W.findIn K (.ref C) "__getattribute__" = some (some (.builtin "BaseException.__getattribute__"))) (q2:PySem.W.findIn K (.ref C) "__getattr__" = some none)
  (q3:PySem.W.findIn K (.ref C) "__class__" = some (some (.builtin "object.__class__"))) (q4:PySem.W.specialIn K (.builtin "object.__class__") "__get__" = some (some (.builtin "getset_descriptor.__get__")))
  (q5:PySem.W.takesIn K (.builtin "object.__class__")=some true) (q6:PySem.W.mroIn K C (.type "object")=some true) (q7:PySem.W.subIn K (.ref C) (.type "BaseException")=some true):XK1 K (cA K x):=by
 rw[zbj a];exact ⟨q1,q2,q3,q4,q5,q6,q7⟩
theorem zhk (a:PySem.W.nsIn K mainGlobals x=some (some (.ref C))) (b:PySem.W.nsIn K mainGlobals y=some (some (.ref D))) (q:PySem.W.kitOne K (.ref C) (.ref D)=some v):PySem.W.kitOne K (.ref (cA K x)) (.ref (cA K y))=some v:=by
 rw[zbj a,zbj b];exact q
theorem zoF (a:PySem.W.nsIn K mainGlobals x=some (some (.ref C))) (q:PySem.W.kitOne K (.ref C) (.type n)=some v):PySem.W.kitOne K (.ref (cA K x)) (.type n)=some v:=by
 rw[zbj a];exact q
theorem zqN (a:PySem.W.nsIn K mainGlobals x=some (some (.ref C))) (b:PySem.W.nsIn K mainGlobals y=some (some (.ref D))) (q1:PySem.W.subIn K (.ref D) (.type "BaseException")=some true)
  (q2:PySem.W.isClsIn K D=true) (q3:PySem.W.typeIn K (.ref D)=some (.type "type")) (q4:PySem.W.subIn K (.ref C) (.ref D)=some true):PySem.W.exmOne K (.ref (cA K x)) (.ref (cA K y))=some true:=by
 rw[zbj a,zbj b]
 unfold PySem.W.exmOne PySem.W.kitCls
 unfold PySem.W.isClsIn at q2
 rw[q1,if_pos (by decide)]
 dsimp only
 rw[q2,q3,if_pos (by decide)]
 exact q4
end
section
variable {P:Program} {w:World} {K:W.Frag} {mg:Str->Option Value} {base:Heap} {x:Str} {st:Stmt} {N ps:List Str} {k:Nat} {sp:Sp}
end
section
variable {X:Cx} {x:Str} {p pos:Pos} {e:Expr} {es:List Expr} {t:TA} {j k:Nat} {ps:List Str} {sp:Sp}
end
theorem zkg {xs:List V} {k:Int} (h0:0<=k) (h:k<(xs.length:Int)):∃ v,atI xs k=some v/\v∈xs:=by
 have hk:k.toNat<xs.length:=by ac_rfl
 have q:atI xs ((k.toNat:Nat):Int)=some xs[k.toNat]:=zak (yaa hk)
 rw[show ((k.toNat:Nat):Int)=k by ac_rfl] at q
 exact ⟨_,q,yca hk⟩
theorem zau {v:V} {xs:List V} {p:V->Prop} (h:p v) (t:∀ x∈xs,p x):∀ x∈v::xs,p x:=fun x hx=>by
 rcases yak.mp hx with rfl | hx
 ·exact h
 ·exact t x hx
theorem zoY {p:V->Prop}:∀ x∈([]:List V),p x:=fun x hx=>by cases hx
theorem zfI {K:W.Frag} {H:Hp} (i:Int):∃ T,zam K H (.int i) T:=⟨"int", .int i,by decide⟩
theorem kBl {K:W.Frag} {H:Hp} (b:Bool):∃ T,zam K H (.bl b) T:=⟨"bool", .bl b,by decide⟩
theorem ztG {K:W.Frag} {H:Hp}:∃ T,zam K H .non T:=⟨"NoneType", .non,by decide⟩
theorem ztR {K:W.Frag} {H:Hp} (x:Str):∃ T,zam K H (.str x) T:=⟨"str", .str x,by decide⟩
theorem zuW {K:W.Frag} {H:Hp} {a:Addr} {xs:List V} (h:H a=some (.lst xs)):∃ T,zam K H (.ref a) T:=⟨"list", .lst h,by decide⟩
theorem ztT {K:W.Frag} {H:Hp} {a:Addr} {xs:List V} (h:H a=some (.tup xs)):∃ T,zam K H (.ref a) T:=⟨"tuple", .tup h,by decide⟩
theorem zam.same {K:W.Frag} {H H':Hp} {x:V} {T:String} (h:zam K H x T) (s:Same H H'):zam K H' x T:=by
 refine ⟨?_,h.2⟩
 have q:=h.1
 generalize e:Value.type T=t at q ⊢
 cases q with
 | non=>exact .non
 | bl b=>exact .bl b
 | int i=>exact .int i
 | str y=>exact .str y
 | flt y=>exact .flt y
 | lst ea=>exact .lst (s _ _ ea)
 | frz ea=>exact .frz (s _ _ ea)
 | tup ea=>exact .tup (s _ _ ea)
 | dK ea=>exact .dK (s _ _ ea)
 | ins=>cases e
theorem zD {H H':Hp} {a:Addr} (s:Same H H') (h:H' a=none):H a=none:=by
 cases q:H a with
 | none=>rfl
 | some o=>rw[s a o q] at h;cases h
theorem zJ {H H':Hp} {l:Addr} {o:HO} (s:Same H H') (h:H l=none):Same H (upd H' l o):=fun b u q=>by
 rw[zp (zN q h)];exact s b u q
end L2
namespace L2
open PySem PySem.W PyProof.Rows
def zH (t u:TS):TS:=zM t u
theorem zc {X:Cx} {st:Stmt} {rest:List Stmt} {t u:TS} (h1:PS X st t) (h2:PSs X rest u):PSs X (st::rest) (zH t u):=zry h1 h2
def Mkd (p:Prop):Prop:=p
variable {t1 t2 t3 t4 t5 t6 t7 t8 t9 t10:TS} {D:Ends} {σ:St} {H:Hp}
theorem sqG (h:Mkd (zH t1 t2 D σ H)):zH t1 t2 D σ H:=h
theorem zuZ (h:let v1:=t2;zM t1 v1 D σ H):Mkd ((zH t1 t2) D σ H):=h
theorem zuO (h:let v2:=t3;let v1:=zM t2 v2;zM t1 v1 D σ H):Mkd ((zH t1 (zH t2 t3)) D σ H):=h
theorem zuS (h:let v3:=t4;let v2:=zM t3 v3;let v1:=zM t2 v2;zM t1 v1 D σ H):Mkd ((zH t1 (zH t2 (zH t3 t4))) D σ H):=h
theorem zuw (h:let v4:=t5;let v3:=zM t4 v4;let v2:=zM t3 v3;let v1:=zM t2 v2;zM t1 v1 D σ H):Mkd ((zH t1 (zH t2 (zH t3 (zH t4 t5)))) D σ H):=h
theorem zuI (h:let v5:=t6;let v4:=zM t5 v5;let v3:=zM t4 v4;let v2:=zM t3 v3;let v1:=zM t2 v2;zM t1 v1 D σ H):Mkd ((zH t1 (zH t2 (zH t3 (zH t4 (zH t5 t6))))) D σ H):=h
theorem zuA (h:let v6:=t7;let v5:=zM t6 v6;let v4:=zM t5 v5;let v3:=zM t4 v4;let v2:=zM t3 v3;let v1:=zM t2 v2;zM t1 v1 D σ H):Mkd ((zH t1 (zH t2 (zH t3 (zH t4 (zH t5 (zH t6 t7)))))) D σ H):=h
theorem zuB (h:let v7:=t8;let v6:=zM t7 v7;let v5:=zM t6 v6;let v4:=zM t5 v5;let v3:=zM t4 v4;let v2:=zM t3 v3;let v1:=zM t2 v2;zM t1 v1 D σ H):Mkd ((zH t1 (zH t2 (zH t3 (zH t4 (zH t5 (zH t6 (zH t7 t8))))))) D σ H):=h
theorem zuv (h:let v8:=t9;let v7:=zM t8 v8;let v6:=zM t7 v7;let v5:=zM t6 v6;let v4:=zM t5 v5;let v3:=zM t4 v4;let v2:=zM t3 v3;let v1:=zM t2 v2;zM t1 v1 D σ H):Mkd ((zH t1 (zH t2 (zH t3 (zH t4 (zH t5 (zH t6 (zH t7 (zH t8 t9)))))))) D σ H):=h
theorem zt7 (h:let v9:=t10;let v8:=zM t9 v9;let v7:=zM t8 v8;let v6:=zM t7 v7;let v5:=zM t6 v6;let v4:=zM t5 v5;let v3:=zM t4 v4;let v2:=zM t3 v3;let v1:=zM t2 v2;zM t1 v1 D σ H):Mkd ((zH t1 (zH t2 (zH t3 (zH t4 (zH t5 (zH t6 (zH t7 (zH t8 (zH t9 t10))))))))) D σ H):=h
inductive Ee4 {α0 α1 α2 α3:Type} (p:α0->α1->α2->α3->Prop):Prop | mk (x0:α0) (x1:α1) (x2:α2) (x3:α3) (h:p x0 x1 x2 x3):Ee4 p
inductive Ee5 {α0 α1 α2 α3 α4:Type} (p:α0->α1->α2->α3->α4->Prop):Prop | mk (x0:α0) (x1:α1) (x2:α2) (x3:α3) (x4:α4) (h:p x0 x1 x2 x3 x4):Ee5 p
inductive Ee6 {α0 α1 α2 α3 α4 α5:Type} (p:α0->α1->α2->α3->α4->α5->Prop):Prop | mk (x0:α0) (x1:α1) (x2:α2) (x3:α3) (x4:α4) (x5:α5) (h:p x0 x1 x2 x3 x4 x5):Ee6 p
inductive Ee8 {α0 α1 α2 α3 α4 α5 α6 α7:Type} (p:α0->α1->α2->α3->α4->α5->α6->α7->Prop):Prop | mk (x0:α0) (x1:α1) (x2:α2) (x3:α3) (x4:α4) (x5:α5) (x6:α6) (x7:α7) (h:p x0 x1 x2 x3 x4 x5 x6 x7):Ee8 p
inductive Ee9 {α0 α1 α2 α3 α4 α5 α6 α7 α8:Type} (p:α0->α1->α2->α3->α4->α5->α6->α7->α8->Prop):Prop | mk (x0:α0) (x1:α1) (x2:α2) (x3:α3) (x4:α4) (x5:α5) (x6:α6) (x7:α7) (x8:α8) (h:p x0 x1 x2 x3 x4 x5 x6 x7 x8):Ee9 p
inductive Aa3 (a0 a1 a2:Prop):Prop | mk (h0:a0) (h1:a1) (h2:a2):Aa3 a0 a1 a2
inductive Aa4 (a0 a1 a2 a3:Prop):Prop | mk (h0:a0) (h1:a1) (h2:a2) (h3:a3):Aa4 a0 a1 a2 a3
inductive Aa5 (a0 a1 a2 a3 a4:Prop):Prop | mk (h0:a0) (h1:a1) (h2:a2) (h3:a3) (h4:a4):Aa5 a0 a1 a2 a3 a4
inductive Aa6 (a0 a1 a2 a3 a4 a5:Prop):Prop | mk (h0:a0) (h1:a1) (h2:a2) (h3:a3) (h4:a4) (h5:a5):Aa6 a0 a1 a2 a3 a4 a5
inductive Aa7 (a0 a1 a2 a3 a4 a5 a6:Prop):Prop | mk (h0:a0) (h1:a1) (h2:a2) (h3:a3) (h4:a4) (h5:a5) (h6:a6):Aa7 a0 a1 a2 a3 a4 a5 a6
inductive Aa8 (a0 a1 a2 a3 a4 a5 a6 a7:Prop):Prop | mk (h0:a0) (h1:a1) (h2:a2) (h3:a3) (h4:a4) (h5:a5) (h6:a6) (h7:a7):Aa8 a0 a1 a2 a3 a4 a5 a6 a7
inductive Aa9 (a0 a1 a2 a3 a4 a5 a6 a7 a8:Prop):Prop | mk (h0:a0) (h1:a1) (h2:a2) (h3:a3) (h4:a4) (h5:a5) (h6:a6) (h7:a7) (h8:a8):Aa9 a0 a1 a2 a3 a4 a5 a6 a7 a8
inductive zrm (a0 a1 a2 a3 a4 a5 a6 a7 a8 a9:Prop):Prop | mk (h0:a0) (h1:a1) (h2:a2) (h3:a3) (h4:a4) (h5:a5) (h6:a6) (h7:a7) (h8:a8) (h9:a9):zrm a0 a1 a2 a3 a4 a5 a6 a7 a8 a9
end L2
namespace L2
open PySem PySem.Spec
def zt1:R2:=fun x y H Q=>∃ a b:Bool,x=.bl a/\y=.bl b/\Q (.bl (a != b)) H
theorem zpS {X:Cx}:OpR X (compareOp .IsNot) zt1:=by
 intro pins s σ H x y v u Q I rx ry h
 obtain ⟨a,b,rfl,rfl,q⟩:=h
 cases rx
 cases ry
 refine wpAny_isNot_plain rfl ⟨.bl (a != b),H,I,?_,q⟩
 cases a <;> cases b <;> rfl
end L2
namespace L2
open PySem PySem.Spec PyProof.Rows
section
variable {X:Cx}
end
section
variable {prog:Program} {w:World} {A:Around} {E:Value->Shared->Prop} {s:Shared} {K:W.Frag} {e C f:Addr} {oe:Obj}
end
section
open PySem.Builtin PySem.Builtin.ObjectAttr
variable {prog:Program} {w:World} {A:Around} {E:Value->Shared->Prop} {s:Shared} {K:W.Frag} {e C f dx:Addr} {oe:Obj} {vs:Array Value} {mA:Str->Option Value} {name:Str} {v:Value}
end
section
open PySem.Builtin PySem.Builtin.ObjectAttr
variable {prog:Program} {w:World} {A:Around} {E:Value->Shared->Prop} {s:Shared} {K:W.Frag} {x C f dx:Addr} {o:Obj} {vs:Array Value} {mA:Str->Option Value} {name:Str} {v:Value}
set_option maxHeartbeats 2000000 in
end
def IsX (H:Hp) (e:Addr) (C:Value):Prop:=∃ φ,H e=some (.ext φ)/\∀ h,φ h->∃ o vs,h.get? e=some o/\o.cls=C/\o.data=.fields vs
theorem IsX.o {H:Hp} {e:Addr} {C:Value} (h:H e=some (zbT e C)):IsX H e C:=⟨_,h,fun _ q=>q⟩
section
variable {X:Cx} {pins:List (Addr × Obj)} {σ:St} {H:Hp} {s:Shared} {e:Addr}
theorem Inv.zm3 (I:Inv X pins σ H s) (hn:s.heap.get? e=none) (hex:X.ex=[]):X.s₀.heap.get? e=none/\e≠X.env.locals/\(∀ x c,X.env.cells.lookup x=some c->c≠e)/\∀ p∈X.pn++pins,p.1≠e:=by
 refine ⟨?_,fun z=>?_,fun x c q z=>?_,fun p hp z=>?_⟩
 ·cases q:X.s₀.heap.get? e with
  | none=>rfl
  | some o =>
   obtain ⟨o',e1⟩:=I.base.there e o q (by rw[hex];simp)
   rw[hn] at e1;cases e1
 ·obtain ⟨m,⟨o,es,ep,ho,_⟩,_⟩:=I.loc
  rw[<-z,hn] at ho;cases ho
 ·obtain ⟨v,o,ho,hd⟩:=I.cell x c q
  rw[z,hn] at ho;cases ho
 ·have:=(I.pin p hp).1
  rw[z,hn] at this;cases this
theorem Inv.zmi {o:HO} {h':Heap} {t':Nat} (I:Inv X pins σ H s) (k:∀ b u,s.heap.get? b=some u->h'.get? b=some u) (hn:s.heap.get? e=none) (hex:X.ex=[]) (new:zX X.prog X.w (upd H e o) h' e o) :
  Inv X pins σ (upd H e o) { s with heap:=h',toks:=t' } :=
 let ⟨a,b,c,d⟩:=I.zm3 hn hex
 (I.kept (t':=t') k).track (I.hok.gone hn) a b c d new
end
section
variable {X:Cx} {x:Str} {np pos:Pos} {e0:Expr} {rest:List Expr} {t:TA}
end
section
variable {X:Cx} {o value:Expr} {name:Str} {pos pos':Pos} {ta tv:TE} {C f:Addr}
theorem zbJ (K:W.Frag) (hK:X.K=K:=by rfl):zbo X (.builtin "isinstance") (fun xs H Q=>∃ e C D b,xs=[.ref e,.ref D]/\IsX H e (.ref C)/\XK1 K C/\PySem.W.kitOne K (.ref C) (.ref D)=some b/\Q (.bl b) H):=by
 subst hK
 intro pins s σ H xs us Q I r h
 obtain ⟨e,C,D,b,rfl,⟨φ,he,hφ⟩,Z,kit,q⟩:=h
 obtain ⟨u,v,rfl,ru,rv⟩:=vals2 r
 cases ru
 cases rv
 exact PySem.W.kia_one (zq9 Z) I.kIn (hφ _ (I.hok e _ he).1) kit (fun z=>nomatch z) fun tk=>⟨.bl b,H,I.tok tk,rfl,q⟩
end
section
variable {X:Cx} {x:Str} {np pos:Pos} {e0:Expr} {t:TA} {C f:Addr} {fd:FuncData} {ps:List Str} {name:Str} {j k:Nat}
end
section
variable {X:Cx} {o:Expr} {name:Str} {pos:Pos} {ta:TE} {C:Addr}
end
section
variable {K:W.Frag} {h:Heap} {mg:Str->Option Value} {x:Str} {C f D:Addr}
theorem zar {name:Str} (a:PySem.W.nsIn K mainGlobals x=some (some (.ref C))) (q:PySem.W.findIn K (.ref C) name=some none):PySem.W.findIn K (.ref (cA K x)) name=some none:=by rw[zbj a];exact q
end
namespace zaL
def Up (xs:Array Nat):Prop:=xs.toList.Pairwise (·<·)
theorem zl6 {xs:Array Nat} (h:Up xs) {i j:Nat} (hi:i<j) (hj:j<xs.size) (d e:Nat):xs.getD i d<xs.getD j e:=by
 have hi':i<xs.size:=by ac_rfl
 have q:=yar.mp h i j (by simpa using hi') (by simpa using hj) hi
 simpa [yeb,hi',hj] using q
theorem zkO {xs:Array Nat} {j:Nat} (h:Up xs):∀ (fuel lo hi:Nat),lo<=hi->hi<=xs.size->hi-lo<=fuel->(∀ i,i<lo->xs.getD i j<j)->(∀ i,hi<=i->i<xs.size->j<=xs.getD i j) ->
  SetTable.below.go xs j fuel lo hi<=xs.size/\(∀ i,i<SetTable.below.go xs j fuel lo hi->xs.getD i j<j)/\∀ i,SetTable.below.go xs j fuel lo hi<=i->i<xs.size->j<=xs.getD i j
 | 0,lo,hi,h1,h2,h3,a,b=>by
  unfold SetTable.below.go
  exact ⟨by ac_rfl,a,fun i p q=>b i (by ac_rfl) q⟩
 | fuel+1,lo,hi,h1,h2,h3,a,b=>by
  unfold SetTable.below.go
  by_cases hl:lo<hi
  ·rw[if_pos hl]
   dsimp only
   by_cases hm:xs.getD ((lo+hi) / 2) j<j
   ·rw[if_pos hm]
    refine zkO h fuel _ hi (by ac_rfl) h2 (by ac_rfl) (fun i q=>?_) b
    by_cases e:i=(lo+hi) / 2
    ·rw[e];exact hm
    ·exact ydf (zl6 h (by ac_rfl) (by ac_rfl) j j) hm
   ·rw[if_neg hm]
    refine zkO h fuel lo _ (by ac_rfl) (by ac_rfl) (by ac_rfl) a (fun i q r=>?_)
    by_cases e:i=(lo+hi) / 2
    ·rw[e];ac_rfl
    ·have:=zl6 h (i:=(lo+hi) / 2) (j:=i) (by ac_rfl) r j j
     ac_rfl
  ·rw[if_neg hl]
   exact ⟨by ac_rfl,a,fun i p q=>b i (by ac_rfl) q⟩
theorem zkA {xs:Array Nat} (h:Up xs) (j:Nat):SetTable.below xs j<=xs.size/\(∀ i,i<SetTable.below xs j->xs.getD i j<j)/\∀ i,SetTable.below xs j<=i->i<xs.size->j<=xs.getD i j:=by
 unfold SetTable.below
 exact zkO h _ _ _ (ycz _) (ycv _) (by ac_rfl) (fun i q=>by ac_rfl) fun i p q=>by ac_rfl
theorem zqq {xs:Array Nat} {j:Nat} (h:Up xs) (hj:xs[SetTable.below xs j]?≠some j):Up (SetTable.insertAt xs (SetTable.below xs j) j):=by
 obtain ⟨h0,h1,h2⟩:=zkA h j
 generalize SetTable.below xs j=p at *
 unfold Up
 rw[SetTable.toList_insertAt]
 have e:xs.toList=xs.toList.take p++xs.toList.drop p:=(List.take_append_drop p _).symm
 have hp:(xs.toList.take p++xs.toList.drop p).Pairwise (·<·):=by rw[<-e];exact h
 obtain ⟨a,b,c⟩:=ybh.mp hp
 have lo:∀ x∈xs.toList.take p,x<j:=fun x hx=>by
  obtain ⟨i,hi,rfl⟩:=yaw.mp hx
  rw[yat,ydx] at hi
  have:=h1 i (by ac_rfl)
  rw[List.getElem_take]
  simpa [yeb,show i<xs.size by ac_rfl] using this
 have hi:∀ x∈xs.toList.drop p,j<x:=fun x hx=>by
  obtain ⟨i,hi,rfl⟩:=yaw.mp hx
  rw[List.length_drop,ydx] at hi
  have q:=h2 (p+i) (by ac_rfl) (by ac_rfl)
  rw[List.getElem_drop]
  have g:xs.getD (p+i) j=xs.toList[p+i]'(by rw[ydx];ac_rfl):=by simp[yeb,show p+i<xs.size by ac_rfl]
  rw[g] at q
  refine Nat.lt_of_le_of_ne q fun z=>?_
  by_cases i0:i=0
  ·subst i0
   apply hj
   rw[ydw (by ac_rfl:p<xs.size),z]
   simp
  ·have q0:=h2 p (ycv _) (by ac_rfl)
   have lt:=zl6 h (i:=p) (j:=p+i) (by ac_rfl) (by ac_rfl) j j
   rw[g,<-z] at lt
   ac_rfl
 exact ybh.mpr ⟨a,yci.mpr ⟨hi,b⟩,fun x hx y hy=>by
  rcases yak.mp hy with rfl | hy
  ·exact lo x hx
  ·exact c x hx y hy⟩
structure Tab (bt:Bool) (t:SetTable):Prop where
 led:t.led=!bt
 dum:t.dummies=#[]
 up:t.plain=true->Up t.place
theorem has_none (j:Nat):SetTable.has #[] j=false:=by simp[SetTable.has]
theorem zpn {t:SetTable} (hd:t.dummies=#[]) (j:Nat):t.slot j≠.dummy:=by
 unfold SetTable.slot
 dsimp only
 split
 ·intro z;cases z
 ·rw[hd,has_none];intro z;simp at z
theorem zjo {t:SetTable} (hd:t.dummies=#[]) {f:Nat->Int} {h:Int}:∀ (fuel:Nat) (p:SetTable.Probe) {j:Nat} {d:Option Nat},p.dummy=none->SetTable.probe.go t f h fuel p=some (.empty j d)->d=none/\t.slot j=.empty
 | 0,p,j,d,hp,e=>by simp[SetTable.probe.go] at e
 | fuel+1,p,j,d,hp,e=>by
  have adv:∀ q:SetTable.Probe,q.dummy=none->(t.advance q).dummy=none:=fun q hq=>by
   unfold SetTable.advance
   split
   ·exact hq
   ·exact hq
  unfold SetTable.probe.go at e
  cases hs:t.slot p.j with
  | empty =>
   rw[hs] at e
   cases e
   exact ⟨hp,hs⟩
  | dummy=>exact absurd hs (zpn hd _)
  | live i =>
   rw[hs] at e
   dsimp only at e
   split at e
   ·cases e
   ·exact zjo hd fuel _ (adv p hp) e
theorem zlx {t:SetTable} (hd:t.dummies=#[]) {h:Int} {j:Nat} {b:Bool} (e:t.freeSlot h=some (j,b)):t.place[SetTable.below t.place j]?≠some j:=by
 unfold SetTable.freeSlot at e
 split at e
 ·rename_i j' d' q
  obtain ⟨rfl,hs⟩:=zjo hd _ _ rfl (show SetTable.probe.go t _ h _ _=_ from q)
  cases e
  intro z
  have z':t.place[SetTable.below t.place j']?=some j':=z
  unfold SetTable.slot at hs
  dsimp only at hs
  rw[if_pos (by rw[z'];simp)] at hs
  cases hs
 ·cases e
theorem zgh {bt:Bool} {t:SetTable} (T:Tab bt t) (n:Nat):Tab bt (t.standIn n):=⟨T.led,rfl,fun z=>by cases z⟩
theorem zoO {bt:Bool} {t:SetTable} (T:Tab bt t) {j:Nat} (hj:t.place[SetTable.below t.place j]?≠some j):Tab bt (t.put j).1 :=
 ⟨T.led,by show (if SetTable.has t.dummies j then _ else t.dummies)=#[];rw[T.dum,has_none];rfl,fun z=>zqq (T.up z) hj⟩
theorem zsW {bt:Bool} {t:SetTable} (T:Tab bt t) (es:Array (Int × Value)) (h:Int) (x:Value):Tab bt (layNew t es h x).2.1:=by
 unfold layNew
 split
 ·rename_i j b e
  dsimp only
  unfold SetTable.orStandIn
  split
  ·exact zoO T (zlx T.dum e)
  ·exact zgh (zoO T (zlx T.dum e)) _
 ·exact zgh T _
theorem zsv (owner:Array (Option Nat)) (m:Nat):(((yaq m).filterMap fun j=>(owner.getD j none).map (fun k=>(j,k))).map (·.1)).Pairwise (·<·):=by
 have e:(((yaq m).filterMap fun j=>(owner.getD j none).map (fun k=>(j,k))).map (·.1))=(yaq m).filter fun j=>(owner.getD j none).isSome:=by
  generalize yaq m=l
  induction l with
  | nil=>rfl
  | cons a l ih =>
   cases q:owner.getD a none with
   | none=>rw[ycd,q,List.filter_cons,q];simpa using ih
   | some k=>rw[ycd,q,List.filter_cons,q];simpa using ih
 rw[e]
 exact List.Pairwise.filter _ (List.pairwise_lt_range)
theorem ztX {bt:Bool} {t:SetTable} (T:Tab bt t) (es:Array (Int × Value)) (n:Nat):Tab bt (relayAll t es n).2.1:=by
 unfold relayAll
 split
 ·rename_i t' order e
  dsimp only
  split
  ·unfold SetTable.relaid SetTable.laid at e
   simp only[Option.bind_eq_bind,Option.bind_eq_some_iff] at e
   obtain ⟨owner,_,e⟩:=e
   cases e
   refine ⟨T.led,rfl,fun _=>?_⟩
   unfold Up
   simpa using zsv owner _
  ·exact zgh T _
 ·exact zgh T _
theorem zqx (bt:Bool):Tab bt (.fresh 0 0 (!bt)):=⟨rfl,rfl,fun _=>List.Pairwise.nil⟩
end zaL
namespace zaL
noncomputable def intOf:Value->Int
 | .int i _=>i
 | _=>0
theorem znz {k:Int} {v:Value} (h:Value.isInt k v=true):intOf v=k:=by
 obtain ⟨t,rfl⟩:=Value.isInt_shape h
 rfl
structure zc2 (prog:Program) (w:World) (h:Heap) (a:Addr) (ms:List Int):Prop where
 ex:∃ o es ep t,(h.get? a=some o/\o.ExactSet/\o.data=.set es ep t)/\(ElemsOf (intKind prog w) es.toList/\es.size<scanBound/\t.fits es.size=true)/\Tab (w.params.followText "set-order") t /\
  es.toList.map (fun e=>intOf e.2)=ms
 nd:ms.Nodup
theorem zmJ {prog:Program} {w:World} {l:List (Int × Value)} (hl:ElemsOf (intKind prog w) l) (k:Int):(∃ e∈l,Value.isInt k e.2=true)↔k∈l.map fun e=>intOf e.2:=by
 constructor
 ·rintro ⟨e,he,q⟩
  exact yah.mpr ⟨e,he,znz q⟩
 ·intro q
  obtain ⟨e,he,rfl⟩:=yah.mp q
  obtain ⟨⟨k',hk,_⟩,_⟩:=hl e he
  refine ⟨e,he,?_⟩
  rw[znz hk];exact hk
section
variable {prog:Program} {w:World} {A:Around} {E:Value->Shared->Prop} {s:Shared} {a:Addr} {ms:List Int} {k:Int} {tk:Tok}
theorem xadd {Q:Bool->Shared->Prop} (S:zc2 prog w s.heap a ms) (room:ms.length+1<scanBound)
  (hQ:∀ b h' ms',Heap.SameBut a s.heap h'->zc2 prog w h' a ms'->(∀ m,m∈ms'↔m∈ms\/m=k)->ms'.length<=ms.length+1->Q b { s with heap:=h' }) :
  wpAny (model prog w) A (setAddHashed a (.int k tk) (hashInt k)) Q E s:=by
 obtain ⟨⟨o,es,ep,t,⟨ho,hex,hd⟩,⟨hel,hb,hf⟩,T,rfl⟩,nd⟩:=S
 have hlen:(es.toList.map fun e=>intOf e.2).length=es.size:=by simp
 have hkey:(intKind prog w).is k (.int k tk)=true:=intKind_is prog w k tk
 unfold setAddHashed setAddHashedIn
 refine wpAny_holding (wpAny_bind (wpAny_setState_of ho hd hf ?_))
 dsimp only
 rw[byScan_of (knd:=intKind prog w) rfl hb hel]
 simp only[↓reduceIte]
 unfold setAddByScan
 refine wpAny_bind (wpAny_bind (wpAny_rule (wpAny_bind (wpAny_setScan_of (knd:=intKind prog w) hkey ho hd hf hel ?_))))
 cases hr:List.findIdx? (fun e=>(intKind prog w).is k e.2) es.toList with
 | some j =>
  obtain ⟨hj,hpj,_⟩:=List.findIdx?_eq_some_iff_getElem.mp hr
  have hm:k∈es.toList.map fun e=>intOf e.2:=(zmJ hel k).mp ⟨es.toList[j],yca hj,hpj⟩
  refine wpAny_pure (wpAny_pure ?_)
  have z:=hQ false s.heap _ (Heap.SameBut.refl a s.heap) ⟨⟨o,es,ep,t,⟨ho,hex,hd⟩,⟨hel,hb,hf⟩,T,rfl⟩,nd⟩ (fun m=>⟨.inl,fun q=>q.elim id fun e=>e ▸ hm⟩) (by ac_rfl)
  exact z
 | none =>
  have hm:k ∉ es.toList.map fun e=>intOf e.2:=fun q=>by
   obtain ⟨e,he,hp⟩:=(zmJ hel k).mpr q
   have:=List.findIdx?_eq_none_iff.mp hr e he
   rw[show (intKind prog w).is k e.2=true from hp] at this
   cases this
  dsimp only
  have hperm:=layNew_perm t es (hashInt k) (.int k tk)
  have hfits:=layNew_fits t es (hashInt k) (.int k tk)
  have T1:=zsW T es (hashInt k) (.int k tk)
  generalize layNew t es (hashInt k) (.int k tk)=L at hperm hfits T1 ⊢
  obtain ⟨es1,t1,dm,gave⟩:=L
  dsimp only at hperm hfits T1 ⊢
  rw[Array.toList_push] at hperm
  have el1:ElemsOf (intKind prog w) es1.toList:=(hel.push (k:=k) hkey rfl).perm hperm
  have sz1:es1.size=es.size+1:=by rw[<-ydx,hperm.length_eq,yae,ydx];rfl
  have hb1:es1.size<scanBound:=by ac_rfl
  have pm:(es1.toList.map fun e=>intOf e.2).Perm ((es.toList.map fun e=>intOf e.2)++[k]):=by
   have:=hperm.map fun e=>intOf e.2
   rw[yas] at this
   exact this
  have nd1:(es1.toList.map fun e=>intOf e.2).Nodup:=pm.nodup_iff.mpr (yck.mpr ⟨nd,(ybr _ _),fun x hx y hy z=>hm (by rw[ybp] at hy;rw[<-hy,<-z];exact hx)⟩)
  have mm:∀ m,m∈(es1.toList.map fun e=>intOf e.2)↔m∈(es.toList.map fun e=>intOf e.2)\/m=k:=fun m=>by rw[pm.mem_iff,yag,ybp]
  have len1:(es1.toList.map fun e=>intOf e.2).length<=(es.toList.map fun e=>intOf e.2).length+1:=by rw[pm.length_eq,yae];exact ycv _
  have fin:∀ h' es2 t2 ep2 o2,(h'.get? a=some o2/\o2.ExactSet/\o2.data=.set es2 ep2 t2)->es2.toList.Perm es1.toList->t2.fits es2.size=true->Tab (w.params.followText "set-order") t2->Heap.SameBut a s.heap h'->Q true { s with heap:=h' } :=
   fun h' es2 t2 ep2 o2 hg p2 f2 T2 sb=>by
    have q2:=p2.map fun e=>intOf e.2
    have z2:es2.size=es1.size:=by rw[<-ydx,p2.length_eq,ydx]
    refine hQ true h' _ sb ⟨⟨o2,es2,ep2,t2,hg,⟨el1.perm p2,by ac_rfl,f2⟩,T2,rfl⟩,q2.nodup_iff.mpr nd1⟩ (fun m=>(q2.mem_iff).trans (mm m)) ?_
    rw[q2.length_eq];exact len1
  have put:∀ {h:Heap} {o1:Obj} {e1:Array (Int × Value)} {p1:Nat} {u1:SetTable},h.get? a=some o1->o1.ExactSet->o1.data=.set e1 p1 u1->∀ (e2:Array (Int × Value)) (u2:SetTable),
    (h.update a (Obj.putSet e2 u2)).get? a=some { o1 with data:=.set e2 (p1+1) u2 }:=fun {h o1 e1 p1 u1} q1 _ q3 e2 u2=>by
   have z:=ydo (Obj.putSet e2 u2) q1 (by rw[putSet_of e2 u2 q3];rfl)
   rw[putSet_of e2 u2 q3] at z
   exact z
  have tl:∀ (Q':Option Bool->Shared->Prop),(∀ h',Q true { s with heap:=h' }->Q' (some true) { s with heap:=h' })->wpAny (model prog w) A (storeSet a es1 t1) (fun _ s1=>(dm=false/\t1.tooFull=true->∀ g:Sem Unit,(∀ Q₀:Unit->Shared->Prop,Q₀ () s1->wpAny (model prog w) A g Q₀ E s1) ->
    wpAny (model prog w) A (g >>= fun _=>storeSet a (relayAll t1 es1 (SetTable.grown es1.size)).1 (relayAll t1 es1 (SetTable.grown es1.size)).2.1 >>= fun _=>pure (some true)) Q' E s1)/\Q' (some true) s1) E s:=fun Q' hq=>by
   refine wpAny_storeSet_of ho hd ?_ (fits_of_scanBound hb1)
   have g1:=put ho hex hd es1 t1
   have sb1:=Heap.SameBut.update s.heap a (Obj.putSet es1 t1)
   refine ⟨fun _ g hg=>wpAny_bind (hg _ ?_),hq _ (fin _ es1 t1 _ _ ⟨g1,hex,rfl⟩ .rfl hfits T1 sb1)⟩
   have p2:=relayAll_perm t1 es1 (SetTable.grown es1.size)
   have f2:=relayAll_fits t1 es1 (SetTable.grown es1.size)
   have T2:=ztX T1 es1 (SetTable.grown es1.size)
   generalize relayAll t1 es1 (SetTable.grown es1.size)=L2 at p2 f2 T2 ⊢
   obtain ⟨es2,t2,gv2⟩:=L2
   dsimp only at p2 f2 T2 ⊢
   have z2:es2.size=es1.size:=by rw[<-ydx,p2.length_eq,ydx]
   refine wpAny_bind (wpAny_storeSet_of g1 rfl (wpAny_pure (hq _ ?_)) (fits_of_scanBound (by ac_rfl)))
   exact fin _ es2 t2 _ _ ⟨put g1 hex rfl es2 t2,hex,rfl⟩ p2 f2 T2 (sb1.trans (Heap.SameBut.update _ a _))
  refine wpAny_bind ?_
  cases gave
  all_goals
   first | refine wpAny_pure ?_ | refine wpAny_rule ?_
   split
   all_goals
    refine wpAny_bind ?_
    try rw[hashByValue_scannable 8 (show (Value.int k tk).scannable=true from rfl)]
    refine wpAny_pure ?_
    simp only[plainKind,↓reduceIte]
    refine wpAny_bind (wpAny_mono (tl (fun r s'=>wpAny (model prog w) A (match r with | some added=>pure added | none=>setAddHashedIn a (Value.int k tk) (hashInt k) 99999) Q E s') fun h' z=>wpAny_pure z) (fun _ s1 hz=>?_) fun _ _ z=>z)
    obtain ⟨hz1,hz2⟩:=hz
    split
    ·rename_i hc
     simp only[Bool.and_eq_true,Bool.not_eq_true'] at hc
     refine hz1 hc _ fun Q₀ q₀=>?_
     generalize (relayAll t1 es1 (SetTable.grown es1.size)).2.2=gb
     cases gb
     ·exact wpAny_pure q₀
     ·exact wpAny_rule q₀
    ·exact wpAny_pure hz2
end
end zaL
namespace zaL
theorem zc2.keep {prog:Program} {w:World} {h h':Heap} {a:Addr} {ms:List Int} (S:zc2 prog w h a ms) (k:∀ o,h.get? a=some o->h'.get? a=some o):zc2 prog w h' a ms:=by
 obtain ⟨⟨o,es,ep,t,⟨ho,r⟩,r2⟩,nd⟩:=S
 exact ⟨⟨o,es,ep,t,⟨k o ho,r⟩,r2⟩,nd⟩
section
variable {prog:Program} {w:World} {A:Around} {R:Result->Shared->Prop} {I a:Addr} {fp wr:List Addr} {G:Array GenState->Array GenState->Prop} {n:Nat} {P:Nat->Value->Prop} {St:Nat->Shared->Prop} {val:Nat->Int}
theorem xloop (W:WalksS prog w A.in1 I fp wr G n P St) (ha:a ∉ fp) (hval:∀ i v,P i v->∃ t,v=.int (val i) t) (hb:n+1<scanBound):∀ (k i:Nat) (s:Shared) (ms:List Int),n-i=k->i<=n->St i s->zc2 prog w s.heap a ms ->
   (∀ m,m∈ms↔m∈(yaq i).map val)->ms.length<=i ->
   (∀ s' ms',Moved (a::wr) G s s'->zc2 prog w s'.heap a ms'->(∀ m,m∈ms'↔m∈(yaq n).map val)->ms'.length<=n->R (.ok (.ret .none)) s') ->
   codeAny (model prog w) A (.builtin "set.update.loop" ⟨[.ref a,.ref I],[]⟩) R s:=by
 have aw:a ∉ wr:=fun z=>ha (W.sub _ z)
 have sub:∀ b∈wr,b∈a::wr:=fun b z=>yan _ z
 intro k
 induction k with
 | zero =>
  intro i s ms hk hi st S mm hl hR
  obtain rfl:i=n:=by ac_rfl
  refine codeAny_builtin PyProof.Rows.F.entry_set_update_loop ?_
  rw[Around.under_plainId PyProof.Rows.F.plain_set_update_loop _]
  show wpAny _ A.in1 (pyNext (.ref I) >>= _) _ _ s
  refine wpAny_bind (W.done s _ _ st fun s' mv=>wpAny_pure (hR s' ms (mv.mono sub) (S.keep fun o e=>mv.heap a o aw e) mm hl))
 | succ k ih =>
  intro i s ms hk hi st S mm hl hR
  have lt:i<n:=by ac_rfl
  refine codeAny_builtin PyProof.Rows.F.entry_set_update_loop ?_
  rw[Around.under_plainId PyProof.Rows.F.plain_set_update_loop _]
  show wpAny _ A.in1 (pyNext (.ref I) >>= _) _ _ s
  refine wpAny_bind (W.item i s _ _ lt st fun v s' hP st' mv=>?_)
  obtain ⟨t,rfl⟩:=hval i v hP
  have S':=S.keep (h':=s'.heap) fun o e=>mv.heap a o aw e
  show wpAny _ A.in1 (holding [Value.int (val i) t] (setAdd a (.int (val i) t)) >>= _) _ _ s'
  refine wpAny_bind (wpAny_holding ?_)
  unfold setAdd
  refine wpAny_holding (wpAny_bind ((intKind prog w).pyHash (k:=val i) (intKind_is _ _ _ _) ?_))
  refine xadd (s:={ s' with toks:=s'.toks+1 }) (ms:=ms) S' (by ac_rfl) fun b h' ms' sb S2 mm2 l2=>?_
  refine wpAny_pure ⟨plainId_quiet PyProof.Rows.F.plain_set_update_loop _,ih (i+1) _ ms' (by ac_rfl) lt (W.frame _ s' _ _ st' (ydh _) fun b hb o e=>?_) S2 (fun m=>?_) (by ac_rfl) fun s2 ms2 mv2=>hR s2 ms2 ?_⟩
  ·rw[sb.2 b (fun z:b=a=>ha (by rw[<-z];exact hb))];exact e
  ·rw[mm2,mm,List.range_succ,yas,yag]
   simp
  ·refine Moved.trans W.gtrans ((mv.mono sub).then_heap (ydh _) fun b o hb e=>?_) mv2
   rw[sb.2 b (fun z:b=a=>hb (by rw[z];exact yao))];exact e
end
section
variable {prog:Program} {w:World} {A:Around} {E:Value->Shared->Prop} {s:Shared}
noncomputable abbrev empty (w:World):Obj:={ cls:=.type "set", dict:=none,data:=.set #[] 0 (.fresh 0 0 (!w.params.followText "set-order")) }
theorem zuT (v:Value) {R:Result->Shared->Prop} (h:R (.ok (.ret (.ref s.heap.objs.size))) { s with heap:=s.heap.push (empty w) }) :
  codeAny (model prog w) A (.call (.builtin "set.__new__") ⟨[.type "set", v],[]⟩) R s:=by
 refine codeAny_of_tree ?_
 show wpAny _ A.in1 (checkBuiltinCall "set.__new__" ⟨[.type "set", v],[]⟩ >>= fun _=>again (.builtin "set.__new__" ⟨[.type "set", v],[]⟩)) _ _ s
 refine wpAny_bind (wpAny_of_eq (PySem.F.newCall_set_1 v) (wpAny_pure ⟨plainId_quiet PySem.F.plain_set_new _,codeAny_builtin PySem.F.entry_set_new ?_⟩))
 rw[Around.under_plainId PySem.F.plain_set_new _]
 unfold Builtin.«set.__new__» Builtin.Frozenset.newClass
 have sub:=sub_set_self
 obtain ⟨hp,g,d,tk,os⟩:=s
 dsimp only
 wp_walk
 refine wpAny_askSetting (wpAny_pure ?_)
 simp only[newObj]
 refine wpAny_bind (wpAny_alloc (wpAny_pure (wpAny_pure ?_)))
 exact h
theorem zpQ {h:Heap}:zc2 prog w (h.push (empty w)) h.objs.size [] :=
 ⟨⟨_,#[],0,_,⟨ydm _ rfl,⟨rfl,rfl,rfl⟩,rfl⟩,⟨(fun e he=>by simp at he),by decide,rfl⟩,zqx _,rfl⟩,List.Pairwise.nil⟩
end
end zaL
namespace zaL
section
variable {prog:Program} {w:World} {A:Around} {E:Value->Shared->Prop} {s:Shared}
theorem zpl:∀ ns:List Int,(yaq ns.length).map (fun i=>ns.getD i 0)=ns:=fun ns=>by
 apply ybn
 intro i
 rw[yaf]
 by_cases h:i<ns.length
 ·rw[ybl h,yaa h]
  simp[h]
 ·rw[yap (by rw[ybo];ac_rfl),yap (by ac_rfl)]
  rfl
theorem zt6 {l:Addr} {items:Array Value} {ns:List Int} (hh:A.handled=none) (hl:s.heap.IsList l items) (hi:IntsAre items.toList ns) (hb:items.size+1<scanBound) {R:Result->Shared->Prop}
  (h:∀ h' tk ms,zc2 prog w h' s.heap.objs.size ms->(∀ m,m∈ms↔m∈ns)->ms.length<=ns.length->(∀ b o,b<s.heap.objs.size->s.heap.get? b=some o->h'.get? b=some o)->R (.ok (.ret .none)) { s with heap:=h',toks:=tk }) :
  codeAny (model prog w) A (.call (.builtin "set.__init__") ⟨[.ref s.heap.objs.size,.ref l],[]⟩) R { s with heap:=s.heap.push (empty w) }:=by
 have hn:items.size=ns.length:=by rw[<-IntsAre.length hi];simp
 have at0:(s.heap.push (empty w)).get? s.heap.objs.size=some (empty w):=ydm _ rfl
 have ty:Shared.TypeIs { s with heap:=s.heap.push (empty w) } (.ref s.heap.objs.size) "set" := ⟨_,at0,rfl⟩
 refine codeAny_call_builtin PySem.F.called_set.init.plain PySem.F.entry_set_init (check_set_init_1 ty ?_)
 obtain ⟨ol,hol,hcl,nl,hdl⟩:=id hl
 have lS:l<s.heap.objs.size:=ydl hol
 obtain ⟨oc,od,odt,osl⟩:=ol
 dsimp only at hcl hdl
 subst hcl hdl
 have hol':=ydk (empty w) hol
 have n1:=PySem.F.sub_list_set
 have n2:=PySem.F.sub_list_frozenset
 have n3:(Value.type "list" == Value.type "dict")=false:=by decide
 have l1:(s.heap.push (empty w)).IsList l items:=⟨_,hol',rfl,nl,rfl⟩
 unfold Builtin.«set.__init__» noKeywords Builtin.Frozenset.updateFrom
 generalize hPI:pyIter=PI
 wp_walk
 subst hPI
 refine wpAny_pyIter_list l1 (wpAny_bind (wpAny_runValue ?_))
 have h3:A.in1.in1.handled=none:=by simp[hh]
 have sz:(s.heap.push (empty w)).objs.size=s.heap.objs.size+1:=ydq _ _
 have ne:l≠(s.heap.push (empty w)).objs.size:=by rw[sz];exact ycw (yde lS)
 have nf:s.heap.objs.size ∉ [(s.heap.push (empty w)).objs.size,l]:=by
  rw[sz]
  simp only[yak,ybt,or_false,not_or]
  exact ⟨ycw (ydc _),ydg lS⟩
 have S0:zc2 prog w ((s.heap.push (empty w)).push { cls:=.type "list_iterator", data:=.fields #[.ref l,.int 0 0] }) s.heap.objs.size []:=zpQ.keep fun o e=>ydk _ e
 refine xloop (val:=fun i=>ns.getD i 0) ((Walks.list h3 _ l ne items).toS) nf (fun i v q=>IntsAre.int_at hi i v (by rw[yea];exact q)) hb (items.size-0) 0 _ [] (by ac_rfl) (ycz _)
  ?xst ?xS (fun m=>by simp) (ycz _) ?_
 case xst=>exact ⟨⟨_,ydm _ rfl,rfl,rfl⟩,l1.push _⟩
 case xS=>exact S0
 intro s' ms mv S mm len
 obtain ⟨h',g',d',tk',os'⟩:=s'
 obtain rfl:g'=s.gens:=mv.gens
 obtain rfl:d'=s.drawn:=mv.drawn
 obtain rfl:os'=s.os:=mv.os
 refine wpAny_pure ?_
 show wpAny _ _ (ret Value.none) _ _ _
 refine wpAny_pure (h h' tk' ms S (fun m=>?_) (by ac_rfl) fun b o lt e=>?_)
 ·rw[mm,hn,zpl]
 ·refine mv.heap b o ?_ (ydk _ (ydk _ e))
  rw[sz]
  simp only[yak,ybt,or_false,not_or]
  exact ⟨ycw lt,ycw (yde lt)⟩
set_option maxHeartbeats 3200000 in
theorem zod {l:Addr} {items:Array Value} {ns:List Int} (hh:A.handled=none) (hl:s.heap.IsList l items) (hi:IntsAre items.toList ns) (hb:items.size+1<scanBound) {Q:Value->Shared->Prop}
  (h:∀ h' tk ms,zc2 prog w h' s.heap.objs.size ms->(∀ m,m∈ms↔m∈ns)->ms.length<=ns.length->(∀ b o,b<s.heap.objs.size->s.heap.get? b=some o->h'.get? b=some o)->Q (.ref s.heap.objs.size) { s with heap:=h',toks:=tk }) :
  wpAny (model prog w) A (call (.type "set") [.ref l]) Q E s:=by
 obtain ⟨c,tl,hmro⟩:=PySem.F.called_set.mro
 have m1:=PySem.F.called_set.made
 have m2:=PySem.F.called_set.sub
 have m3:=PySem.F.called_set.notType
 have m4:=PySem.F.called_set.canCreate
 have m5:=PySem.F.typeCall_set_1 (.ref l)
 refine wpAny_call (codeAny_of_tree ?_)
 show wpAny _ _ (callAny (.type "set") _) _ _ _
 refine wpAny_pure ⟨Code.quiet_builtin _ (by decide +kernel),codeAny_builtin PySem.F.entry_type_call ?_⟩
 rw[Around.under_plain (weight_type_call_type "set" [.ref l] []) rfl]
 repeat (any_goals (first | assumption | wp_step))
 refine zuT (.ref l) ?_
 have at0:(s.heap.push (empty w)).get? s.heap.objs.size=some (empty w):=ydm _ rfl
 have ty:Shared.TypeIs { s with heap:=s.heap.push (empty w) } (.ref s.heap.objs.size) "set" := ⟨_,at0,rfl⟩
 have i1:=PySem.F.called_set.init.lookup
 have i2:=PySem.F.called_set.init.bind (.ref s.heap.objs.size)
 show wpAny _ _ _ _ _ _
 repeat (any_goals (first | assumption | wp_step))
 refine zt6 (by simp[hh]) hl hi hb fun h' tk ms S mm len kp=>?_
 show wpAny _ _ _ _ _ _
 repeat (any_goals (first | assumption | wp_step))
 exact h _ _ _ S mm len kp
end
end zaL
namespace zaL
theorem zfp:Slot "set_iterator" "__next__" "set_iterator.__next__" := .of (owner:="set_iterator") (n:="__next__") (by rw[typeLookup_type,builtinLookup_eq_fast];kernel_rfl) (by decide +kernel) (by decide +kernel) (by decide +kernel)
 (by first | exact .inl (by decide +kernel) | exact .inr (by decide +kernel)) (by rw[isSubtype_type];kernel_rfl)
theorem zov:Slot "set_iterator" "__iter__" "set_iterator.__iter__" := .of (owner:="set_iterator") (n:="__iter__") (by rw[typeLookup_type,builtinLookup_eq_fast];kernel_rfl) (by decide +kernel) (by decide +kernel) (by decide +kernel)
 (by first | exact .inl (by decide +kernel) | exact .inr (by decide +kernel)) (by rw[isSubtype_type];kernel_rfl)
theorem zoD:entryFor table "set_iterator.__next__" = some Builtin.«set_iterator.__next__»:=entryFor_of_tree (by kernel_rfl)
theorem zsB:entryFor table "set_iterator.__iter__" = some Builtin.«dict_keyiterator.__iter__»:=entryFor_alias (id' := "dict_keyiterator.__iter__") (by rw[fastTable_eq_tree];kernel_rfl) rfl (by rw[PySem.W.S.canonicalS_eq];kernel_rfl) (by rw[fastTable_eq_tree];kernel_rfl)
theorem zq5:entryFor table "set.__iter__" = some Builtin.«frozenset.__iter__»:=entryFor_alias (id' := "frozenset.__iter__") (by rw[fastTable_eq_tree];kernel_rfl) rfl (by rw[PySem.W.S.canonicalS_eq];kernel_rfl) (by rw[fastTable_eq_tree];kernel_rfl)
theorem zot (a:Value):argsOk "set_iterator.__next__" ⟨[a],[]⟩:=by unfold argsOk;kernel_rfl
theorem zsw (a:Value):argsOk "set_iterator.__iter__" ⟨[a],[]⟩:=by unfold argsOk;kernel_rfl
def zbB (h:Heap) (I a:Addr) (first:Value) (i n ep:Nat):Prop:=∃ o,h.get? I=some o/\o.cls=.type "set_iterator" /\ o.data=.fields #[first,.int i 0,.ref a,.int n 0,.int ep 0]
theorem zbB.ty {s:Shared} {I a:Addr} {first:Value} {i n ep:Nat} (h:zbB s.heap I a first i n ep):s.TypeIs (.ref I) "set_iterator" := let ⟨_,a,b,_⟩:=h;⟨_,a,b⟩
theorem zbB.keep {h h':Heap} {I a:Addr} {first:Value} {i n ep:Nat} (x:zbB h I a first i n ep) (k:∀ o,h.get? I=some o->h'.get? I=some o):zbB h' I a first i n ep:=let ⟨o,a,b⟩:=x;⟨o,k o a,b⟩
def zbs (h:Heap) (a:Addr) (es:Array (Int × Value)) (ep:Nat) (t:SetTable):Prop:=∃ o,h.get? a=some o/\o.data=.set es ep t/\t.fits es.size=true
theorem zbs.keep {h h':Heap} {a:Addr} {es:Array (Int × Value)} {ep:Nat} {t:SetTable} (x:zbs h a es ep t) (k:∀ o,h.get? a=some o->h'.get? a=some o):zbs h' a es ep t:=let ⟨o,a,b⟩:=x;⟨o,k o a,b⟩
section
variable {prog:Program} {w:World} {A:Around} {E:Value->Shared->Prop} {s:Shared} {I a:Addr} {es:Array (Int × Value)} {ep:Nat} {t:SetTable}
theorem zbV {Q:(Array (Int × Value) × Nat × SetTable)->Shared->Prop} (O:zbs s.heap a es ep t) (h:Q (es,ep,t) s):wpAny (model prog w) A (setState a) Q E s:=by
 obtain ⟨o,ho,hd,hf⟩:=O
 exact wpAny_setState_of ho hd hf h
theorem zln {first:Value} {i n:Nat} {Q:Value->Shared->Prop} (h:zbB s.heap I a first i n ep) (q:Q (.ref I) s):wpAny (model prog w) A (pyIter (.ref I)) Q E s:=by
 refine wpAny_pyIter_slot h.ty zov (wpAny_call_entry zov h.ty zsB ?_ (zsw _))
 exact wpAny_pure ⟨_,rfl, "set_iterator", _,h.ty,zfp.lookup,q⟩
theorem zlv {Q:Option Value->Shared->Prop} {h1:Heap} (hh:A.handled=none) (q:∀ h',(∀ b o,h1.get? b=some o->h'.get? b=some o)->Q none { s with heap:=h' }) :
  wpAny (model prog w) A.in1 (newExc (.type "StopIteration") [] >>= fun e=>raiseNew e:Sem Fin) (fun fin s'=>∃ v,fin=.done (.ret v)/\wpAny (model prog w) A (match (Except.ok (some v):Except Value (Option Value)) with | .ok (some v)=>pure (some v) | .ok none=>unsupported "iter:the-iterator's-class-has-lost-its-__next__-amid-the-walk" | .error e=>do if <-isInstance e (.type "StopIteration") then pure none else throw e) Q E s')
   (fun e s'=>wpAny (model prog w) A (do if <-isInstance e (.type "StopIteration") then pure none else throw e) Q E s') { s with heap:=h1 }:=by
 refine wpAny_bind ?_
 simp only[newExc,newTuple]
 refine wpAny_bind (wpAny_newObj_type ?_ (by size_fits))
 refine wpAny_bind (m:=firstArgMember _ _) (wpAny_of_eq (a:=Value.none) (by first | rfl | (simp only[firstArgMember];rfl)) ?_)
 refine wpAny_newObj_type ?_ (by size_fits)
 simp only[raiseNew]
 refine wpAny_bind (wpAny_handled ?_)
 rw[show A.in1.handled=none from hh]
 refine wpAny_bind (wpAny_pure (wpAny_throw ?_))
 refine wpAny_bind (wpAny_isInstance (T:="StopIteration") (b:=true) ⟨_,ydm _ rfl,rfl⟩ isSubtype_stop ?_)
 exact wpAny_pure (q _ fun b o e=>ydk _ (ydk _ e))
end
end zaL
namespace zaL
section
variable {prog:Program} {w:World} {A:Around} {E:Value->Shared->Prop} {s:Shared} {I a:Addr} {es:Array (Int × Value)} {ep:Nat} {t:SetTable}
theorem zgu {h:Heap} {o:Obj} {vs:Array Value} {j:Nat} {x:Value} (ho:h.get? I=some o) (hd:o.data=.fields vs):(h.update I (Obj.mapFields (·.setIfInBounds j x))).get? I=some (Obj.mapFields (·.setIfInBounds j x) o) :=
 ydo _ ho (Obj.isFreed_of_fields (Obj.data_mapFields hd _))
theorem zml {F i:Nat} {r:Option (Value × Nat)} {Q:Option Value->Shared->Prop} (hh:A.handled=none) (It:zbB s.heap I a (.int F 0) i es.size ep) (O:zbs s.heap a es ep t)
  (st:∀ (A':Around) (E':Value->Shared->Prop) (Q':Option (Value × Nat)->Shared->Prop),Q' r s->wpAny (model prog w) A' (setNext a F i ep) Q' E' s)
  (h1:∀ x F',r=some (x,F')->∀ h',Heap.SameBut I s.heap h'->zbB h' I a (.int F' 0) (i+1) es.size ep->Q (some x) { s with heap:=h' })
  (h2:r=none->∀ h',(∀ b o,b≠I->s.heap.get? b=some o->h'.get? b=some o)->Q none { s with heap:=h' }):wpAny (model prog w) A (pyNext (.ref I)) Q E s:=by
 obtain ⟨o,ho,hc,hd⟩:=id It
 unfold pyNext
 refine wpAny_bind (wpAny_attempt (wpAny_callSpecial?_slot (name:=Str.ofString "__next__") It.ty zfp (wpAny_call_entry zfp It.ty zoD ?_ (zot _))))
 unfold Builtin.«set_iterator.__next__»
 refine wpAny_bind (wpAny_of_eq (a:=(Value.ref I,[])) rfl ?_)
 show wpAny _ _ (fieldsOf (.ref I) >>= _) _ _ s
 refine wpAny_bind (wpAny_fieldsOf ho hd ?_)
 show wpAny _ _ (setEntries a >>= _) _ _ s
 refine wpAny_bind ?_
 unfold setEntries
 refine wpAny_bind (zbV O (wpAny_pure ?_))
 dsimp only
 rw[if_neg (by simp)]
 simp only[Int.toNat_natCast]
 refine wpAny_bind (st _ _ _ ?_)
 cases r with
 | some xf =>
  obtain ⟨x,F'⟩:=xf
  refine wpAny_bind (wpAny_setField ho hd (by simp) ?_)
  have ho1:=zgu (j:=0) (x:=rawInt F') ho hd
  have hd1:=Obj.data_mapFields hd (f:=(·.setIfInBounds 0 (rawInt F')))
  refine wpAny_bind (wpAny_setField ho1 hd1 (by simp) (wpAny_pure ⟨x,rfl,wpAny_pure (h1 x F' rfl _ ((Heap.SameBut.update ..).trans (Heap.SameBut.update ..)) ?_)⟩))
  refine ⟨_,zgu ho1 hd1,(Obj.cls_mapFields ..).trans ((Obj.cls_mapFields ..).trans hc),?_⟩
  rw[Obj.data_mapFields hd1]
  simp[rawInt]
 | none =>
  refine wpAny_bind (wpAny_setField ho hd (by simp) ?_)
  refine zlv hh fun h' k=>h2 rfl h' fun b o hb e=>k b o ?_
  exact (ydn _ _ _ _ hb).trans e
end
end zaL
namespace zaL
section
variable {prog:Program} {w:World} {A:Around} {E:Value->Shared->Prop} {s:Shared} {I a T:Addr} {es:Array (Int × Value)} {ep:Nat} {t:SetTable} {ps:Array Value}
def zeh (h:Heap) (T:Addr) (ps:Array Value):Prop:=∃ o n,h.get? T=some o/\o.data=.seq ps n
theorem zeh.keep {h h':Heap} (x:zeh h T ps) (k:∀ o,h.get? T=some o->h'.get? T=some o):zeh h' T ps:=let ⟨o,n,a,b⟩:=x;⟨o,n,k o a,b⟩
theorem zkc {i:Nat} {Q:Option Value->Shared->Prop} (hh:A.handled=none) (It:zbB s.heap I a (.ref T) i es.size ep) (O:zbs s.heap a es ep t) (P:zeh s.heap T ps)
  (h1:∀ p,ps[i]?=some (.int p 0)->∀ k x,es[p.toNat]?=some (k,x)->∀ h',Heap.SameBut I s.heap h'->zbB h' I a (.ref T) (i+1) es.size ep->Q (some x) { s with heap:=h' })
  (h2:ps[i]?=none->∀ h',(∀ b o,b≠I->s.heap.get? b=some o->h'.get? b=some o)->Q none { s with heap:=h' })
  (hp:ps[i]?=none\/∃ p k x,ps[i]?=some (.int p 0)/\es[p.toNat]?=some (k,x)):wpAny (model prog w) A (pyNext (.ref I)) Q E s:=by
 obtain ⟨o,ho,hc,hd⟩:=id It
 obtain ⟨oT,nT,hT,hdT⟩:=P
 unfold pyNext
 refine wpAny_bind (wpAny_attempt (wpAny_callSpecial?_slot (name:=Str.ofString "__next__") It.ty zfp (wpAny_call_entry zfp It.ty zoD ?_ (zot _))))
 unfold Builtin.«set_iterator.__next__»
 refine wpAny_bind (wpAny_of_eq (a:=(Value.ref I,[])) rfl ?_)
 show wpAny _ _ (fieldsOf (.ref I) >>= _) _ _ s
 refine wpAny_bind (wpAny_fieldsOf ho hd ?_)
 show wpAny _ _ (setEntries a >>= _) _ _ s
 refine wpAny_bind ?_
 unfold setEntries
 refine wpAny_bind (zbV O (wpAny_pure ?_))
 dsimp only
 rw[if_neg (by simp)]
 simp only[Int.toNat_natCast]
 refine wpAny_bind (wpAny_seqItems hT hdT ?_)
 dsimp only
 rcases hp with hp | ⟨p,k,x,hp,hx⟩
 ·rw[hp]
  refine wpAny_bind (wpAny_setField ho hd (by simp) ?_)
  have ho1:=zgu (j:=0) (x:=rawInt 0) ho hd
  have hd1:=Obj.data_mapFields hd (f:=(·.setIfInBounds 0 (rawInt 0)))
  refine wpAny_bind (wpAny_setField ho1 hd1 (by simp) ?_)
  refine zlv hh fun h' k=>h2 hp h' fun b o hb e=>k b o ?_
  exact (ydn _ _ _ _ hb).trans ((ydn _ _ _ _ hb).trans e)
 ·rw[hp]
  dsimp only
  refine wpAny_bind ?_
  unfold setNextDrawn
  refine wpAny_bind (zbV O ?_)
  dsimp only
  rw[if_neg (by simp),hx]
  refine wpAny_pure (wpAny_bind (wpAny_setField ho hd (by simp) (wpAny_pure ⟨x,rfl,wpAny_pure (h1 p hp k x hx _ (Heap.SameBut.update ..) ?_)⟩)))
  refine ⟨_,zgu ho hd,(Obj.cls_mapFields ..).trans hc,?_⟩
  rw[Obj.data_mapFields hd]
  simp[rawInt]
theorem zqy (hh:A.handled=none) (ne:a≠I) {F:Nat->Nat} {ord:Nat->Value} (st:∀ i,i<=es.size->∀ (s:Shared),zbs s.heap a es ep t->∀ (A':Around) (E':Value->Shared->Prop) (Q':Option (Value × Nat)->Shared->Prop),
   Q' (if i<es.size then some (ord i,F (i+1)) else none) s->wpAny (model prog w) A' (setNext a (F i) i ep) Q' E' s) :
  Walks prog w A I [I,a] [I] es.size (fun i v=>v=ord i) (fun i h=>i<=es.size/\zbB h I a (.int (F i) 0) i es.size ep/\zbs h a es ep t) where
 sub:=fun b hb=>by simp at hb;simp[hb]
 frame:=fun _ _ _ st k=>⟨st.1,st.2.1.keep fun o e=>k I (by simp) o e,st.2.2.keep fun o e=>k a (by simp) o e⟩
 item:=fun i s Q E hi h hQ=>by
  refine zml hh h.2.1 h.2.2 (fun A' E' Q' q=>st i h.1 s h.2.2 A' E' Q' q) (fun x F' e h' sb It=>?_) fun e=>?_
  ·rw[if_pos hi] at e
   cases e
   exact hQ _ h' s.toks rfl ⟨hi,It,h.2.2.keep fun o e=>(sb.2 a ne).trans e⟩ fun b o hb e=>(sb.2 b fun z=>hb (by simp[z])).trans e
  ·rw[if_pos hi] at e;cases e
 done:=fun s Q E h hQ=>by
  refine zml hh h.2.1 h.2.2 (fun A' E' Q' q=>st _ h.1 s h.2.2 A' E' Q' q) (fun x F' e=>?_) fun _ h' k=>hQ h' s.toks fun b o hb e=>k b o (fun z=>hb (by simp[z])) e
  rw[if_neg (yda _)] at e;cases e
 self:=fun _ _ _ _ h q=>zln h.2.1 q
theorem zof (hh:A.handled=none) (ne:a≠I) (nT:T≠I) {ord:List Nat} (hps:ps=(ord.map fun i:Nat=>rawInt i).toArray) (hl:ord.length=es.size) (ho:∀ i∈ord,i<es.size) :
  Walks prog w A I [I,a,T] [I] es.size (fun i v=>∃ j,ord[i]?=some j/\∃ k,es[j]?=some (k,v)) (fun i h=>i<=es.size/\(zbB h I a (.ref T) i es.size ep/\zbs h a es ep t)/\zeh h T ps) where
 sub:=fun b hb=>by simp at hb;simp[hb]
 frame:=fun _ _ _ st k=>⟨st.1,⟨st.2.1.1.keep fun o e=>k I (by simp) o e,st.2.1.2.keep fun o e=>k a (by simp) o e⟩,st.2.2.keep fun o e=>k T (by simp) o e⟩
 item:=fun i s Q E hi h hQ=>by
  have hj:i<ord.length:=by ac_rfl
  have e0:ps[i]?=some (.int (ord[i]:Nat) 0):=by rw[hps];simp[hj,rawInt]
  have hlt:=ho ord[i] (yca hj)
  obtain ⟨⟨k0,x0⟩,q0⟩:∃ q,es[ord[i]]?=some q:=⟨_,ydw hlt⟩
  refine zkc hh h.2.1.1 h.2.1.2 h.2.2 (fun p ep' k x ex h' sb It=>?_) (fun e=>by rw[e0] at e;cases e) (.inr ⟨_,k0,x0,e0,by simpa using q0⟩)
  rw[e0] at ep'
  cases ep'
  refine hQ x h' s.toks ⟨ord[i],yaa hj,k,by simpa using ex⟩ ⟨hi,⟨It,h.2.1.2.keep fun o e=>(sb.2 a ne).trans e⟩,h.2.2.keep fun o e=>(sb.2 T nT).trans e⟩ fun b o hb e=>(sb.2 b fun z=>hb (by simp[z])).trans e
 done:=fun s Q E h hQ=>by
  have e0:ps[es.size]?=none:=by rw[hps];simp;ac_rfl
  exact zkc hh h.2.1.1 h.2.1.2 h.2.2 (fun p ep'=>by rw[e0] at ep';cases ep') (fun _ h' k=>hQ h' s.toks fun b o hb e=>k b o (fun z=>hb (by simp[z])) e) (.inl e0)
 self:=fun _ _ _ _ h q=>zln h.2.1.1 q
end
end zaL
namespace zaL
theorem zhK {α:Type}:∀ (l:List α) (i:Nat) (h:i<l.length),(l[i]::l.eraseIdx i).Perm l
 | x::xs,0,_=>.refl _
 | x::xs,i+1,h=>(List.Perm.swap x _ _).trans ((zhK xs i (by simpa using h)).cons x)
theorem zoV {α:Type} (next:Nat->Nat):∀ (fuel k:Nat) (left:List α) (out:Array α),left.length=fuel->(pickOrder.go next fuel k left out).toList.Perm (out.toList++left)
 | 0,k,left,out,h=>by
  have:left=[]:=List.length_eq_zero_iff.mp h
  subst this
  unfold pickOrder.go
  simp
 | fuel+1,k,left,out,h=>by
  have lt:next k % left.length<left.length:=Nat.mod_lt _ (by ac_rfl)
  unfold pickOrder.go
  rw[yaa lt]
  dsimp only
  refine (zoV next fuel (k+1) _ _ (by rw[List.length_eraseIdx_of_lt lt,h];rfl)).trans ?_
  rw[Array.toList_push,ycc]
  refine List.Perm.append_left _ ?_
  exact zhK left _ lt
theorem zij {α:Type} (next:Nat->Nat) (xs:Array α):(pickOrder next xs).toList.Perm xs.toList:=by
 unfold pickOrder
 simpa using zoV next xs.size 0 xs.toList #[] (by simp)
noncomputable def slotAt (t:SetTable) (i:Nat):Nat:=if i=0 then 0 else t.place.getD (i-1) 0+1
theorem below_at {t:SetTable} (h:Up t.place) {i:Nat} (hi:i<=t.place.size):SetTable.below t.place (slotAt t i)=i:=by
 obtain ⟨h0,h1,h2⟩:=zkA h (slotAt t i)
 generalize SetTable.below t.place (slotAt t i)=p at *
 have gd:∀ j,j<t.place.size->∀ d e,t.place.getD j d=t.place.getD j e:=fun j hj d e=>by simp[yeb,hj]
 by_cases hz:i=0
 ·subst hz
  refine Nat.eq_zero_of_not_pos fun hp=>?_
  have:=h1 0 hp
  unfold slotAt at this
  rw[if_pos rfl] at this
  ac_rfl
 ·have e:slotAt t i=t.place.getD (i-1) 0+1:=by unfold slotAt;rw[if_neg hz]
  rcases ydd p i with lt | rfl | gt
  ·have:=h2 (i-1) (by ac_rfl) (by ac_rfl)
   rw[gd _ (by ac_rfl) _ 0,e] at this
   ac_rfl
  ·rfl
  ·have:=h1 i gt
   have u:=zl6 h (i:=i-1) (j:=i) (by ac_rfl) (by ac_rfl) 0 0
   rw[gd _ (by ac_rfl) _ 0,e] at this
   ac_rfl
section
variable {prog:Program} {w:World} {a:Addr} {es:Array (Int × Value)} {ep:Nat} {t:SetTable}
theorem zpt (hb:w.params.followText "set-order" = false) (T:Tab false t) (hf:t.fits es.size=true) (hp:(!t.plain && decide (es.size > 1))=false) (i:Nat) (hi:i<=es.size) (s:Shared) (O:zbs s.heap a es ep t) (A':Around)
  (E':Value->Shared->Prop) (Q':Option (Value × Nat)->Shared->Prop) (q:Q' (if i<es.size then some ((es.getD i (0,.none)).2,slotAt t (i+1)) else none) s):wpAny (model prog w) A' (setNext a (slotAt t i) i ep) Q' E' s:=by
 have fz:t.place.size=es.size:=by simp[SetTable.fits] at hf;exact hf.1
 have up:Up t.place:=by
  by_cases pl:t.plain=true
  ·exact T.up pl
  ·have:es.size<=1:=by simp[pl] at hp;exact hp
   unfold Up
   have l1:t.place.toList.length<=1:=by rw[ydx];ac_rfl
   match hq:t.place.toList,l1 with
   | [],_=>exact .nil
   | [x],_=>exact ybr _ _
   | _::_::_,z=>simp at z
 unfold setNext
 refine wpAny_bind (zbV O ?_)
 unfold setsByText
 refine wpAny_bind (wpAny_bind (wpAny_askSetting (wpAny_pure ?_)))
 rw[show (model prog w).w.params.followText "set-order" = false from hb]
 rw[if_neg Bool.false_ne_true]
 dsimp only
 show wpAny _ _ (if (!t.plain && decide (es.size > 1))=true then _ else _) _ _ _
 rw[if_neg (by rw[hp];exact Bool.false_ne_true)]
 refine wpAny_bind ?_
 show wpAny _ _ (if (!t.led && !es.isEmpty)=true then _ else _) _ _ _
 rw[if_neg (by rw[T.led];simp)]
 refine wpAny_pure ?_
 rw[below_at up (by ac_rfl)]
 refine wpAny_pure ?_
 by_cases lt:i<es.size
 ·rw[if_pos lt] at q
  rw[ydw lt,ydw (by ac_rfl:i<t.place.size)]
  dsimp only
  have e1:(es.getD i (0,.none)).2=es[i].2:=by simp[yeb,lt]
  have e2:slotAt t (i+1)=t.place[i]'(by ac_rfl)+1:=by simp[slotAt,yeb,show i<t.place.size by ac_rfl]
  rw[e1,e2] at q
  exact q
 ·rw[if_neg lt] at q
  rw[Array.getElem?_eq_none (by ac_rfl)]
  exact q
theorem zpE (hb:w.params.followText "set-order" = true) (i:Nat) (hi:i<=es.size) (s:Shared) (O:zbs s.heap a es ep t) (A':Around)
  (E':Value->Shared->Prop) (Q':Option (Value × Nat)->Shared->Prop) (q:Q' (if i<es.size then some (((pickOrder (w.params.setOrder a ep) es).getD i (0,.none)).2,0) else none) s):wpAny (model prog w) A' (setNext a 0 i ep) Q' E' s:=by
 have sz:(pickOrder (w.params.setOrder a ep) es).size=es.size:=by
  have:=(zij (w.params.setOrder a ep) es).length_eq
  simpa using this
 unfold setNext
 refine wpAny_bind (zbV O ?_)
 unfold setsByText
 refine wpAny_bind (wpAny_bind (wpAny_askSetting (wpAny_pure ?_)))
 rw[show (model prog w).w.params.followText "set-order" = true from hb,if_pos rfl]
 dsimp only
 rw[if_neg (by simp)]
 refine wpAny_bind ?_
 unfold setWalk
 refine wpAny_bind (zbV O ?_)
 unfold setsByText
 refine wpAny_bind (wpAny_bind (wpAny_askSetting (wpAny_pure ?_)))
 rw[show (model prog w).w.params.followText "set-order" = true from hb,if_pos rfl]
 refine wpAny_bind (wpAny_askSetting (wpAny_pure (wpAny_pure ?_)))
 show Q' (Option.map (fun e=>(e.2,0)) (pickOrder (w.params.setOrder a ep) es)[i]?) s
 by_cases lt:i<es.size
 ·rw[if_pos lt] at q
  rw[ydw (by ac_rfl)]
  have e1:((pickOrder (w.params.setOrder a ep) es).getD i (0,.none)).2=((pickOrder (w.params.setOrder a ep) es)[i]'(by ac_rfl)).2:=by simp[yeb,show i<(pickOrder (w.params.setOrder a ep) es).size by ac_rfl]
  rw[e1] at q
  exact q
 ·rw[if_neg lt] at q
  rw[Array.getElem?_eq_none (by ac_rfl)]
  exact q
end
end zaL
namespace zaL
section
variable {prog:Program} {w:World} {A:Around} {E:Value->Shared->Prop}
theorem zo1 {src:Source} {n:Nat} {s:Shared} {Q:Nat->Shared->Prop} (hn:0<n) (h:∀ i d,i<n->Q i { s with drawn:=d }):wpAny (model prog w) A (choose src n) Q E s :=
 fun Γ p hΓ=>⟨by ac_rfl,h _ _ (Nat.mod_lt _ hn)⟩
theorem zlC {α:Type}:∀ (n:Nat) (xs:List α) (s:Shared) (Q:List α->Shared->Prop),xs.length=n->(∀ l d,l.Perm xs->Q l { s with drawn:=d })->wpAny (model prog w) A (drawOrder n xs) Q E s
 | 0,xs,s,Q,hl,h=>by
  have:xs=[]:=List.length_eq_zero_iff.mp hl
  subst this
  unfold drawOrder
  exact wpAny_pure (h [] s.drawn (.refl _))
 | n+1,[],s,Q,hl,h=>by simp at hl
 | n+1,x::xs,s,Q,hl,h=>by
  unfold drawOrder
  refine wpAny_bind (zo1 (by simp) fun i d hi=>?_)
  rw[yaa hi]
  refine wpAny_bind (zlC n _ _ _ (by rw[List.length_eraseIdx_of_lt hi,hl];rfl) fun l d' hp=>wpAny_pure (h _ d' ?_))
  exact (hp.cons _).trans (zhK (x::xs) i hi)
end
theorem zmG {P:Nat->Value->Prop} {acc:Array Value} {n:Nat} {f:Nat->Value} (h:ItemsOf P acc n) (hf:∀ i v,i<n->P i v->v=f i):acc.toList=(yaq n).map f:=by
 apply ybn
 intro j
 rw[yaf]
 by_cases lt:j<n
 ·have e:acc.toList[j]?=some (acc[j]'(by rw[h.1];exact lt)):=by rw[yea];exact ydw _
  rw[e,ybl lt]
  exact congrArg some (hf j _ lt (h.2 j _ (ydw _)))
 ·rw[yap (by rw[ydx,h.1];ac_rfl),yap (by rw[ybo];ac_rfl)]
  rfl
theorem zgi {α β:Type} (xs:Array α) (d:α) (f:α->β):(yaq xs.size).map (fun i=>f (xs.getD i d))=xs.toList.map f:=by
 apply ybn
 intro j
 rw[yaf,yaf]
 by_cases lt:j<xs.size
 ·rw[ybl lt,yea,ydw lt]
  simp[yeb,lt]
 ·rw[yap (by rw[ybo];ac_rfl),yap (by rw[ydx];ac_rfl)]
  rfl
section
variable {prog:Program} {w:World} {A:Around} {E:Value->Shared->Prop} {s:Shared} {a:Addr} {es:Array (Int × Value)} {ep:Nat} {t:SetTable}
theorem zrM {B:Around} {Q:Value->Shared->Prop} (hB:B.handled=none) (ty:s.TypeIs (.ref a) "set") (O:zbs s.heap a es ep t) (T:Tab (w.params.followText "set-order") t) (hz:es.size<=sizeLine)
  (hQ:∀ I h' d' fp P (St:Nat->Heap->Prop),Walks prog w B I fp [I] es.size P St->St 0 h'->(∀ b∈fp,b=a\/(s.heap.objs.size<=b/\b<h'.objs.size))->(∀ acc,ItemsOf P acc es.size->acc.toList.Perm (es.toList.map (·.2))) ->
   (∀ b o,s.heap.get? b=some o->h'.get? b=some o)->s.heap.objs.size<=I->Q (.ref I) { s with heap:=h',drawn:=d' }):wpAny (model prog w) A (pyIter (.ref a)) Q E s:=by
 have hf:t.fits es.size=true:=O.choose_spec.2.2
 have alt:a<s.heap.objs.size:=ydl O.choose_spec.1
 refine wpAny_pyIter_slot ty PySem.F.slot_set_iter (wpAny_call_entry PySem.F.slot_set_iter ty zq5 ?_ (PySem.F.args_set_iter_1 _))
 unfold Builtin.«frozenset.__iter__» Builtin.Frozenset.slot0
 refine wpAny_bind (wpAny_bind (wpAny_of_eq (a:=(Value.ref a,[])) rfl (wpAny_of_eq (a:=a) rfl ?_)))
 unfold Builtin.Frozenset.sizeOf setEntries
 refine wpAny_bind (wpAny_bind (wpAny_bind (zbV O (wpAny_pure (wpAny_pure ?_)))))
 unfold setDrawn setsByText
 refine wpAny_bind (wpAny_bind (zbV O (wpAny_bind (wpAny_bind (wpAny_askSetting (wpAny_pure (wpAny_pure ?_)))))))
 show wpAny _ _ (if (!w.params.followText "set-order" && (!t.plain && decide (es.size > 1)))=true then _ else _) _ _ _
 have body:∀ (first:Value) (s1:Shared),zbs s1.heap a es ep t->(∀ I h',h'=s1.heap.push { cls:=.type "set_iterator", data:=.fields #[first,.int (0:Nat) 0,.ref a,.int es.size 0,.int ep 0] }->I=s1.heap.objs.size->zbB h' I a first 0 es.size ep->zbs h' a es ep t->Q (.ref I) { s1 with heap:=h' }) ->
   wpAny (model prog w) A.in1 (setEpoch a >>= fun e=>newFields "set_iterator" [first,rawInt 0,.ref a,rawInt es.size,rawInt e] >>= fun x=>ret x) (fun fin s'=>∃ v,fin=.done (.ret v)/\∃ T' r,s'.TypeIs v T'/\typeLookup (.type T') "__next__" = pure (some r)/\Q v s') E s1:=fun first s1 O1 q=>by
  unfold setEpoch
  refine wpAny_bind (wpAny_bind (zbV O1 (wpAny_pure ?_)))
  refine wpAny_bind (wpAny_newObj_type (wpAny_pure ?_))
  have g:(s1.heap.push { cls:=.type "set_iterator", data:=.fields #[first,.int (0:Nat) 0,.ref a,.int es.size 0,.int ep 0] }).get? s1.heap.objs.size=some { cls:=.type "set_iterator", data:=.fields #[first,.int (0:Nat) 0,.ref a,.int es.size 0,.int ep 0] }:=ydm _ rfl
  exact ⟨_,rfl, "set_iterator", _,⟨_,g,rfl⟩,zfp.lookup,q _ _ rfl rfl ⟨_,g,rfl,rfl⟩ (O1.keep fun o e=>ydk _ e)⟩
 have pin:∀ (F:Nat->Nat) (ord:Nat->Value),F 0=0->(∀ i,i<=es.size->∀ (s:Shared),zbs s.heap a es ep t->∀ (A':Around) (E':Value->Shared->Prop) (Q':Option (Value × Nat)->Shared->Prop),
   Q' (if i<es.size then some (ord i,F (i+1)) else none) s->wpAny (model prog w) A' (setNext a (F i) i ep) Q' E' s)->((yaq es.size).map ord).Perm (es.toList.map (·.2)) ->
   wpAny (model prog w) A.in1 (setEpoch a >>= fun e=>newFields "set_iterator" [rawInt 0,rawInt 0,.ref a,rawInt es.size,rawInt e] >>= fun x=>ret x) (fun fin s'=>∃ v,fin=.done (.ret v)/\∃ T' r,s'.TypeIs v T'/\typeLookup (.type T') "__next__" = pure (some r)/\Q v s') E s:=fun F ord F0 st pm=>by
  refine body (rawInt 0) s O fun I h' eh eI It O'=>?_
  have Ilt:I<h'.objs.size:=by rw[eh,eI,ydq];exact ydc _
  refine hQ I h' s.drawn [I,a] _ _ (zqy (prog:=prog) (w:=w) (A:=B) hB (by rw[eI];exact ycw alt) st) ⟨ycz _,by rw[F0];exact It,O'⟩ (fun b hb=>?_) (fun acc hacc=>?_) (fun b o e=>by rw[eh];exact ydk _ e) (by rw[eI];exact ycv _)
  ·simp only[yak,ybt,or_false] at hb
   rcases hb with rfl | rfl
   ·exact .inr ⟨by rw[eI];exact ycv _,Ilt⟩
   ·exact .inl rfl
  ·rw[zmG hacc fun i v _ q=>q]
   exact pm
 by_cases hd:(!w.params.followText "set-order" && (!t.plain && decide (es.size > 1)))=true
 ·rw[if_pos hd]
  refine wpAny_bind (zlC es.size (yaq es.size) s _ (by simp) fun ord d hp=>?_)
  have ol:ord.length=es.size:=by rw[hp.length_eq];simp
  refine wpAny_bind (wpAny_newObj_type ?_ ?_)
  ·refine body (.ref s.heap.objs.size) { s with heap:=s.heap.push { cls:=.type "tuple", data:=.seq (ord.map fun i:Nat=>rawInt i).toArray },drawn:=d } (O.keep fun o e=>ydk _ e) fun I h' eh eI It O'=>?_
   have eI':I=s.heap.objs.size+1:=by rw[eI];exact ydq _ _
   have Ilt:h'.objs.size=s.heap.objs.size+2:=by rw[eh,ydq,ydq]
   have P:zeh h' s.heap.objs.size (ord.map fun i:Nat=>rawInt i).toArray:=⟨_,_,by rw[eh];exact ydk _ (ydm _ rfl),rfl⟩
   refine hQ I h' d [I,a,s.heap.objs.size] _ _ (zof (prog:=prog) (w:=w) (A:=B) hB (by rw[eI'];exact ycw (yde alt)) (by rw[eI'];exact ycw (ydc _)) rfl ol fun i hi=>by
    have:=hp.mem_iff.mp hi
    simpa using this) ⟨ycz _,⟨It,O'⟩,P⟩ (fun b hb=>?_) (fun acc hacc=>?_) (fun b o e=>by rw[eh];exact ydk _ (ydk _ e)) (by rw[eI'];exact ydh _)
   ·simp only[yak,ybt,or_false] at hb
    rcases hb with rfl | rfl | rfl
    ·exact .inr ⟨by rw[eI'];exact ydh _,by rw[Ilt,eI'];exact ydc _⟩
    ·exact .inl rfl
    ·exact .inr ⟨ycv _,by rw[Ilt];exact yde (ydc _)⟩
   ·have e1:acc.toList=(yaq es.size).map fun i=>(es.getD (ord.getD i 0) (0,.none)).2:=zmG hacc fun i v lt ⟨j,hj,k,hk⟩=>by
     have hlt:j<es.size:=by
      have:=hp.mem_iff.mp (yai hj)
      simpa using this
     have hi:i<ord.length:=by ac_rfl
     rw[yaa hi] at hj
     cases hj
     rw[ydw hlt] at hk
     cases hq:es[ord[i]]
     rw[hq] at hk
     cases hk
     simp[yeb,hi,hlt,hq]
    rw[e1]
    have e2:(yaq es.size).map (fun i=>(es.getD (ord.getD i 0) (0,.none)).2)=ord.map fun j=>(es.getD j (0,.none)).2:=by
     have:=zgi ord.toArray 0 fun j=>(es.getD j (0,.none)).2
     simpa [ol] using this
    rw[e2,<-zgi es (0,.none) (·.2)]
    exact hp.map _
  ·show (ord.map fun i:Nat=>rawInt i).toArray.size<=sizeLine
   simp[ol,hz]
 ·rw[if_neg hd]
  refine wpAny_bind (wpAny_pure ?_)
  cases hb:w.params.followText "set-order" with
  | true =>
   refine pin (fun _=>0) (fun i=>((pickOrder (w.params.setOrder a ep) es).getD i (0,.none)).2) rfl (fun i hi s O A' E' Q' q=>zpE hb i hi s O A' E' Q' q) ?_
   have sz:(pickOrder (w.params.setOrder a ep) es).size=es.size:=by
    have:=(zij (w.params.setOrder a ep) es).length_eq
    simpa using this
   rw[<-sz,zgi]
   exact (zij _ _).map _
  | false =>
   have T':=T
   rw[hb] at T'
   rw[hb] at hd
   refine pin (slotAt t) (fun i=>(es.getD i (0,.none)).2) rfl (fun i hi s O A' E' Q' q=>zpt hb T' hf (by simpa using hd) i hi s O A' E' Q' q) ?_
   rw[zgi]
end
end zaL
namespace zaL
theorem zsg:typeLookup (.type "set") "__len__" = pure (some (.builtin "set.__len__")):=by rw[typeLookup_type,builtinLookup_eq_fast];kernel_rfl
theorem zr5 {M:Model} {A:Around} {α:Type} {Q:α->Shared->Prop} {E:Value->Shared->Prop} {s:Shared} {c:Prop} [Decidable c] {x y:Sem α} (hc:c) (h:wpAny M A x Q E s):wpAny M A (if c then x else y) Q E s:=by rw[if_pos hc];exact h
theorem ztY {M:Model} {A:Around} {α:Type} {Q:α->Shared->Prop} {E:Value->Shared->Prop} {s:Shared} {c:Prop} [Decidable c] {x y:Sem α} (hc:¬ c) (h:wpAny M A y Q E s):wpAny M A (if c then x else y) Q E s:=by rw[if_neg hc];exact h
section
variable {prog:Program} {w:World} {A:Around} {E:Value->Shared->Prop} {s:Shared} {a:Addr} {es:Array (Int × Value)} {ep:Nat} {t:SetTable}
theorem zq0 {Q:Bool->Shared->Prop} (ty:s.TypeIs (.ref a) "set") (q:Q false s):wpAny (model prog w) A (Builtin.List.listLengthHint (.ref a)) Q E s:=by
 unfold Builtin.List.listLengthHint
 refine wpAny_bind (wpAny_specialOf ty zsg ?_)
 generalize hid:("set.__len__" : String)=id0
 have h1:splitId id0=some ("set", "__len__"):=by subst hid;decide +kernel
 dsimp only
 rw[h1]
 subst hid
 refine wpAny_bind (wpAny_isInstance (b:=true) ty (by rw[isSubtype_type];kernel_rfl) ?_)
 refine ztY (by simp) (zr5 (by decide +kernel) (wpAny_bind (wpAny_typeOf ty ?_)))
 exact wpAny_pure q
theorem zn2 {Q:List Value->Shared->Prop} (hh:A.handled=none) (ty:s.TypeIs (.ref a) "set") (O:zbs s.heap a es ep t) (T:Tab (w.params.followText "set-order") t) (hz:es.size<=sizeLine)
  (hQ:∀ vs h' d' tk,vs.Perm (es.toList.map (·.2))->(∀ b o,s.heap.get? b=some o->h'.get? b=some o)->Q vs { s with heap:=h',drawn:=d',toks:=tk }):wpAny (model prog w) A (collect (.ref a)) Q E s:=by
 have alt:a<s.heap.objs.size:=ydl O.choose_spec.1
 unfold collect
 refine wpAny_bind (wpAny_runValue (codeAny_builtin PySem.F.entry_proto_collect ?_))
 rw[Around.under_plainId PySem.F.plain_proto_collect _]
 show wpAny _ A.in1 (newList [] >>= fun l=>again (.builtin "list.__iadd__" ⟨[l,.ref a],[]⟩)) _ _ s
 refine wpAny_bind (wpAny_newObj_type ?_)
 refine wpAny_pure ⟨plainId_quiet PySem.F.plain_list_iadd _,codeAny_builtin PySem.F.entry_list_iadd ?_⟩
 rw[Around.under_plainId PySem.F.plain_list_iadd _]
 show wpAny _ A.in1 (Builtin.List.listExtendWith (.ref s.heap.objs.size) (.ref a) (.ref s.heap.objs.size)) _ _ _
 have ne:Builtin.List.listSameRef (.ref s.heap.objs.size) (.ref a)=false:=by
  have:s.heap.objs.size≠a:=ydg alt
  simp[Builtin.List.listSameRef,this]
 obtain ⟨oa,hoa,hca⟩:=id ty
 have ty1:({ s with heap:=s.heap.push { cls:=.type "list", data:=.seq ([]:List Value).toArray } }:Shared).TypeIs (.ref a) "set" := ⟨oa,ydk _ hoa,hca⟩
 unfold Builtin.List.listExtendWith
 refine wpAny_bind (wpAny_typeOf ty1 ?_)
 rw[if_neg (by rw[ne];decide)]
 refine wpAny_bind (zrM (B:=A.in1) (by simp[hh]) ty1 (O.keep fun o e=>ydk _ e) T hz fun I h' d' fp P St W st0 hfp pm kp hI=>?_)
 have S1:h'.get? s.heap.objs.size=some { cls:=.type "list", data:=.seq ([]:List Value).toArray }:=kp _ _ (ydm _ rfl)
 refine wpAny_bind (wpAny_holding (zq0 ⟨oa,kp _ _ (ydk _ hoa),hca⟩ ?_))
 refine zr5 (by decide +kernel) (wpAny_bind (wpAny_rule (wpAny_bind ?_)))
 unfold Builtin.List.listTouch
 have g1:(h'.update s.heap.objs.size (Obj.mapSeq (·.push Value.none))).get? s.heap.objs.size=some { cls:=.type "list", data:=.seq #[.none] 1 }:=ydo _ S1 rfl
 have g2:((h'.update s.heap.objs.size (Obj.mapSeq (·.push Value.none))).update s.heap.objs.size (Obj.mapSeq (·.pop))).get? s.heap.objs.size=some { cls:=.type "list", data:=.seq #[] 2 }:=ydo _ g1 rfl
 refine wpAny_bind (listUpdate_at S1 rfl (listUpdate_at g1 rfl ?_ (by decide) (by decide)) (by decide) (by decide))
 have Sf:s.heap.objs.size ∉ fp:=fun z=>by
  rcases hfp _ z with e | ⟨e,_⟩
  ·exact absurd alt (by rw[<-e];exact yda _)
  ·rw[ydq] at e
   exact Nat.not_succ_le_self _ e
 have st1:St 0 ((h'.update s.heap.objs.size (Obj.mapSeq (·.push Value.none))).update s.heap.objs.size (Obj.mapSeq (·.pop))):=W.frame 0 h' _ st0 fun b hb o e=>by
  have nb:b≠s.heap.objs.size:=fun z=>Sf (z ▸ hb)
  exact (ydn _ _ _ _ nb).trans ((ydn _ _ _ _ nb).trans e)
 refine wpAny_pure ⟨plainId_quiet PySem.F.plain_extend_loop _,codeAny_extend_loopS W.toS hz _ Sf _ es.size 0 _ #[] 2 rfl (ycz _) st1 g2 (ItemsOf.nil P) fun s' acc c mv S' hacc=>?_⟩
 show wpAny _ A (load s.heap.objs.size >>= _) _ _ s'
 refine wpAny_bind (wpAny_load S' (wpAny_pure ?_))
 obtain ⟨h2,g',d2,tk',os'⟩:=s'
 obtain rfl:g'=s.gens:=mv.gens
 obtain rfl:os'=s.os:=mv.os
 refine hQ acc.toList h2 d2 tk' (pm acc hacc) fun b o e=>mv.heap b o ?_ ?_
 ·intro z
  have lt:=ydl e
  rcases yak.mp z with z | z
  ·exact absurd lt (by rw[z];exact yda _)
  ·have z':b=I:=by simpa using z
   rw[z'] at lt
   have:s.heap.objs.size+1<=I:=by rw[<-ydq];exact hI
   exact absurd (ycx lt (ydb (ydh _) this)) (yda _)
 ·have nb:b≠s.heap.objs.size:=ycw (ydl e)
  exact (ydn _ _ _ _ nb).trans ((ydn _ _ _ _ nb).trans (kp b o (ydk _ e)))
end
end zaL
namespace zaL
theorem zoK:∀ {vs:List Value},(∀ v∈vs,∃ m t,v=.int m t)->IntsAre vs (vs.map intOf)
 | [],_=>.nil
 | v::vs,h=>by
  obtain ⟨m,t,rfl⟩:=h v (yao)
  exact .cons m t (zoK fun v hv=>h v (yan _ hv))
section
variable {prog:Program} {w:World} {A:Around} {E:Value->Shared->Prop} {s:Shared} {a:Addr} {ms:List Int}
theorem zo0 {Q:Value->Shared->Prop} (hh:A.handled=none) (S:zc2 prog w s.heap a ms) (h64:ms.length<64)
  (h:∀ h' d' tk (out:Array Value) ns' p n,IntsAre out.toList ns'->ns'.Perm ms->ns'.Pairwise (·<=·)->(∀ b o,s.heap.get? b=some o->h'.get? b=some o)->s.heap.get? p=none->h'.get? p=some (seqObj "list" out n)->Q (.ref p) { s with heap:=h',drawn:=d',toks:=tk }) :
  wpAny (model prog w) A (call (.builtin "sorted") [.ref a]) Q E s:=by
 obtain ⟨⟨o,es,ep,t,⟨ho,hex,hd⟩,⟨hel,hb,hf⟩,T,rfl⟩,nd⟩:=S
 have lz:es.size<64:=by simpa using h64
 refine Calls.call_function_entry kind_sorted plain_sorted entry_sorted (args_sorted1 _) ?_
 unfold Builtin.«sorted»
 refine wpAny_bind (m:=checkCount "sorted" 1 1 _) (wpAny_pure ?_)
 refine wpAny_bind (zn2 (by simp[hh]) ⟨o,ho,hex.1⟩ ⟨o,ho,hd,hf⟩ T (by rw[sizeLine_eq];ac_rfl) fun vs h1 d1 tk1 pm kp=>?_)
 have vi:IntsAre vs (vs.map intOf):=zoK fun v hv=>by
  obtain ⟨e,he,rfl⟩:=yah.mp (pm.mem_iff.mp hv)
  obtain ⟨⟨k,hk,_⟩,_⟩:=hel e he
  obtain ⟨t,e2⟩:=Value.isInt_shape (show Value.isInt k e.2=true from hk)
  exact ⟨k,t,e2⟩
 have vp:(vs.map intOf).Perm (es.toList.map fun e=>intOf e.2):=by
  have:=pm.map intOf
  rwa [ycb] at this
 have vl:vs.length<64:=by rw[pm.length_eq];simpa using lz
 have sl:vs.length<=sizeLine:=by rw[sizeLine_eq];ac_rfl
 refine wpAny_bind (wpAny_newList ?_ (by first | exact sl | simpa using sl))
 have g0:(h1.push (seqObj "list" vs.toArray 0)).get? h1.objs.size=some (seqObj "list" vs.toArray 0):=ydm _ rfl
 have ol:s.heap.get? h1.objs.size=none:=by
  cases q:s.heap.get? h1.objs.size with
  | none=>rfl
  | some u=>exact absurd (ydl (kp _ _ q)) (yda _)
 show wpAny _ _ _ _ _ { s with heap:=h1.push (seqObj "list" vs.toArray 0),drawn:=d1,toks:=tk1 }
 refine wpAny_bind (wpAny_holding (wpAny_call_entry slot_list_sort ⟨_,g0,rfl⟩ entry_list_sort (list_sort_tree g0 vi vl fun out ns' a1 a2 a3=>⟨_,rfl,?_⟩) (args_list_sort _)))
 obtain ⟨n,g1⟩:=sortedHeap_at (out:=out) g0
 refine wpAny_pure ⟨_,rfl,h _ _ _ out ns' h1.objs.size n a1 (a2.trans vp) a3 (fun b u e=>?_) ol g1⟩
 have e1:=kp b u e
 have lt:=ydl e1
 rw[sortedHeap_old (ycw lt) (by rw[size_push'];exact yde lt)]
 exact ydk _ e1
end
end zaL
noncomputable def zo2 (P:Program) (w:World) (a:Addr) (ms:List Int):HO:=.ext fun h=>zaL.zc2 P w h a ms
theorem zaL.zc2.obj {P:Program} {w:World} {h:Heap} {a:Addr} {ms:List Int} (S:zaL.zc2 P w h a ms):∃ o,h.get? a=some o:=let ⟨⟨o,_,_,_,⟨e,_⟩,_⟩,_⟩:=S;⟨o,e⟩
section
variable {X:Cx} {pins:List (Addr × Obj)} {σ:St} {H:Hp} {s:Shared}
theorem Inv.drew (I:Inv X pins σ H s) (d:Drawn):Inv X pins σ H { s with drawn:=d }:=⟨I.ok,I.os,I.bare,I.base,I.loc,I.cell,I.free,I.freeC,I.pin,I.hok,I.len⟩
theorem zgr (hc:X.calm=true):zbo X (.type "set") (fun xs H Q=>∃ (l:Addr) (ns:List Int),xs=[.ref l]/\SqL X.K H l (ns.map V.int)/\ns.length<4000 /\
  ∀ (p:Addr) (H':Hp) (ms:List Int),H p=none->Same H H'->H' p=some (zo2 X.prog X.w p ms)->ms.Nodup->(∀ m,m∈ms↔m∈ns)->ms.length<=ns.length->Q (.ref p) H'):=by
 intro pins s σ H xs us Q I r h
 obtain ⟨l,ns,rfl,hq,hl,q⟩:=h
 obtain ⟨u,rfl,rx⟩:=vals1 r
 cases rx
 obtain ⟨its,rv,pl,hz⟩:=I.list hq
 have len:its.length=ns.length:=by rw[<-rv.length,yab]
 refine zaL.zod (I.ok.hd hc) pl.isList (by simpa using ziX rv) (by show its.toArray.size+1<4096;simp;ac_rfl) fun h' tk ms S mm lm kp=>?_
 have k:∀ b o,s.heap.get? b=some o->h'.get? b=some o:=fun b o e=>kp b o (ydl e) e
 refine ⟨.ref s.heap.objs.size,_,I.laid (o:=zo2 X.prog X.w s.heap.objs.size ms) k (ycv _) ⟨S,S.obj,fun h1 h2 p e=>p.keep e⟩,rfl,q _ _ ms (I.hok.fresh (ycv _)) (ze (I.hok.fresh (ycv _)) _) zh S.nd mm lm⟩
theorem zdw (hc:X.calm=true) (hex:X.ex=[]:=by rfl):zbo X (.builtin "sorted") (fun xs H Q=>∃ (p:Addr) (ms:List Int),xs=[.ref p]/\H p=some (zo2 X.prog X.w p ms)/\ms.length<64 /\
  ∀ (l:Addr) (H':Hp) (ns:List Int),H l=none->Same H H'->H' l=some (.lst (ns.map V.int))->ns.Perm ms->ns.Pairwise (·<=·)->Q (.ref l) H'):=by
 intro pins s σ H xs us Q I r h
 obtain ⟨p,ms,rfl,hp,hl,q⟩:=h
 obtain ⟨u,rfl,rx⟩:=vals1 r
 cases rx
 refine zaL.zo0 (I.ok.hd hc) (I.hok p _ hp).1 hl fun h' d' tk out ns l n a1 a2 a3 kp new at_=>?_
 have vl:Vals (ns.map V.int) out.toList:=zig a1
 have nl:(ns.map V.int).length<=sizeLine:=by rw[yab,a2.length_eq,sizeLine_eq];ac_rfl
 have I1:Inv X pins σ (upd H l (.lst (ns.map V.int))) { s with heap:=h',toks:=tk }:=I.zmi kp new hex ⟨nl,out.toList,n,vl,by simpa [seqObj] using at_⟩
 exact ⟨.ref l,_,I1.drew d',rfl,q l _ ns (I.hok.gone new) (ze (I.hok.gone new) _) zh a2 a3⟩
end
theorem ziM {ns ms:List Int} (p:ns.Perm ms) (nd:ms.Nodup) (o:ns.Pairwise (·<=·)):ns.Pairwise (·<·):=by
 have n:=p.nodup_iff.mpr nd
 refine (o.and n).imp fun {a b} h=>?_
 have:=h.1
 have:=h.2
 ac_rfl
section
variable {X:Cx} {pins:List (Addr × Obj)} {σ:St} {H:Hp} {s:Shared} {h':Heap}
end
theorem zgt {K:W.Frag} {ix:List Nat} {te:TE} {σ:St} {a l:Addr} {xs:List V} {H:Hp} {R:Hp->Prop} (P:Nat->V->Prop) (ha:SqL K H a xs) (hl:H l=none) (hz:xs.length<=sizeLine)
  (hel:∀ i x H' Q',xs[i]?=some x->Same H H'->(∀ v,P i v->Q' v H')->te (some x::capts σ ix) H' Q') (fin:∀ ys:List V,ys.length=xs.length->(∀ j v,ys[j]?=some v->P j v)->R (upd H l (.lst ys))) :
  ∃ W:Nat->Nat->List V->Hp->Prop,(∃ m,W 0 m [] (upd H l (.lst [])))/\Turns ix te σ (Itl K a) l R W:=by
 refine ⟨fun i m ys H'=>m=xs.length-i/\i<=xs.length/\ys.length=i/\(∀ j v,ys[j]?=some v->P j v)/\H'=upd H l (.lst ys),⟨xs.length,by simp,ycz _,rfl,(fun j v e=>by simp at e),rfl⟩,?_⟩
 rintro i m ys H' ⟨rfl,hi,hx,hp,rfl⟩
 have hT:SqL K (upd H l (.lst ys)) a xs:=(ze hl _).seq ha
 refine ⟨zh,?_⟩
 by_cases hlt:i<xs.length
 ·have ex:xs[i]?=some xs[i]:=yaa hlt
  refine .inr ⟨⟨xs,_,hT,ex⟩,by ac_rfl,fun x H2 y=>?_⟩
  obtain ⟨e,y⟩:=y
  subst e
  have e2:=y xs hT
  refine hel i x _ _ e2 (ze hl _) fun v hv=>⟨zh,xs.length-(i+1),by ac_rfl,rfl,hlt,by rw[yae,hx];rfl,fun j w e=>?_,by rw[zad]⟩
  by_cases hj:j<ys.length
  ·rw[yax hj] at e
   exact hp j w e
  ·by_cases hj2:j=ys.length
   ·subst hj2
    rw[yau (ycv _),ydj] at e
    cases e
    rw[hx]
    exact hv
   ·rw[yap (by rw[yae,ybm];ac_rfl)] at e
    cases e
 ·exact .inl ⟨⟨xs,hT,by ac_rfl⟩,fin ys (by ac_rfl) hp⟩
theorem zbz {X:Cx} (K:W.Frag) (h:X.K=K:=by rfl):IxR X (ztJ K):=by subst h;exact zP
theorem zbK {X:Cx} (K:W.Frag) (h:X.K=K:=by rfl):IxR X (ztI K):=by subst h;exact zG
inductive zx (K:W.Frag) (H:Hp):List V->List (Int × Int)->Prop
 | nil:zx K H [] []
 | cons {p:Addr} {s:Int × Int} {xs:List V} {l:List (Int × Int)}:H p=some (.tup [.int s.1,.int s.2])->zx K H xs l->zx K H (.ref p::xs) (s::l)
section
variable {K:W.Frag} {H H':Hp} {xs ys zs:List V} {l:List (Int × Int)} {p:Addr} {s:Int × Int}
theorem zx.get (r:zx K H xs l):∀ {i:Nat} {x:V},xs[i]?=some x->∃ p s,x=.ref p/\l[i]?=some s/\H p=some (.tup [.int s.1,.int s.2]):=by
 induction r with
 | nil=>intro i x e;simp at e
 | cons h _ ih =>
  intro i x e
  cases i with
  | zero=>cases e;exact ⟨_,_,rfl,rfl,h⟩
  | succ i=>exact ih e
theorem zx.length (r:zx K H xs l):xs.length=l.length:=by
 induction r with
 | nil=>rfl
 | cons _ _ ih=>simp[ih]
theorem zx.same (r:zx K H xs l) (s:Same H H'):zx K H' xs l:=by
 induction r with
 | nil=>exact .nil
 | cons h _ ih=>exact .cons (s _ _ h) ih
theorem zx.put (r:zx K H xs l) (hp:H p=some (.lst ys)):zx K (upd H p (.lst zs)) xs l:=by
 induction r with
 | nil=>exact .nil
 | cons h _ ih=>exact .cons (by rw[zp (zaw h hp (by intro z;cases z))];exact h) ih
theorem zx.push (r:zx K H xs l) (h:H p=some (.tup [.int s.1,.int s.2])):zx K H (xs++[.ref p]) (l++[s]):=by
 induction r with
 | nil=>exact .cons h .nil
 | cons h' _ ih=>exact .cons h' ih
end
theorem zk7 {ys:List V} {ns:List Int} (h:ys.length=ns.length) (p:∀ j v,ys[j]?=some v->v=V.int (ns.getD j 0)):ys=ns.map V.int:=by
 apply ybn
 intro j
 rw[yaf]
 by_cases hj:j<ys.length
 ·have e:=yaa (l:=ys) hj
  rw[e,p j _ e,yaa (by ac_rfl:j<ns.length)]
  simp[show j<ns.length by ac_rfl]
 ·rw[yap (by ac_rfl),yap (by ac_rfl)]
  rfl
structure ziw (J:It) (H:Hp) (xs:List V):Prop where
 go:∀ i H',Same H H'->i<xs.length->J.go i H'
 yld:∀ i H' x H2,Same H H'->J.yld i H' x H2->H2=H'/\xs[i]?=some x
 stop:∀ i H',Same H H'->xs.length<=i->J.stop i H'
theorem zaz {K:W.Frag} {H:Hp} {a:Addr} {xs:List V} (h:SqL K H a xs):ziw (Itl K a) H xs :=
 ⟨fun i H' s hi=>⟨xs,_,s.seq h,yaa hi⟩,fun i H' x H2 s y=>⟨y.1,y.2 xs (s.seq h)⟩,fun i H' s hi=>⟨xs,s.seq h,hi⟩⟩
theorem zru {J:It} {ix:List Nat} {te:TE} {σ:St} {l:Addr} {xs:List V} {H:Hp} {R:Hp->Prop} (Y:ziw J H xs) (hl:H l=none) (hz:xs.length<=sizeLine) (P:Nat->V->Hp->Prop)
  (mono:∀ i v H1 H2,Same H1 H2->P i v H1->P i v H2) (put:∀ i v H1 ys zs,H1 l=some (.lst ys)->P i v H1->P i v (upd H1 l (.lst zs)))
  (hel:∀ i x H' Q',xs[i]?=some x->Same H H'->(∀ v H2,Same H' H2->P i v H2->Q' v H2)->te (some x::capts σ ix) H' Q')
  (fin:∀ ys H',Same H H'->H' l=some (.lst ys)->ys.length=xs.length->(∀ j v,ys[j]?=some v->P j v H')->R H') :
  ∃ W:Nat->Nat->List V->Hp->Prop,(∃ m,W 0 m [] (upd H l (.lst [])))/\Turns ix te σ J l R W:=by
 refine ⟨fun i m ys H'=>m=xs.length-i/\i<=xs.length/\ys.length=i/\(∀ j v,ys[j]?=some v->P j v H')/\Same H H'/\H' l=some (.lst ys),⟨xs.length,by simp,ycz _,rfl,(fun j v e=>by simp at e),ze hl _,zh⟩,?_⟩
 rintro i m ys H' ⟨rfl,hi,hx,hp,sH,hL⟩
 refine ⟨hL,?_⟩
 by_cases hlt:i<xs.length
 ·refine .inr ⟨Y.go i H' sH hlt,by ac_rfl,fun x H2 y=>?_⟩
  obtain ⟨rfl,e2⟩:=Y.yld i H' x H2 sH y
  refine hel i x _ _ e2 sH fun v H3 s3 hv=>⟨s3 _ _ hL,xs.length-(i+1),by ac_rfl,rfl,hlt,by rw[yae,hx];rfl,fun j w e=>?_,zJ (sH.trans s3) hl,zh⟩
  by_cases hj:j<ys.length
  ·rw[yax hj] at e
   exact put _ _ _ _ _ (s3 _ _ hL) (mono _ _ _ _ s3 (hp j w e))
  ·by_cases hj2:j=ys.length
   ·subst hj2
    rw[yau (ycv _),ydj] at e
    cases e
    rw[hx]
    exact put _ _ _ _ _ (s3 _ _ hL) hv
   ·rw[yap (by rw[yae,ybm];ac_rfl)] at e
    cases e
 ·exact .inl ⟨Y.stop i H' sH (by ac_rfl),fin ys H' sH hL (by ac_rfl) hp⟩
theorem zoG (n d k:Nat):HT.sIx n d (some (k:Int))=min k n:=by
 show (if (k:Int)<0 then ((k:Int)+(n:Int)).toNat else min (k:Int).toNat n)=min k n
 rw[if_neg (by ac_rfl)]
 rfl
theorem zoB (xs:List V) (k:Nat):zdQ xs (some (k:Int)) none=xs.drop k:=by
 unfold zdQ
 rw[zoG,show HT.sIx xs.length xs.length none=xs.length from rfl]
 by_cases h:k<=xs.length
 ·rw[Nat.min_eq_left h,yay (by rw[List.length_drop];exact ycv _)]
 ·rw[Nat.min_eq_right (by ac_rfl),List.drop_of_length_le (ycv _),List.drop_of_length_le (by ac_rfl),List.take_nil]
theorem zoJ (xs:List V) (k:Nat):zdQ xs none (some (k:Int))=xs.take k:=by
 unfold zdQ
 rw[zoG,show HT.sIx xs.length 0 none=0 from rfl,List.drop_zero,Nat.sub_zero]
 by_cases h:k<=xs.length
 ·rw[Nat.min_eq_left h]
 ·rw[Nat.min_eq_right (by ac_rfl),yay (ycv _),yay (by ac_rfl)]
theorem zje {K:W.Frag} {H:Hp}:∀ {ys:List V} {l:List (Int × Int)},ys.length=l.length->(∀ (j:Nat) v s,ys[j]?=some v->l[j]?=some s->∃ p,v=.ref p/\H p=some (.tup [.int s.1,.int s.2]))->zx K H ys l
 | [],[],_,_=>.nil
 | y::ys,s::l,e,h=>by
  obtain ⟨p,rfl,hp⟩:=h 0 y s rfl rfl
  exact .cons hp (zje (by simpa using e) fun j v u h1 h2=>h (j+1) v u h1 h2)
 | [],_::_,e,_=>by simp at e
 | _::_,[],e,_=>by simp at e
end L2
namespace L2
open PySem
end L2
namespace L2
open PySem PySem.Spec PyProof.Rows
section
variable {X:Cx} {pins:List (Addr × Obj)} {σ:St} {H:Hp} {s:Shared} {sc:Scope} {x:Str} {ix:List Nat} {fp:List Addr} {elt iter c:Expr} {te:TE} {tt:TT} {wi:TI} {px pos:Pos}
theorem zqM {y:Str} {i:Nat} {py spos:Pos} (hN:X.N.Nodup) (hiy:X.N[i]?=some y) (hy:X.env.scope.names.lookup y=some .local) (O:zeJ X sc x ix) (hi:PI X (.Name x px) iter wi) (htt:∀ b,PT (X.block sc x ix b) c tt) (hel:∀ b,PE (X.block sc x ix b) elt te)
  (hc:X.calm=true:=by rfl) (hs:∀ v,foldedSetIterable iter X.env v=pure v:=by intro _;rfl) (hsw:swapsWith (.ListComp elt [⟨.Name x px,iter,[c],0⟩] sc pos) (some (.Name y py)) spos.line X.env=pure true:=by rfl) :
  PS X (.Assign [.Name y py] (.ListComp elt [⟨.Name x px,iter,[c],0⟩] sc pos) spos) (zmw (zoL ix wi tt te) (zfk i)):=by
 intro pins s σ H D I h
 rw[exec_Assign_Name_used _ _ _ _ hsw]
 refine wpAny_bind (wpAny_standAt (wpAny_bind ?_))
 show wpAny _ X.A (do let _ <-comprehension (.ListComp elt [⟨.Name x px,iter,[c],0⟩] sc pos) sc X.env _ (newList []) false (eval iter X.env) (some (assign (.Name y py) X.env))) _ _ s
 refine wpAny_bind (wpAny_mono (wpAny_comprehension_free (use:=some (assign (.Name y py) X.env)) (Q:=fun _ s'=>SP X pins D .next s') rfl hs O.clos O.kind O.names
  (thn (hi pins s σ H _ I h) fun xv s1 h1=>thn h1 fun itv s2 h2=>?_)) (fun _ s' hq=>wpAny_pure (wpAny_pure hq)) fun _ _ e=>e)
 obtain ⟨it,fp,tn,J,H2,e,I2,T,st2,f2,hq⟩:=h2
 subst e
 refine zjp O htt hel hc I2 T st2 f2 (fun l H'=>D.nx (σ.set i (some (.ref l))) H') hq ?_
 intro l C m s' H' I' hn hf r
 obtain ⟨o,es,ep,ho,hd,hr⟩:=id hn
 have Ip:=I'.addpin ho hf.1 hf.2.1 hf.2.2.1 (by intro v z;rw[hd] at z;cases z)
 refine thn ((zay (i:=i) hN hiy (Or.inl hy) (Or.inr hy):PG X (.Name y py) (zfk i)) _ s' σ H' (.ref l) (.ref l) (fun σ' H''=>σ'=σ.set i (some (.ref l))/\H''=H') Ip rfl ⟨rfl,rfl⟩) fun _ s'' ⟨σ'',H'',I'',e1,e2⟩=>?_
 subst e1 e2
 have pc:=(I''.pin (C,o) (yaj _ (yaj _ yao))).1
 refine ⟨m,⟨o,es,ep,pc,hd,hr⟩,fun h' hb=>⟨_,_,?_,r⟩⟩
 exact I''.unpinned.turned (t':=s''.toks) (fun b o hne e=>hb.extBut b o hne e) hf.1 hf.2.1 hf.2.2.2.1 hf.2.2.2.2.1 hf.2.2.2.2.2
end
structure Mk0 (K:W.Frag) (C:Addr):Prop where
 makes:PySem.W.makesIn K C=true
 init:PySem.W.findIn K (.ref C) "__init__" = some (some (.builtin "object.__init__"))
 kp:PySem.W.keepIn K (.ref C)=true
def zt3 (C:Addr):TE:=fun _ H Q=>∀ x dx,H x=none->H dx=none->dx≠x->Q (.ref x) (upd (upd H dx (.own x)) x (.ins C dx []))
section
variable {X:Cx} {C:Addr} {x m:Str} {p pos apos:Pos} {e o:Expr} {es:List Expr} {ta:TE} {t:TA} {j k:Nat} {ps:List Str}
theorem zoE (M:Mk0 X.K C) (hm:X.mg x=some (.ref C)) (hg:Gl X x:=by rfl) (hdb:(x == ("__debug__" : Str))=false:=by decide):PE X (.Call (.Name x p) [] [] pos) (zt3 C):=by
 intro pins s σ H Q I h
 refine wpAny_Call_Name_kw (zde I hg hm ?_ hdb)
 refine PySem.W.callWith_K0 I.kIn M.kp ?_
 have hq:=h (s.heap.objs.size+1) s.heap.objs.size (I.hok.fresh (ydh _)) (I.hok.fresh (ycv _)) (ycw (ydc _))
 have I2:=Inv.made (C:=C) I
 have Y:=PySem.W.makes_of (M:=model X.prog X.w) I.kIn M.makes
 have e2:((s.heap.push PySem.W.emptyDict).push (PySem.W.instObj C s.heap.objs.size)).get? (s.heap.objs.size+1)=some (PySem.W.instObj C s.heap.objs.size):=by
  have:=ydm (s.heap.push PySem.W.emptyDict) (o:=PySem.W.instObj C s.heap.objs.size) rfl
  rwa [ydq] at this
 refine wpAny_call (zpL I.kIn M.makes M.init (fun self=>PySem.W.Looks.of_pure (PySem.W.oi_bind self)) ?_)
 have t1:PySem.W.Looks (model X.prog X.w) ((s.heap.push PySem.W.emptyDict).push (PySem.W.instObj C s.heap.objs.size)) (typeOf (.ref (s.heap.objs.size+1))) (.ref C):=(PySem.W.Looks.ld e2).andThen .now
 have t2:PySem.W.Looks (model X.prog X.w) ((s.heap.push PySem.W.emptyDict).push (PySem.W.instObj C s.heap.objs.size)) (isInstance (.ref (s.heap.objs.size+1)) (.type "object")) true:=t1.andThen (Y.top.keeps fun b o e=>ydk _ (ydk _ e))
 refine codeAny_call_builtin PySem.W.oi_plain PySem.W.entry_oi (@PySem.W.check_slot (model X.prog X.w) _ _ _ "object.__init__" "object" "__init__" (.ref (s.heap.objs.size+1)) [] [] _ PySem.W.oi_kind PySem.W.oi_split t2 (PySem.W.oi_args (.ref (s.heap.objs.size+1))) ?_)
 rw[PySem.W.oi_run]
 exact wpAny_pure (And.intro rfl ⟨V.ref (s.heap.objs.size+1),_,I2,rfl,hq⟩)
inductive Kd where
 | plain | bank
noncomputable def Kd.cls:Kd->Str
 | .plain => "Count"
 | .bank => "Bank"
def zb9 (K:W.Frag) (H:Hp) (a:Addr) (kd:Kd):Prop:=∃ dx,H a=some (.ins (cA K kd.cls) dx [])
theorem zb9.same {K:W.Frag} {H H':Hp} {a:Addr} {kd:Kd} (h:zb9 K H a kd) (s:Same H H'):zb9 K H' a kd:=let ⟨dx,e⟩:=h;⟨dx,s _ _ e⟩
structure zv (K:W.Frag) (C:Addr) (m qual:Str) (st:Stmt) (ps:List Str):Prop where
 ex:∃ (f:Addr) (fd:FuncData),Fun K m qual st f fd/\Meth K C m f/\∀ us:List Value,us.length=ps.length->bindArgs fd ⟨us,[]⟩=pure (ps.zip us)
structure zu (P:Program) (w:World) (K:W.Frag) (mg:Str->Option Value) (base:Heap) (k:Nat) (C:Addr) (m:Str) (ps:List Str) (sp:Sp):Prop where
 ex:∃ (f:Addr) (fd:FuncData),zba P w K mg base CX0 k f fd ps sp/\Meth K C m f/\∀ us:List Value,us.length=ps.length->bindArgs fd ⟨us,[]⟩=pure (ps.zip us)
theorem zv.ok {P:Program} {w:World} {K:W.Frag} {mg:Str->Option Value} {base:Heap} {C:Addr} {m qual:Str} {st:Stmt} {N ps:List Str} {k:Nat} {sp:Sp} (S:zv K C m qual st ps) (sc:zi N ps (zg st)) (len:∀ vs H Q E,sp vs H Q E->vs.length=ps.length)
  (hbody:∀ (f:Addr) (cdv:Value) (A:Around) (outer:List Env) (s:Shared) (H:Hp) (vs:List V) (Q:VK) (E:XK),Room k (A.deeper (envOfC qual (zg st) s.heap.objs.size f cdv))->sp vs H Q E ->
   ∃ t,PSs (zaC CX0 P w K mg base N qual (zg st) f cdv A outer s H E).nox (zaE st) t/\t { nx:=fun _ H'=>Q .non H',rt:=Q } (start N vs) H):zu P w K mg base (k+1) C m ps sp:=by
 obtain ⟨f,fd,F,hm,hb⟩:=S.ex
 exact ⟨f,fd,F.ok sc len (fun cdv=>hbody f cdv),hm,hb⟩
def zqj (K:W.Frag) (sp:Kd->Sp) (ta:TE) (t:TA):TE:=fun σ H Q=>ta σ H fun x H1=>∃ (kd:Kd) (a:Addr),x=.ref a/\zb9 K H1 a kd/\t σ H1 fun vs H2=>sp kd (x::vs) H2 Q E0
theorem zjM {pl:Sem Bool} {sp:Kd->Sp} (D:∀ kd:Kd,zu X.prog X.w X.K X.mg X.base j (cA X.K kd.cls) m ps (sp kd)) (hc:∀ kd:Kd,Cls X.K (cA X.K kd.cls)) (hr:Room k X.A) (he:PE X o ta) (ha:PA X (e::es) t) (hj:j<=k:=by decide)
  (hst:starEach (e::es) X.env=(false,eval e X.env)::starEach es X.env:=by rfl) (hpl:(backTo pos (starEach es X.env)).any (·.1)=false:=by rfl)
  (ht:eval (.Call (.Attribute o m apos) (e::es) [] pos) X.env=(do
   let ov <-eval o X.env
   standAt apos.atName
   let (f,first) <-holding [ov] (getMethod ov m pl)
   callWith pos f first (backTo pos (starEach (e::es) X.env)) (backToKw pos (keywordEach [] X.env))):=by rfl) :
  PE X (.Call (.Attribute o m apos) (e::es) [] pos) (zqj X.K sp ta t):=by
 intro pins s σ H Q I h
 refine PySem.W.methodCall_KW (pl:=pl) (thn (he pins s σ H _ I h) fun u s1 ⟨x,H1,I1,rx,kd,a,ex,⟨dx,ea⟩,q⟩=>?_) ht
 subst ex
 obtain rfl:u=Value.ref a:=rx
 obtain ⟨f,fd,F,hm,hb⟩:=(D kd).ex
 refine zdg I1 ea (hc kd) hm rfl ?_
 refine PySem.W.callWith_K (first:=[.ref a]) (h₀:=X.base) I.ok.mod.kin hm.kp (thn (ha pos pins s1 σ H1 _ I1 q) fun us s2 ⟨vs,H2,I2,r,q2⟩=>⟨I2.kIn,?_⟩) hst hpl
 exact zf3 (us:=.ref a::us) (vs:=.ref a::vs) (dvs:=[]) (ds:=[]) F (hr.mono hj) (.all hb) .nil zgn I2 (.cons rfl r) (by rw[ybi];exact q2)
theorem ziN {pl:Sem Bool} {sp:Kd->Sp} (D:∀ kd:Kd,zu X.prog X.w X.K X.mg X.base j (cA X.K kd.cls) m ps (sp kd)) (hc:∀ kd:Kd,Cls X.K (cA X.K kd.cls)) (hr:Room k X.A) (he:PE X o ta) (hj:j<=k:=by decide)
  (ht:eval (.Call (.Attribute o m apos) [] [] pos) X.env=(do
   let ov <-eval o X.env
   standAt apos.atName
   let (f,first) <-holding [ov] (getMethod ov m pl)
   callWith pos f first (backTo pos (starEach [] X.env)) (backToKw pos (keywordEach [] X.env))):=by rfl) :
  PE X (.Call (.Attribute o m apos) [] [] pos) (zqj X.K sp ta zld):=by
 intro pins s σ H Q I h
 refine PySem.W.methodCall_KW (pl:=pl) (thn (he pins s σ H _ I h) fun u s1 ⟨x,H1,I1,rx,kd,a,ex,⟨dx,ea⟩,q⟩=>?_) ht
 subst ex
 obtain rfl:u=Value.ref a:=rx
 obtain ⟨f,fd,F,hm,hb⟩:=(D kd).ex
 refine zdg I1 ea (hc kd) hm rfl ?_
 exact PySem.W.callWith_K0 (first:=[.ref a]) I1.kIn hm.kp (zf3 (us:=[.ref a]) (vs:=[.ref a]) (dvs:=[]) (ds:=[]) F (hr.mono hj) (.all hb) .nil zgn I1 (.cons rfl .nil) q)
end
section
variable {K:W.Frag} {x:Str} {C f:Addr}
theorem zf4 (a:PySem.W.nsIn K mainGlobals x=some (some (.ref C))) (h1:PySem.W.plainGet K C Str.empty=true) (h2:PySem.W.hasDictIn K C=true) (h3:PySem.W.plainOver K C=true) (h4:PySem.W.findIn K (.ref C) "__setattr__" = some (some (.builtin "object.__setattr__"))):Cls K (cA K x):=by
 rw[zbj a];exact ⟨h1,h2,h3,h4⟩
theorem zqr (a:PySem.W.nsIn K mainGlobals x=some (some (.ref C))) (h1:PySem.W.makesIn K C=true) (h2:PySem.W.findIn K (.ref C) "__init__" = some (some (.builtin "object.__init__"))) (h3:PySem.W.keepIn K (.ref C)=true):Mk0 K (cA K x):=by
 rw[zbj a];exact ⟨h1,h2,h3⟩
theorem zF {m qual:Str} {st:Stmt} {ps:List Str} {oc:Value} {od an:Option Addr} {osl:Array (Option Value)} {kV doc pm cdv ct:Value} (a:PySem.W.nsIn K mainGlobals x=some (some (.ref C))) (hi:PySem.W.findIn K (.ref C) m=some (some (.ref f))) (hf:PySem.W.isFn K (.ref f)=true)
  (fk:PySem.W.keepIn K (.ref f)=true) (fl:K.lookup f=some ⟨oc,od,.func (PySem.W.fnOf m qual (zcs st) (zaE st) (zg st) .none kV doc pm an cdv ct),osl⟩) (fc:PySem.W.codeIn K cdv qual=true)
  (hb:∀ us:List Value,us.length=ps.length->bindArgs (PySem.W.fnOf m qual (zcs st) (zaE st) (zg st) .none kV doc pm an cdv ct) ⟨us,[]⟩=pure (ps.zip us)):zv K (cA K x) m qual st ps:=by
 rw[zbj a];exact ⟨f,_,zmj fl fc fk,⟨hi,hf,fk⟩,hb⟩
end
end L2
namespace L2
open PySem
end L2
namespace L2
theorem zsG {α:Type} {xs:List α} {v:α} (h:xs[xs.length-1]?=some v) (h0:0<xs.length):atI xs (-1)=some v:=by
 have e:ixN xs.length (-1)=some (xs.length-1):=by
  unfold ixN
  rw[if_neg (by decide),if_pos (by ac_rfl),show ((-1:Int)+(xs.length:Int)).toNat=xs.length-1 by ac_rfl]
 unfold atI
 rw[e]
 exact h
end L2
namespace L2
open PySem PySem.Spec PyProof.Rows
section
variable {X:Cx} {pins:List (Addr × Obj)} {σ:St} {H:Hp} {s:Shared} {sc:Scope} {x y0:Str} {ix:List Nat} {fp:List Addr}
end
section
variable {X:Cx} {pins:List (Addr × Obj)} {σ:St} {H:Hp} {s:Shared} {sc:Scope} {x y0:Str} {ix:List Nat} {fp:List Addr} {elt iter:Expr} {te:TE} {wi:TI} {px py0 pt0 pos:Pos} {kt0:Nat}
end
end L2
namespace SortT
open PySem PySem.W PyProof.Rows
noncomputable def okT {α:Type} (n:Nat) (lt:Nat->Nat->Bool):KasT α->(α->Prop)->Prop
 | .ret a,Q=>Q a
 | .ask i j k,Q=>(i<n/\j<n)/\okT n lt (k (lt i j)) Q
theorem zmY {α:Type} {n:Nat} {lt:Nat->Nat->Bool} {Q Q':α->Prop} (h:∀ a,Q a->Q' a):∀ (t:KasT α),okT n lt t Q->okT n lt t Q'
 | .ret a,q=>h a q
 | .ask i j k,q=>⟨q.1,zmY h _ q.2⟩
theorem zdW {α β:Type} {n:Nat} {lt:Nat->Nat->Bool} {f:α->KasT β} {Q:β->Prop}:∀ (t:KasT α),okT n lt t (fun a=>okT n lt (f a) Q)->okT n lt (t.bind f) Q
 | .ret a,q=>q
 | .ask i j k,q=>⟨q.1,zdW _ q.2⟩
theorem zqE {α:Type} {n:Nat} {lt:Nat->Nat->Bool} {s:Shared} {cmp:Nat->Nat->(Bool->Shared->Prop)->Shared->Prop} (hc:∀ i j C,i<n->j<n->C (lt i j) s->cmp i j C s) {Q:α->Prop} {R:α->Shared->Prop} (hR:∀ a,Q a->R a s):∀ (t:KasT α),okT n lt t Q->t.kasWp cmp R s
 | .ret a,q=>hR a q
 | .ask i j k,q=>hc i j _ q.1.1 q.1.2 (zqE hc hR _ q.2)
structure Ord (lt:Nat->Nat->Bool):Prop where
 irr:∀ i,lt i i=false
 asy:∀ i j,lt i j=true->lt j i=false
 neg:∀ i j k,lt i j=false->lt j k=false->lt i k=false
variable {N:Nat} {lt:Nat->Nat->Bool}
def In (N:Nat) (p:Array Nat):Prop:=p.size=N/\∀ i,i<N->p.getD i 0<N
def Up (lt:Nat->Nat->Bool) (p:Array Nat) (k:Nat):Prop:=∀ i j,i<=j->j<k->lt (p.getD j 0) (p.getD i 0)=false
def Dn (lt:Nat->Nat->Bool) (p:Array Nat) (k:Nat):Prop:=∀ i j,i<=j->j<k->lt (p.getD i 0) (p.getD j 0)=false
theorem zhm {p q:Array Nat} {i j:Nat} (h:p[i]?=q[j]?):p.getD i 0=q.getD j 0:=by
 rw[ydy,ydy,h]
theorem zci {p:Array Nat} {i j k:Nat} (hj:j<=p.size):(kas_rev p i j).getD k 0=if i<=k/\k<j then p.getD (i+j-1-k) 0 else p.getD k 0:=by
 have e:=getElem?_mirror_all (xs:=p) (i:=i) hj k
 unfold kas_rev
 by_cases c:i<=k/\k<j
 ·rw[if_pos c] at e ⊢;exact zhm e
 ·rw[if_neg c] at e ⊢;exact zhm e
theorem ziV {p:Array Nat} {i j:Nat} (h:In N p) (hj:j<=N):In N (kas_rev p i j):=by
 refine ⟨by rw[kas_rev_size];exact h.1,fun k hk=>?_⟩
 rw[zci (by rw[h.1];exact hj)]
 split
 ·exact h.2 _ (by ac_rfl)
 ·exact h.2 k hk
theorem Up.one {p:Array Nat} (O:Ord lt):Up lt p 1:=fun i j h1 h2=>by
 have:i=j:=by ac_rfl
 subst this
 exact O.irr _
theorem Up.next {p:Array Nat} {n:Nat} (O:Ord lt) (h:Up lt p n) (h1:1<=n) (c:lt (p.getD n 0) (p.getD (n-1) 0)=false):Up lt p (n+1):=fun i j h2 h3=>by
 by_cases e:j=n
 ·subst e
  by_cases e2:i=j
  ·subst e2;exact O.irr _
  ·exact O.neg _ _ _ c (h i (j-1) (by ac_rfl) (by ac_rfl))
 ·exact h i j h2 (by ac_rfl)
theorem zmm (O:Ord lt) {p:Array Nat} (hp:In N p) {Q:Nat->Prop}:∀ (f n:Nat),1<=n->n+f<=N->Up lt p n->(∀ m,n<=m->m<=n+f->Up lt p m->(m=n+f\/lt (p.getD m 0) (p.getD (m-1) 0)=true)->Q m)->okT N lt (kas_asc p f n) Q
 | 0,n,h1,h2,up,hQ=>hQ n (ycv _) (ycv _) up (.inl rfl)
 | f+1,n,h1,h2,up,hQ=>by
  refine ⟨⟨hp.2 n (by ac_rfl),hp.2 (n-1) (by ac_rfl)⟩,?_⟩
  cases c:lt (p.getD n 0) (p.getD (n-1) 0) with
  | true=>exact hQ n (ycv _) (by ac_rfl) up (.inr c)
  | false=>exact zmm O hp f (n+1) (by ac_rfl) (by ac_rfl) (up.next O h1 c) fun m a b u z=>hQ m (by ac_rfl) (by ac_rfl) u (by rcases z with z | z;exact .inl (by ac_rfl);exact .inr z)
theorem zhN (p:Array Nat) (i j:Nat):(kas_rev p i j).Perm p:=mirror_perm _ _ _ _
structure Des (lt:Nat->Nat->Bool) (p:Array Nat) (n q:Nat):Prop where
 hq:q+1<=n
 dn:Dn lt p n
 al:∀ i,n<=i+(q+1)->i<n->lt (p.getD i 0) (p.getD (n-1) 0)=false/\lt (p.getD (n-1) 0) (p.getD i 0)=false
theorem Des.alike {p:Array Nat} {n q:Nat} (O:Ord lt) (D:Des lt p n q) {i j:Nat} (h1:n<=i+(q+1)) (h2:i<n) (h3:n<=j+(q+1)) (h4:j<n):lt (p.getD i 0) (p.getD j 0)=false:=O.neg _ _ _ (D.al i h1 h2).1 (D.al j h3 h4).2
theorem Des.turn {p:Array Nat} {n q:Nat} (O:Ord lt) (D:Des lt p n q) (hn:n<=p.size):Dn lt (kas_rev p (n-(q+1)) n) n:=fun i j h1 h2=>by
 have:=D.hq
 rw[zci hn,zci hn]
 by_cases ci:n-(q+1)<=i/\i<n
 ·rw[if_pos ci,if_pos (show n-(q+1)<=j/\j<n by ac_rfl)]
  exact D.alike O (by ac_rfl) (by ac_rfl) (by ac_rfl) (by ac_rfl)
 ·rw[if_neg ci]
  by_cases cj:n-(q+1)<=j/\j<n
  ·rw[if_pos cj]
   exact D.dn _ _ (by ac_rfl) (by ac_rfl)
  ·rw[if_neg cj]
   exact D.dn i j h1 h2
theorem Des.fall {p:Array Nat} {n:Nat} (O:Ord lt) (dn:Dn lt p n) (h1:1<=n) (c:lt (p.getD (n-1) 0) (p.getD n 0)=false):Dn lt p (n+1):=fun i j h2 h3=>by
 by_cases e:j=n
 ·subst e
  by_cases e2:i=j
  ·subst e2;exact O.irr _
  ·exact O.neg _ _ _ (dn i (j-1) (by ac_rfl) (by ac_rfl)) c
 ·exact dn i j h2 (by ac_rfl)
theorem zi9 (O:Ord lt) {Q:Array Nat × Nat × Nat->Prop}:∀ (f:Nat) (p:Array Nat) (n q:Nat),In N p->n+f<=N->Des lt p n q->(∀ p' n' q',In N p'->p'.Perm p->n<=n'->n'<=n+f->Des lt p' n' q'->Q (p',n',q'))->okT N lt (kas_desc f p n q) Q
 | 0,p,n,q,hp,hn,D,hQ=>hQ p n q hp (Array.Perm.refl _) (ycv _) (ycv _) D
 | f+1,p,n,q,hp,hn,D,hQ=>by
  have hq:=D.hq
  refine ⟨⟨hp.2 n (by ac_rfl),hp.2 (n-1) (by ac_rfl)⟩,?_⟩
  cases c:lt (p.getD n 0) (p.getD (n-1) 0) with
  | true =>
   have c':=O.asy _ _ c
   show okT N lt (if q > 0 then _ else _) Q
   by_cases q0:q > 0
   ·rw[if_pos q0]
    have hs:n<=p.size:=by rw[hp.1];ac_rfl
    have dn:Dn lt (kas_rev p (n-(q+1)) n) (n+1):=by
     refine Des.fall O (D.turn O hs) (by ac_rfl) ?_
     rw[zci hs,zci hs,if_pos (by ac_rfl),if_neg (by ac_rfl)]
     exact O.neg _ _ _ (D.alike O (by ac_rfl) (by ac_rfl) (by ac_rfl) (by ac_rfl)) c'
    refine zi9 O f _ (n+1) 0 (ziV hp (by ac_rfl)) (by ac_rfl) ⟨by ac_rfl,dn,fun i a b=>?_⟩ fun p' n' q' a b c d e=>hQ p' n' q' a (b.trans (zhN _ _ _)) (by ac_rfl) (by ac_rfl) e
    have:i=n:=by ac_rfl
    subst this
    exact ⟨O.irr _,O.irr _⟩
   ·rw[if_neg q0]
    refine zi9 O f _ (n+1) 0 hp (by ac_rfl) ⟨by ac_rfl,Des.fall O D.dn (by ac_rfl) c',fun i a b=>?_⟩ fun p' n' q' a b c d e=>hQ p' n' q' a b (by ac_rfl) (by ac_rfl) e
    have:i=n:=by ac_rfl
    subst this
    exact ⟨O.irr _,O.irr _⟩
  | false =>
   refine ⟨⟨hp.2 (n-1) (by ac_rfl),hp.2 n (by ac_rfl)⟩,?_⟩
   cases d:lt (p.getD (n-1) 0) (p.getD n 0) with
   | true=>exact hQ p n q hp (Array.Perm.refl _) (ycv _) (by ac_rfl) D
   | false =>
    refine zi9 O f _ (n+1) (q+1) hp (by ac_rfl) ⟨by ac_rfl,Des.fall O D.dn (by ac_rfl) d,fun i a b=>?_⟩ fun p' n' q' a b c d e=>hQ p' n' q' a b (by ac_rfl) (by ac_rfl) e
    show lt (p.getD i 0) (p.getD n 0)=false/\lt (p.getD n 0) (p.getD i 0)=false
    by_cases e:i=n
    ·subst e
     exact ⟨O.irr _,O.irr _⟩
    ·have al:=D.al i (by ac_rfl) (by ac_rfl)
     exact ⟨O.neg _ _ _ al.1 d,O.neg _ _ _ c al.2⟩
theorem Dn.up {p:Array Nat} {n:Nat} (dn:Dn lt p n) (hn:n<=p.size):Up lt (kas_rev p 0 n) n:=fun i j h1 h2=>by
 rw[zci hn,zci hn,if_pos (by ac_rfl),if_pos (by ac_rfl)]
 exact dn _ _ (by ac_rfl) (by ac_rfl)
abbrev Good (N:Nat) (lt:Nat->Nat->Bool) (p0:Array Nat) (r:Nat × Array Nat):Prop:=In N r.2/\r.2.Perm p0/\1<=r.1/\r.1<=N/\Up lt r.2 r.1
theorem zmS (O:Ord lt) {p p0:Array Nat} {n:Nat} (hp:In N p) (pe:p.Perm p0) (h1:1<=n) (hn:n<=N) (dn:Dn lt p n):okT N lt (kas_tail3 n N p) (Good N lt p0):=by
 have hs:n<=p.size:=by rw[hp.1];ac_rfl
 refine zdW _ (zmm O (ziV hp hn) (N-n) n h1 (by ac_rfl) (dn.up hs) fun m a b u _=>?_)
 exact ⟨ziV hp hn,(zhN _ _ _).trans pe,by show 1<=m;ac_rfl,by show m<=N;ac_rfl,u⟩
theorem zju (O:Ord lt) {p p0:Array Nat} {n:Nat} (hp:In N p) (pe:p.Perm p0) (h1:1<=n) (hn:n+1<=N) (dn:Dn lt p (n+1)):okT N lt (kas_descPart n N p) (Good N lt p0):=by
 refine zdW _ (zi9 O (N-(n+1)) p (n+1) 0 hp (by ac_rfl) ⟨by ac_rfl,dn,fun i a b=>?_⟩ fun p' n' q' a b c d D=>?_)
 ·have:i=n:=by ac_rfl
  subst this
  exact ⟨O.irr _,O.irr _⟩
 ·show okT N lt (if q' > 0 then kas_tail3 n' N (kas_rev p' (n'-(q'+1)) n') else kas_tail3 n' N p') _
  have hs:n'<=p'.size:=by rw[a.1];ac_rfl
  by_cases q0:q' > 0
  ·rw[if_pos q0]
   exact zmS O (ziV a (by ac_rfl)) ((zhN _ _ _).trans (b.trans pe)) (by ac_rfl) (by ac_rfl) (D.turn O hs)
  ·rw[if_neg q0]
   exact zmS O a (b.trans pe) (by ac_rfl) (by ac_rfl) D.dn
theorem zrN (O:Ord lt) {p:Array Nat} (hp:In N p) (h1:1<=N):okT N lt (kas_count N p) (Good N lt p):=by
 refine zdW _ (zmm O hp (N-1) 1 (ycv _) (by ac_rfl) (Up.one O) fun n a b u z=>?_)
 show okT N lt (if (n == N)=true then _ else _) _
 by_cases e:n=N
 ·rw[if_pos (by rw[e];exact beq_self_eq_true N)]
  exact ⟨hp,Array.Perm.refl _,by show 1<=n;ac_rfl,by show n<=N;ac_rfl,u⟩
 ·rw[if_neg (by rw[beq_iff_eq];exact e)]
  have c:lt (p.getD n 0) (p.getD (n-1) 0)=true:=by rcases z with z | z;ac_rfl;exact z
  have c':=O.asy _ _ c
  by_cases g:n > 1
  ·rw[if_pos g]
   refine ⟨⟨hp.2 0 (by ac_rfl),hp.2 (n-1) (by ac_rfl)⟩,?_⟩
   cases d:lt (p.getD 0 0) (p.getD (n-1) 0) with
   | true=>exact ⟨hp,Array.Perm.refl _,by show 1<=n;ac_rfl,by show n<=N;ac_rfl,u⟩
   | false =>
    have hs:n<=p.size:=by rw[hp.1];ac_rfl
    have al:∀ i j,i<n->j<n->lt (p.getD i 0) (p.getD j 0)=false:=fun i j hi hj=>O.neg _ _ _ (u 0 i (ycz _) hi) (O.neg _ _ _ d (u j (n-1) (by ac_rfl) (by ac_rfl)))
    refine zju O (ziV hp (by ac_rfl)) (zhN _ _ _) (by ac_rfl) (by ac_rfl) (Des.fall O (fun i j h2 h3=>?_) (by ac_rfl) ?_)
    ·rw[zci hs,zci hs,if_pos (by ac_rfl),if_pos (by ac_rfl)]
     exact al _ _ (by ac_rfl) (by ac_rfl)
    ·rw[zci hs,zci hs,if_pos (by ac_rfl),if_neg (by ac_rfl)]
     exact O.neg _ _ _ (al _ (n-1) (by ac_rfl) (by ac_rfl)) c'
  ·rw[if_neg g]
   have e1:n=1:=by ac_rfl
   subst e1
   refine zju O hp (Array.Perm.refl _) (ycv _) (by ac_rfl) (Des.fall O (fun i j h2 h3=>?_) (ycv _) c')
   have:i=j:=by ac_rfl
   subst this
   exact O.irr _
theorem zjL (O:Ord lt) {p:Array Nat} (hp:In N p) {k:Nat} (hk:k<N) (u:Up lt p k) {Q:Nat->Prop}:∀ (f l r:Nat),l<=r->r<=k->r-l<=f->(∀ i,i<l->lt (p.getD k 0) (p.getD i 0)=false)->(∀ i,r<=i->i<k->lt (p.getD k 0) (p.getD i 0)=true) ->
  (∀ m,m<=k->(∀ i,i<m->lt (p.getD k 0) (p.getD i 0)=false)->(∀ i,m<=i->i<k->lt (p.getD k 0) (p.getD i 0)=true)->Q m)->okT N lt (kas_place p k f l r) Q
 | 0,l,r,h1,h2,h3,lo,hi,hQ=>hQ l (by ac_rfl) lo fun i a b=>hi i (by ac_rfl) b
 | f+1,l,r,h1,h2,h3,lo,hi,hQ=>by
  show okT N lt (if l>=r then _ else _) Q
  by_cases g:l>=r
  ·rw[if_pos g]
   exact hQ l (by ac_rfl) lo fun i a b=>hi i (by ac_rfl) b
  ·rw[if_neg g]
   refine ⟨⟨hp.2 k hk,hp.2 _ (by ac_rfl)⟩,?_⟩
   cases c:lt (p.getD k 0) (p.getD ((l+r) / 2) 0) with
   | true =>
    refine zjL O hp hk u f l ((l+r) / 2) (by ac_rfl) (by ac_rfl) (by ac_rfl) lo (fun i a b=>?_) hQ
    cases d:lt (p.getD k 0) (p.getD i 0) with
    | true=>rfl
    | false =>
     have:=O.neg _ _ _ d (u _ i a b)
     rw[c] at this
     cases this
   | false=>exact zjL O hp hk u f ((l+r) / 2+1) r (by ac_rfl) h2 (by ac_rfl) (fun i a=>O.neg _ _ _ c (u i _ (by ac_rfl) (by ac_rfl))) hi hQ
theorem zne {p:Array Nat} {k l i:Nat} (hk:k<p.size) (hl:l<=k):(bubble p k (k-l)).getD i 0=if i=l then p.getD k 0 else if l<i/\i<=k then p.getD (i-1) 0 else p.getD i 0:=by
 have e:=getElem?_bubble hk (k-l) (by ac_rfl) i
 rw[show k-(k-l)=l by ac_rfl] at e
 by_cases c:i=l
 ·rw[if_pos c] at e ⊢;exact zhm e
 ·rw[if_neg c] at e ⊢
  by_cases c2:l<i/\i<=k
  ·rw[if_pos c2] at e ⊢;exact zhm e
  ·rw[if_neg c2] at e ⊢;exact zhm e
theorem zqQ (O:Ord lt) {p0:Array Nat}:∀ (f:Nat) (p:Array Nat) (k:Nat),In N p->p.Perm p0->k+f=N->Up lt p k->okT N lt (kas_bin f p k) fun q=>In N q/\q.Perm p0/\Up lt q N
 | 0,p,k,hp,pe,e,u=>⟨hp,pe,by rw[<-e];exact u⟩
 | f+1,p,k,hp,pe,e,u=>by
  have hk:k<p.size:=by rw[hp.1];ac_rfl
  refine zdW _ (zjL O hp (by ac_rfl) u k 0 k (ycz _) (ycv _) (by ac_rfl) (fun i h=>absurd h (Nat.not_lt_zero _)) (fun i a b=>by ac_rfl) fun l hl lo hi=>?_)
  refine zqQ O f _ (k+1) ⟨by rw[bubble_size];exact hp.1,fun i h=>?_⟩ ((bubble_perm _ _ _).trans pe) (by ac_rfl) fun i j h1 h2=>?_
  ·rw[zne hk hl]
   by_cases c1:i=l
   ·rw[if_pos c1];exact hp.2 k (by ac_rfl)
   ·rw[if_neg c1]
    by_cases c2:l<i/\i<=k
    ·rw[if_pos c2];exact hp.2 _ (by ac_rfl)
    ·rw[if_neg c2];exact hp.2 i h
  ·rw[zne hk hl,zne hk hl]
   by_cases ei:i=l
   ·rw[if_pos ei]
    by_cases ej:j=l
    ·rw[if_pos ej];exact O.irr _
    ·rw[if_neg ej,if_pos (by ac_rfl)]
     exact O.asy _ _ (hi (j-1) (by ac_rfl) (by ac_rfl))
   ·rw[if_neg ei]
    by_cases ej:j=l
    ·rw[if_pos ej,if_neg (by ac_rfl)]
     exact lo i (by ac_rfl)
    ·rw[if_neg ej]
     by_cases ci:l<i/\i<=k
     ·rw[if_pos ci,if_pos (by ac_rfl)]
      exact u _ _ (by ac_rfl) (by ac_rfl)
     ·rw[if_neg ci]
      by_cases cj:l<j/\j<=k
      ·rw[if_pos cj]
       exact u _ _ (by ac_rfl) (by ac_rfl)
      ·rw[if_neg cj]
       exact u _ _ h1 (by ac_rfl)
theorem zsK (O:Ord lt) (h1:1<=N):okT N lt (kas_sort N) fun q=>In N q/\q.Perm (ybd (yaq N))/\Up lt q N:=by
 have hp:In N (ybd (yaq N)):=⟨by simp,fun i h=>by
  rw[ydy]
  simp[h]⟩
 refine zdW _ (zmY (fun r g=>?_) _ (zrN O hp h1))
 obtain ⟨a,b,c,d,e⟩:=g
 show okT N lt (if r.1<N then _ else _) _
 by_cases h:r.1<N
 ·rw[if_pos h]
  exact zqQ O _ _ _ a b (by ac_rfl) (by rw[Nat.max_eq_left c];exact e)
 ·rw[if_neg h]
  have:r.1=N:=by ac_rfl
  exact ⟨a,b,by rw[<-this];exact e⟩
end SortT
namespace SortT
open PySem PySem.W PyProof.Rows PySem.Calls
def za1 (h:Heap) (v:Value) (x:Int × Int):Prop:=∃ a o n t u,v=.ref a/\h.get? a=some o/\o.cls=.type "tuple" /\ o.data=.seq #[.int x.1 t,.int x.2 u] n
theorem za1.keep {h h':Heap} {v:Value} {x:Int × Int} (p:za1 h v x) (k:∀ a o,v=.ref a->h.get? a=some o->h'.get? a=some o):za1 h' v x:=by
 obtain ⟨a,o,n,t,u,rfl,e,r⟩:=p
 exact ⟨a,o,n,t,u,rfl,k a o rfl e,r⟩
def lex (x y:Int × Int):Bool:=decide (x.1<y.1\/(x.1=y.1/\x.2<y.2))
section
variable {prog:Program} {w:World} {A:Around} {E:Value->Shared->Prop} {s:Shared}
theorem zsM {v v':Value} {x y:Int × Int} (hv:za1 s.heap v x) (hw:za1 s.heap v' y) {Q:Bool->Shared->Prop} (h:Q (lex x y) s):wpAny (model prog w) A (keyLt' (tuples' true) v v') Q E s:=by
 obtain ⟨a,o,n,t,u,rfl,e,c,d⟩:=hv
 obtain ⟨a',o',n',t',u',rfl,e',c',d'⟩:=hw
 refine kat_lt e d e' d' ?_
 refine kat_cons (wpAny_eqBool_int ?_)
 by_cases c1:x.1=y.1
 ·rw[show (x.1 == y.1)=true from beq_iff_eq.mpr c1]
  refine kat_yes (kat_cons (wpAny_eqBool_int ?_))
  by_cases c2:x.2=y.2
  ·rw[show (x.2 == y.2)=true from beq_iff_eq.mpr c2]
   refine kat_yes (kat_nil ?_)
   have:lex x y=false:=decide_eq_false (by ac_rfl)
   rw[this] at h
   exact h
  ·rw[show (x.2 == y.2)=false from beq_eq_false_iff_ne.mpr c2]
   refine kat_no (kat_one _ _ (lt_int ?_))
   have:lex x y=decide (x.2<y.2):=decide_eq_decide.mpr (by ac_rfl)
   rw[this] at h
   exact h
 ·rw[show (x.1 == y.1)=false from beq_eq_false_iff_ne.mpr c1]
  refine kat_no (oneLt_int ?_)
  have:lex x y=decide (x.1<y.1):=decide_eq_decide.mpr (by ac_rfl)
  rw[this] at h
  exact h
theorem zoC (f:Nat->Int × Int):Ord fun i j=>lex (f i) (f j):=by
 refine ⟨fun i=>decide_eq_false (by ac_rfl),fun i j h=>?_,fun i j k h1 h2=>?_⟩
 ·have:=of_decide_eq_true h
  exact decide_eq_false (by ac_rfl)
 ·have a:=of_decide_eq_false h1
  have b:=of_decide_eq_false h2
  exact decide_eq_false (by ac_rfl)
theorem zjq {a:Addr} {vs:List Value} {n:Nat} {P:PySem.Fin->Shared->Prop} {f:Nat->Int × Int} (ho:s.heap.get? a=some (seqObj "list" vs.toArray n)) (h64:vs.length<64) (hp:∀ i,i<vs.length->za1 s.heap (vs.getD i .none) (f i))
  (h:∀ p:Array Nat,In vs.length p->p.Perm (ybd (yaq vs.length))->Up (fun i j=>lex (f i) (f j)) p vs.length->P (.done (.ret .none)) { s with heap:=sortedHeap s.heap a vs (ybd (p.toList.map fun i=>vs.getD i Value.none)) }) :
  wpAny (model prog w) A (Builtin.«list.sort» ⟨[.ref a],[]⟩) P E s:=by
 rw[list_sort_plain]
 have ha:a<s.heap.objs.size:=ydl ho
 refine wpAny_bind (listItems_at ho rfl ?_)
 refine wpAny_bind (listUpdate_at ho rfl ?_ (by rw[yal,sizeLine_eq];ac_rfl) (ycz _))
 obtain ⟨e1,ho1⟩:∃ e1,(s.heap.update a (Obj.mapSeq fun _=>#[])).get? a=some (seqObj "list" #[] e1):=⟨_,get?_update_seq ho (fun _=>#[])⟩
 refine wpAny_bind (seqEpoch_at ho1 rfl ?_)
 refine wpAny_bind (wpAny_newTuple ?_ (by show vs.length<=_;rw[sizeLine_eq];ac_rfl))
 refine wpAny_bind (wpAny_newList ?_ (ycz _))
 refine wpAny_holding ?_
 have ho6:(((s.heap.update a (Obj.mapSeq fun _=>#[])).push (seqObj "tuple" vs.toArray 0)).push (seqObj "list" #[] 0)).get? a=some (seqObj "list" #[] e1):=ydk _ (ydk _ ho1)
 show wpAny (model prog w) A _ P E { s with heap:=((s.heap.update a (Obj.mapSeq fun _=>#[])).push (seqObj "tuple" vs.toArray 0)).push (seqObj "list" #[] 0) }
 dsimp only
 have hsz:vs.toArray.size=vs.length:=by simp
 have outsz:∀ p:Array Nat,p.size=vs.length->(ybd (p.toList.map fun i=>vs.getD i Value.none)).size<=sizeLine:=fun p hp=>by
  rw[yal,yab,ydx,hp,sizeLine_eq];ac_rfl
 by_cases h2:vs.toArray.size<2
 ·rw[if_pos h2,if_pos h2]
  refine wpAny_bind (wpAny_pure ?_)
  rw[StateT.run_pure]
  refine wpAny_bind (wpAny_pure ?_)
  dsimp only
  have hin:In vs.length (ybd (yaq vs.length)):=⟨by simp,fun i h=>by rw[ydy];simp[h]⟩
  have key:=h (ybd (yaq vs.length)) hin (Array.Perm.refl _) (fun i j h1 h3=>by
   have:i=j:=by ac_rfl
   subst this
   exact (zoC f).irr _)
  have eo:(arrOf (SortSt.mk' general' (vs.toArray.zip vs.toArray) #[] 7 none)).map (·.2)=ybd ((ybd (yaq vs.length)).toList.map fun i=>vs.getD i Value.none):=by
   refine kat_snds rfl ?_
   have e:=kas_range (vs.toArray.zip vs.toArray)
   rw[show (vs.toArray.zip vs.toArray).size=vs.length by simp] at e
   exact e.symm
  refine wpAny_bind (seqEpoch_at ho6 rfl ?_)
  refine wpAny_bind (listUpdate_at ho6 rfl ?_ (ycz _) (by rw[eo];exact Nat.le_succ_of_le (outsz _ hin.1)))
  simp only[bne_self_eq_false,Bool.false_eq_true,if_false]
  rw[eo]
  exact wpAny_pure key
 ·rw[if_neg h2,if_neg h2]
  have kp:∀ b o,b≠a->s.heap.get? b=some o->(((s.heap.update a (Obj.mapSeq fun _=>#[])).push (seqObj "tuple" vs.toArray 0)).push (seqObj "list" #[] 0)).get? b=some o:=fun b o nb e=>ydk _ (ydk _ (by rw[ydn _ _ _ _ nb];exact e))
  have hp':∀ i,i<vs.length->za1 (((s.heap.update a (Obj.mapSeq fun _=>#[])).push (seqObj "tuple" vs.toArray 0)).push (seqObj "list" #[] 0)) (vs.getD i .none) (f i):=fun i hi=>by
   obtain ⟨b,o,m,t,u,e,eo,c,d⟩:=hp i hi
   refine ⟨b,o,m,t,u,e,kp b o (fun z=>?_) eo,c,d⟩
   subst z
   rw[ho] at eo
   have eo':=Option.some.inj eo
   rw[<-eo'] at c
   exact absurd (show Value.type "list" = Value.type "tuple" from c) (by decide)
  have tups:∀ (ws:List Value) (g:Nat->Int × Int),(∀ i,i<ws.length->za1 (((s.heap.update a (Obj.mapSeq fun _=>#[])).push (seqObj "tuple" vs.toArray 0)).push (seqObj "list" #[] 0)) (ws.getD i .none) (g i))->∃ fs,KatTups (((s.heap.update a (Obj.mapSeq fun _=>#[])).push (seqObj "tuple" vs.toArray 0)).push (seqObj "list" #[] 0)) ws fs/\fs.length=ws.length/\∀ v∈fs,∃ m t,v=.int m t:=by
   intro ws
   induction ws with
   | nil=>intro g _;exact ⟨[],KatTups.nil,rfl,fun v hv=>by cases hv⟩
   | cons v ws ih =>
    intro g hg
    obtain ⟨fs,k1,k2,k3⟩:=ih (fun i=>g (i+1)) fun i hi=>hg (i+1) (by simp;ac_rfl)
    obtain ⟨b,o,m,t,u,e,eo,c,d⟩:=hg 0 (by simp)
    have e':v=.ref b:=e
    subst e'
    exact ⟨.int (g 0).1 t::fs,KatTups.cons eo c d rfl k1,by simp[k2],fun v hv=>by
     rcases yak.mp hv with rfl | hv
     ·exact ⟨_,_,rfl⟩
     ·exact k3 v hv⟩
  obtain ⟨fs,k1,k2,k3⟩:=tups vs f hp'
  refine wpAny_bind (kat_kind (T:=.type "int") k1 (by ac_rfl) (fun v hv=>?_) (by decide) ?_)
  ·obtain ⟨m,t,rfl⟩:=k3 v hv
   exact Looks.now
  have ask:(kas_sort vs.length).kasWp (kas_ask prog w A (tuples' (Value.type "int" != Value.type "tuple")) vs) (fun p s''=>(In vs.length p/\p.Perm (ybd (yaq vs.length))/\Up (fun i j=>lex (f i) (f j)) p vs.length)/\s''={ s with heap:=((s.heap.update a (Obj.mapSeq fun _=>#[])).push (seqObj "tuple" vs.toArray 0)).push (seqObj "list" #[] 0) }) { s with heap:=((s.heap.update a (Obj.mapSeq fun _=>#[])).push (seqObj "tuple" vs.toArray 0)).push (seqObj "list" #[] 0) }:=by
   refine zqE (fun i j C hi hj hc=>?_) (fun p g=>⟨g,rfl⟩) _ (zsK (zoC f) (by ac_rfl))
   show wpAny (model prog w) A (keyLt' (tuples' true) (vs.getD i .none) (vs.getD j .none)) C _ _
   exact zsM (hp' i hi) (hp' j hj) hc
  refine wpAny_bind (wpAny_mono (kat_run (Q:=fun st' s'=>∃ p:Array Nat,p.size=vs.length/\arrOf st'=p.map (kas_item (vs.toArray.zip vs.toArray))/\failedOf st'=none/\(In vs.length p/\p.Perm (ybd (yaq vs.length))/\Up (fun i j=>lex (f i) (f j)) p vs.length)/\s'={ s with heap:=((s.heap.update a (Obj.mapSeq fun _=>#[])).push (seqObj "tuple" vs.toArray 0)).push (seqObj "list" #[] 0) })
   rfl (by ac_rfl) h64 (fun p' st' s' a1 a2 a3 a4=>⟨p',a1,a2,a3,a4⟩) ask) ?_ fun _ _ e=>e)
  rintro ⟨⟨⟩,st'⟩ s' ⟨p,hps,har,hf,⟨g1,g2,g3⟩,rfl⟩
  dsimp only
  have hout:=kat_snds rfl har
  rw[hout]
  refine wpAny_bind (seqEpoch_at ho6 rfl ?_)
  refine wpAny_bind (listUpdate_at ho6 rfl ?_ (ycz _) (Nat.le_succ_of_le (outsz p hps)))
  rw[hf]
  simp only[bne_self_eq_false,Bool.false_eq_true,if_false]
  exact wpAny_pure (h p g1 g2 g3)
theorem zrg {l:Addr} {vs:List Value} {Q:Value->Shared->Prop} {f:Nat->Int × Int} (hl:s.heap.IsList l vs.toArray) (h64:vs.length<64) (hp:∀ i,i<vs.length->za1 s.heap (vs.getD i .none) (f i))
  (h:∀ p:Array Nat,In vs.length p->p.Perm (ybd (yaq vs.length))->Up (fun i j=>lex (f i) (f j)) p vs.length->Q (.ref (s.heap.objs.size+1)) { s with heap:=sortedAll s.heap vs (ybd (p.toList.map fun i=>vs.getD i Value.none)) }) :
  wpAny (model prog w) A (call (.builtin "sorted") [.ref l]) Q E s:=by
 refine Calls.call_function_entry kind_sorted plain_sorted entry_sorted (args_sorted1 _) ?_
 unfold Builtin.«sorted»
 refine wpAny_bind (m:=checkCount "sorted" 1 1 _) (wpAny_pure ?_)
 refine wpAny_bind (collect_list hl ?_ (by rw[sizeLine_eq];ac_rfl))
 refine wpAny_bind (wpAny_newList ?_ (by rw[sizeLine_eq];ac_rfl))
 have hsz:((s.heap.push (seqObj "list" #[] 0)).update s.heap.objs.size (Obj.mapSeq (·++vs.toArray))).objs.size=s.heap.objs.size+1:=by
  rw[Heap.size_update,size_push']
 have hoL:(((s.heap.push (seqObj "list" #[] 0)).update s.heap.objs.size (Obj.mapSeq (·++vs.toArray))).push (seqObj "list" vs.toArray 0)).get? (s.heap.objs.size+1)=some (seqObj "list" vs.toArray 0):=by
  rw[<-hsz];exact ydm _ rfl
 have keep:∀ b o,s.heap.get? b=some o->(((s.heap.push (seqObj "list" #[] 0)).update s.heap.objs.size (Obj.mapSeq (·++vs.toArray))).push (seqObj "list" vs.toArray 0)).get? b=some o:=fun b o q=>by
  have hlt:b<s.heap.objs.size:=ydl q
  rw[Heap.get?_push_ne _ _ _ (by rw[hsz];exact ycw (yde hlt)),ydn _ _ _ _ (ycw hlt),Heap.get?_push_ne _ _ _ (ycw hlt)]
  exact q
 show wpAny _ _ _ _ _ { s with heap:=((s.heap.push (seqObj "list" #[] 0)).update s.heap.objs.size (Obj.mapSeq (·++vs.toArray))).push (seqObj "list" vs.toArray 0) }
 rw[hsz]
 refine wpAny_bind (wpAny_holding (wpAny_call_entry slot_list_sort ⟨_,hoL,rfl⟩ entry_list_sort (zjq hoL h64 (fun i hi=>(hp i hi).keep fun a o _ e=>keep a o e) fun p a1 a2 a3=>⟨_,rfl,?_⟩) (args_list_sort _)))
 exact wpAny_pure ⟨_,rfl,h p a1 a2 a3⟩
end
end SortT
namespace L2
open PySem PySem.Spec PyProof.Rows
section
variable {X:Cx} {e k:Expr} {te:TE} {p2 pos:Pos} {lo hi:Option Expr} {tl th:TO}
theorem map_getD {α:Type} (l:List α) (d:α):(yaq l.length).map (fun i=>l.getD i d)=l:=by
 apply ybn
 intro i
 rw[yaf]
 by_cases h:i<l.length
 ·rw[ybl h,yaa h]
  simp[h]
 ·rw[yap (by simp;ac_rfl),yap (by ac_rfl)]
  rfl
theorem zjH {α:Type} {f:α->V} {g:α->Value}:∀ is:List α,(∀ i∈is,RelV (f i) (g i))->Vals (is.map f) (is.map g)
 | [],_=>.nil
 | i::is,h=>.cons (h i (yao ..)) (zjH is fun j hj=>h j (yan _ hj))
theorem zmq (hex:X.ex=[]:=by rfl):zbo X (.builtin "sorted") (fun xs H Q=>∃ (p:Addr) (vs:List V) (l:List (Int × Int)),xs=[.ref p]/\SqL X.K H p vs/\zx X.K H vs l/\l.length<64 /\
  ∀ (q:Addr) (H':Hp) (ws:List V) (r:List (Int × Int)),H q=none->Same H H'->H' q=some (.lst ws)->zx X.K H' ws r->r.Perm l->(r.Pairwise fun s t=>s.1<=t.1)->Q (.ref q) H'):=by
 intro pins s σ H xs us Q I r h
 obtain ⟨p,vs,l,rfl,hp,hR,hl,q⟩:=h
 obtain ⟨u,rfl,rx⟩:=vals1 r
 cases rx
 obtain ⟨its,rv,pl,hz⟩:=I.list hp
 have vl:=hR.length
 have len:its.length=l.length:=by rw[<-rv.length,vl]
 have pair:∀ i,i<its.length->SortT.za1 s.heap (its.getD i .none) (l.getD i (0,0)):=fun i hi=>by
  have ev:vs[i]?=some (vs[i]'(by ac_rfl)):=yaa (by ac_rfl)
  obtain ⟨a,x,e1,e2,e3⟩:=hR.get ev
  obtain ⟨w,hw,rw'⟩:=rv.get ev
  rw[e1] at rw'
  cases rw'
  obtain ⟨ts,tv,tp,_⟩:=I.tuple (SqT.of e3)
  cases tv with
  | cons t1 tv =>
   cases tv with
   | cons t2 tv =>
    cases tv
    obtain ⟨t,rfl⟩:=t1
    obtain ⟨t',rfl⟩:=t2
    obtain ⟨o,eo,oc,n,od⟩:=(show s.heap.IsTuple a _ from tp)
    refine ⟨a,o,n,t,t',?_,eo,oc,?_⟩
    ·rw[yac,hw];rfl
    ·rw[od,show l.getD i (0,0)=x by rw[yac,e2];rfl]
 refine SortT.zrg pl.isList (by ac_rfl) pair fun P a1 a2 a3=>?_
 obtain ⟨n,at_⟩:=sortedAll_at s.heap its (ybd (P.toList.map fun i=>its.getD i Value.none))
 have pin:∀ i∈P.toList,i<its.length:=fun i hi=>by
  obtain ⟨j,hj,rfl⟩:=yaw.mp hi
  have hj':j<its.length:=by rw[<-a1.1];simpa using hj
  have:=a1.2 j hj'
  rw[ydy,ydw (by rw[a1.1];exact hj')] at this
  simpa using this
 have plen:P.toList.length=its.length:=by rw[ydx,a1.1]
 have vl':Vals (P.toList.map fun i=>vs.getD i .non) (P.toList.map fun i=>its.getD i Value.none):=zjH _ fun i hi=>by
  have hi':=pin i hi
  have ev:vs[i]?=some (vs[i]'(by ac_rfl)):=yaa (by ac_rfl)
  obtain ⟨w,hw,rw'⟩:=rv.get ev
  rw[yac,ev,yac,hw]
  exact rw'
 have new:s.heap.get? (s.heap.objs.size+1)=none:=ydr (ydh _)
 have nl:(P.toList.map fun i=>vs.getD i .non).length<=sizeLine:=by rw[yab,plen,sizeLine_eq];ac_rfl
 have I1:Inv X pins σ (upd H (s.heap.objs.size+1) (.lst (P.toList.map fun i=>vs.getD i .non))) { s with heap:=sortedAll s.heap its (ybd (P.toList.map fun i=>its.getD i Value.none)),toks:=s.toks } :=
  I.zmi (fun b o e=>sortedAll_old e) new hex ⟨nl,_,n,vl',by simpa [seqObj] using at_⟩
 have sm:Same H (upd H (s.heap.objs.size+1) (.lst (P.toList.map fun i=>vs.getD i .non))):=ze (I.hok.gone new) _
 refine ⟨.ref (s.heap.objs.size+1),_,I1,rfl,q _ _ _ (P.toList.map fun i=>l.getD i (0,0)) (I.hok.gone new) sm zh (zje (by rw[yab,yab]) fun j v x h1 h2=>?_) ?_ ?_⟩
 ·rw[yaf] at h1 h2
  obtain ⟨i,hi,rfl⟩:=Option.map_eq_some_iff.mp h1
  rw[hi] at h2
  have h2':l.getD i (0,0)=x:=Option.some.inj h2
  have hi':=pin i (yai hi)
  have ev:vs[i]?=some (vs[i]'(by ac_rfl)):=yaa (by ac_rfl)
  obtain ⟨b,y,e1,e2,e3⟩:=hR.get ev
  have ey:l.getD i (0,0)=y:=by rw[yac,e2];rfl
  refine ⟨b,by rw[yac,ev,<-e1];rfl,?_⟩
  rw[<-h2',ey]
  exact sm _ _ e3
 ·have pp:P.toList.Perm (yaq l.length):=by
   have:=Array.perm_iff_toList_perm.mp a2
   rw[len] at this
   exact this
  have:=pp.map fun i=>l.getD i (0,0)
  rw[map_getD] at this
  exact this
 ·refine yar.mpr fun i j hi hj lt=>?_
  rw[yab] at hi hj
  have up:=a3 i j (ydi lt) (by ac_rfl)
  have gi:∀ m (h:m<P.toList.length),P.getD m 0=P.toList[m]:=fun m h=>by
   rw[ydy,ydw (by simpa using h)]
   simp
  rw[gi i hi,gi j hj] at up
  have:=of_decide_eq_false up
  rw[ycs,ycs]
  ac_rfl
end
noncomputable def zac (l:List (Int × Int)) (k y:Int):List (Int × Int):=if l.any (fun p=>p.1=k) then l.map (fun p=>if p.1=k then (p.1,y) else p) else l++[(k,y)]
noncomputable def zcX (l:List (Int × Int)):List (Int × Int):=l.foldl (fun acc s=>zac acc s.1 s.2) []
inductive KR:List (Int × Value)->List (Int × Int)->Prop
 | nil:KR [] []
 | cons {k y:Int} {t:Tok} {r:List (Int × Value)} {l:List (Int × Int)}:KR r l->KR ((k,.int y t)::r) ((k,y)::l)
theorem KR.length {r:List (Int × Value)} {l:List (Int × Int)} (h:KR r l):r.length=l.length:=by
 induction h with
 | nil=>rfl
 | cons _ ih=>simp[ih]
theorem KR.any {r:List (Int × Value)} {l:List (Int × Int)} {k:Int} (h:KR r l):r.any (fun kv=>kv.1=k)=l.any (fun p=>p.1=k):=by
 induction h with
 | nil=>rfl
 | cons _ ih=>rw[ycu,ycu,ih]
theorem KR.snoc {r:List (Int × Value)} {l:List (Int × Int)} {k y:Int} {t:Tok} (h:KR r l):KR (r++[(k,.int y t)]) (l++[(k,y)]):=by
 induction h with
 | nil=>exact .cons .nil
 | cons _ ih=>exact .cons ih
theorem KR.map {r:List (Int × Value)} {l:List (Int × Int)} {k y:Int} {t:Tok} (h:KR r l):KR (r.map fun kv=>if kv.1=k then (kv.1,.int y t) else kv) (l.map fun p=>if p.1=k then (p.1,y) else p):=by
 induction h with
 | nil=>exact .nil
 | @cons k' y' t' r l _ ih =>
  rw[ybs,ybs]
  by_cases e:k'=k
  ·rw[if_pos e,if_pos e];exact .cons ih
  ·rw[if_neg e,if_neg e];exact .cons ih
theorem KR.stored {r:List (Int × Value)} {l:List (Int × Int)} {k y:Int} {t:Tok} (h:KR r l):KR (stored r k (.int y t)) (zac l k y):=by
 unfold PySem.stored zac
 rw[h.any]
 split
 ·exact h.map
 ·exact h.snoc
theorem KR.get {r:List (Int × Value)} {l:List (Int × Int)} (h:KR r l):∀ {i:Nat} {k:Int} {v:Value},r[i]?=some (k,v)->∃ y t,l[i]?=some (k,y)/\v=.int y t:=by
 induction h with
 | nil=>intro i k v e;simp at e
 | cons _ ih =>
  intro i k v e
  cases i with
  | zero=>cases e;exact ⟨_,_,rfl,rfl⟩
  | succ i=>exact ih e
theorem zk2 (l:List (Int × Int)) (k y:Int):(zac l k y).length<=l.length+1:=by
 unfold zac
 split
 ·rw[yab];ac_rfl
 ·simp
theorem zjv (l acc:List (Int × Int)):(l.foldl (fun acc s=>zac acc s.1 s.2) acc).length<=acc.length+l.length:=by
 induction l generalizing acc with
 | nil=>simp
 | cons s l ih =>
  rw[ybz]
  have:=ih (zac acc s.1 s.2)
  have:=zk2 acc s.1 s.2
  rw[ybk]
  ac_rfl
theorem zn9 (l:List (Int × Int)):(zcX l).length<=l.length:=by
 have:=zjv l []
 simpa [zcX] using this
theorem zmv:typeLookup (.type "list") "keys" = pure none:=by rw[typeLookup_type,builtinLookup_eq_fast];kernel_rfl
theorem zif {prog:Program} {w:World} {A:Around} {E:Value->Shared->Prop} {s:Shared} {a:Addr} {xs:Array Value} {k:Nat} {Q:Option Value->Shared->Prop}
  (hx:s.heap.get? a=some { cls:=.type "list", dict:=none,data:=.seq xs k,slots:=#[] }) (hA:A.handled=none)
  (h:∀ h' tk,(∀ b o,s.heap.get? b=some o->h'.get? b=some o)->Q none { s with heap:=h',toks:=tk }) :
  wpAny (model prog w) A (getAttr? (.ref a) "keys") Q E s:=by
 obtain ⟨hp,g,d,tk,os⟩:=s
 have hT:∀ tk',(⟨hp,g,d,tk',os⟩:Shared).TypeIs (.ref a) "list" := fun _=>⟨_,hx,rfl⟩
 have f1:=sub_AttributeError
 have f3:=F.slot_list_getattribute.lookup
 have f4:=F.slot_list_getattribute.bind (.ref a)
 have f5:=am_list_getattr_none
 unfold getAttr? getAttrBy? getAttrBy
 repeat (any_goals (first | assumption | exact hT _ | ((with_reducible show wpAny _ _ (call (Value.builtin "list.__getattribute__") _ _) _ _ _);refine call_meets F.slot_list_getattribute (hT _) am_entry_list_getattribute (F.args_list_getattribute_2 _ _) (meets_getattribute_miss_list a xs k #[] "keys" _ zmv (by decide +kernel) (by size_fits)) ⟨hx,hA,fun h' tk' e hx'=>?_⟩) | wp_step))
 obtain ⟨t',u',he⟩:=hx'.there
 show wpAny _ _ (getattributeRaised _ _ _ _ _ _ _) _ _ _
 unfold getattributeRaised
 repeat (any_goals (first | assumption | wp_step))
 exact h _ _ hx'.keeps
theorem zcA:entryFor table "dict.update.loop" = some Builtin.«dict.update.loop»:=entryFor_of_tree (by kernel_rfl)
theorem zaA:plainId "dict.update.loop" = true:=by decide +kernel
section
variable {prog:Program} {w:World} {A:Around} {s:Shared} {R:Result->Shared->Prop}
theorem zat {h h':Heap} {d:Addr} {kvs:List (Int × Value)} (x:h.DictOf (intKind prog w) d kvs) (k:∀ o,h.get? d=some o->h'.get? d=some o):h'.DictOf (intKind prog w) d kvs:=by
 obtain ⟨o,es,ep,e,r⟩:=x
 exact ⟨o,es,ep,k o e,r⟩
theorem zrj {d it p:Addr} {its:List Value} {l:List (Int × Int)} {h₁:Heap} (hh:A.handled=none) (ndi:d≠it) (ndp:d≠p) (nip:it≠p) (len:its.length=l.length) (h64:its.length<64)
  (hR:∀ h' tk kvs,(∀ b o,b≠d->b≠it->h₁.get? b=some o->h'.get? b=some o)->h'.DictOf (intKind prog w) d kvs->KR kvs (zcX l)->R (.ok (.ret .none)) { s with heap:=h',toks:=tk }) :
  ∀ (k i:Nat) (h:Heap) (tk:Nat) (kvs:List (Int × Value)),its.length-i=k->i<=its.length->h.IsListIter it p i->h.IsList p its.toArray->(∀ j,j<its.length->SortT.za1 h (its.getD j .none) (l.getD j (0,0))) ->
   h.DictOf (intKind prog w) d kvs->KR kvs ((l.take i).foldl (fun acc s=>zac acc s.1 s.2) [])->(∀ b o,b≠d->b≠it->h₁.get? b=some o->h.get? b=some o) ->
   codeAny (model prog w) A (.builtin "dict.update.loop" ⟨[.ref d,.ref it,rawInt i,.none],[]⟩) R { s with heap:=h,toks:=tk }:=by
 intro k
 induction k with
 | zero =>
  intro i h tk kvs hk hi hit hl hp hd hkr hkeep
  have hin:i=its.length:=by ac_rfl
  refine codeAny_builtin zcA ?_
  rw[Around.under_plainId zaA _]
  show wpAny _ A.in1 (pyNext (.ref it) >>= _) _ _ _
  refine wpAny_bind (wpAny_pyNext_list_end (s:={ s with heap:=h,toks:=tk }) (A:=A.in1) hh hit hl (by simp;ac_rfl) fun h' he=>?_)
  show wpAny _ _ (Builtin.Dict.addKeywords d [] >>= _) _ _ _
  refine wpAny_bind (wpAny_pure (wpAny_pure ?_))
  refine hR h' tk kvs (fun b o b1 b2 e=>he b o b2 (hkeep b o b1 b2 e)) (zat hd fun o e=>he d o ndi e) ?_
  rw[hin,len,ycf] at hkr
  exact hkr
 | succ k ih =>
  intro i h tk kvs hk hi hit hl hp hd hkr hkeep
  have hlt:i<its.length:=by ac_rfl
  obtain ⟨a,oa,n,t,u,ea,eo,oc,odt⟩:=hp i hlt
  have hx:its[i]?=some (.ref a):=by
   rw[yac,yaa hlt] at ea
   rw[yaa hlt]
   exact congrArg some ea
  refine codeAny_builtin zcA ?_
  rw[Around.under_plainId zaA _]
  show wpAny _ A.in1 (pyNext (.ref it) >>= _) _ _ _
  refine wpAny_bind (wpAny_pyNext_list_item (s:={ s with heap:=h,toks:=tk }) (A:=A.in1) hit hl (x:=.ref a) (by simpa using hx) fun h' hit' sb=>?_)
  have ait:a≠it:=fun z=>by
   obtain ⟨o,ho,hc,_⟩:=hit
   rw[z,ho] at eo
   cases eo
   rw[hc] at oc
   exact absurd oc (by decide)
  have ad:a≠d:=fun z=>by
   obtain ⟨o,es,ep,ho,hc,_⟩:=id hd
   rw[z,ho] at eo
   cases eo
   have:=hc.1
   rw[this] at oc
   exact absurd oc (by decide)
  have eo':h'.get? a=some oa:=(sb.2 a ait).trans eo
  have hT:({ s with heap:=h',toks:=tk }:Shared).TypeIs (.ref a) "tuple" := ⟨oa,eo',oc⟩
  have hd':h'.DictOf (intKind prog w) d kvs:=zat hd fun o e=>(sb.2 d ndi).trans e
  show wpAny _ _ (holding [Value.ref a] _ >>= _) _ _ _
  refine wpAny_bind (wpAny_holding ?_)
  refine wpAny_bind (wpAny_tryCatch ?_)
  unfold Builtin.Dict.pairItems
  refine wpAny_bind (wpAny_typeOf hT ?_)
  rw[if_pos (by decide)]
  refine wpAny_bind (wpAny_seqItems eo' odt ?_)
  refine wpAny_pure ?_
  show wpAny _ _ (holding [Value.int (l.getD i (0,0)).1 t,Value.int (l.getD i (0,0)).2 u] (dictSet d (Value.int (l.getD i (0,0)).1 t) (Value.int (l.getD i (0,0)).2 u))) _ _ _
  refine wpAny_holding ?_
  have kl:=hkr.length
  have fl:=zjv (l.take i) []
  rw[yat] at fl
  refine wpAny_dictSet_pairs (knd:=intKind prog w) (k:=(l.getD i (0,0)).1) (by first | exact Value.isInt_int _ _ | (simp[intKind,Value.isInt];done) | exact beq_self_eq_true _) hd' (fun h2 hd2 sb2=>?_) (by rw[sizeLine_eq];simp at fl;ac_rfl)
  refine wpAny_pure ⟨plainId_quiet zaA _,?_⟩
  have k2:∀ b o,b≠d->b≠it->h.get? b=some o->h2.get? b=some o:=fun b o b1 b2 e=>(sb2.2 b b1).trans ((sb.2 b b2).trans e)
  refine ih (i+1) h2 _ _ (by ac_rfl) (by ac_rfl) (hit'.at fun o e=>(sb2.2 it ndi.symm).trans e) ?_ (fun j hj=>(hp j hj).keep fun b o eb e=>k2 b o ?_ ?_ e) hd2 ?_ fun b o b1 b2 e=>k2 b o b1 b2 (hkeep b o b1 b2 e)
  ·obtain ⟨o,e,r⟩:=hl
   exact ⟨o,k2 p o ndp.symm nip.symm e,r⟩
  ·intro z
   obtain ⟨b',o',n',t',u',e1,e2,e3,_⟩:=hp j hj
   rw[eb] at e1
   cases e1
   obtain ⟨od,es,ep,ho,hc,_⟩:=id hd
   rw[z,ho] at e2
   cases e2
   rw[hc.1] at e3
   exact absurd e3 (by decide)
  ·intro z
   obtain ⟨b',o',n',t',u',e1,e2,e3,_⟩:=hp j hj
   rw[eb] at e1
   cases e1
   obtain ⟨oi,ho,hc,_⟩:=id hit
   rw[z,ho] at e2
   cases e2
   rw[hc] at e3
   exact absurd e3 (by decide)
  ·have tk:l.take (i+1)=l.take i++[l.getD i (0,0)]:=by
    rw[yaz,yaa (by ac_rfl),yac,yaa (by ac_rfl)]
    rfl
   rw[tk,ycq]
   exact hkr.stored
theorem zlO {E:Value->Shared->Prop} {p:Addr} {its:List Value} {n:Nat} {l:List (Int × Int)} {Q:Value->Shared->Prop} (hh:A.handled=none) (hl:s.heap.get? p=some { cls:=.type "list", dict:=none,data:=.seq its.toArray n,slots:=#[] }) (len:its.length=l.length) (h64:its.length<64)
  (hp:∀ j,j<its.length->SortT.za1 s.heap (its.getD j .none) (l.getD j (0,0)))
  (h:∀ h' tk kvs,(∀ b o,s.heap.get? b=some o->h'.get? b=some o)->h'.DictOf (intKind prog w) s.heap.objs.size kvs->KR kvs (zcX l)->Q (.ref s.heap.objs.size) { s with heap:=h',toks:=tk }) :
  wpAny (model prog w) A (call (.type "dict") [.ref p]) Q E s:=by
 have hlt:p<s.heap.objs.size:=ydl hl
 refine callType_codes (Q₁:=fun obj s₁=>obj=.ref s.heap.objs.size/\s₁={ s with heap:=s.heap.push { cls:=.type "dict", data:=.dict #[] } }) F.kt_called_dict (F.kt_typeCall_dict_1 _) F.entry_dict_init (kt_code_dict_new _ ⟨rfl,rfl⟩) ?_
 rintro obj s₁ ⟨rfl,rfl⟩
 have hnew:(s.heap.push { cls:=.type "dict", data:=.dict #[] }).DictOf (intKind prog w) s.heap.objs.size []:=Heap.DictOf.new s.heap
 have hl1:(s.heap.push { cls:=.type "dict", data:=.dict #[] }).get? p=some { cls:=.type "list", dict:=none,data:=.seq its.toArray n,slots:=#[] }:=ydk _ hl
 refine ⟨hnew.typeIs,F.args_dict_init_2 _ _,?_⟩
 unfold Builtin.«dict.__init__»
 refine wpAny_bind ?_
 unfold Builtin.Dict.selfAndRest
 refine wpAny_bind (wpAny_notOrdered_dict hnew.typeIs ?_)
 show wpAny _ _ (pure (s.heap.objs.size,[Value.ref p])) _ _ _
 refine wpAny_pure ?_
 show wpAny _ _ (Builtin.Dict.updateFrom "dict.__init__" s.heap.objs.size (.ref p) [] .none) _ _ _
 unfold Builtin.Dict.updateFrom
 refine wpAny_bind (wpAny_typeOf (T:="list") ⟨_,hl1,rfl⟩ ?_)
 rw[if_pos (by decide)]
 refine wpAny_bind (zif (s:={ s with heap:=s.heap.push { cls:=.type "dict", data:=.dict #[] } }) hl1 hh fun h2 tk2 k2=>?_)
 rw[if_pos (show (none:Option Value).isNone=true from rfl)]
 refine wpAny_bind (wpAny_rule ?_)
 have hl2:=k2 p _ hl1
 have hd2:=zat (h':=h2) hnew fun o e=>k2 _ o e
 have lt2:s.heap.objs.size<h2.objs.size:=by
  obtain ⟨o,es,ep,e,_⟩:=hd2
  exact ydl e
 have hlL:h2.IsList p its.toArray:=⟨_,hl2,rfl,n,rfl⟩
 refine wpAny_bind (wpAny_pyIter_list hlL ?_)
 refine wpAny_pure ⟨plainId_quiet zaA _,?_⟩
 refine zrj (s:=s) (A:=A.in1) (h₁:=h2) (d:=s.heap.objs.size) (it:=h2.objs.size) (p:=p) (its:=its) (l:=l) hh (ycw lt2) (ydg hlt) (ydg (ydf hlt lt2)) len h64 (fun h' tk kvs kp hd' hkr=>?_)
  its.length 0 _ tk2 [] (Nat.sub_zero _) (ycz _) ⟨_,ydm _ rfl,rfl,rfl⟩ (hlL.push _) (fun j hj=>(hp j hj).keep fun a o _ e=>ydk _ (k2 a o (ydk _ e))) (zat hd2 fun o e=>ydk _ e) .nil fun b o b1 b2 e=>ydk _ e
 refine ⟨rfl,h h' tk kvs (fun b o e=>kp b o (ycw (ydl e)) (ycw (ydf (ydl e) lt2)) (k2 b o (ydk _ e))) hd' hkr⟩
end
noncomputable def zbR (P:Program) (w:World) (d:Addr) (l:List (Int × Int)):HO:=.ext fun h=>(d == sysModules)=false/\∃ kvs,h.DictOf (intKind P w) d kvs/\KR kvs l
noncomputable def zpo (v d:Addr):HO:=.ext fun h=>h.IsItemsView v d
section
variable {X:Cx} {pins:List (Addr × Obj)} {σ:St} {H:Hp} {s:Shared}
theorem zqc {vs:List V} {l:List (Int × Int)} {p:Addr} (I:Inv X pins σ H s) (hp:SqL X.K H p vs) (hR:zx X.K H vs l):∃ its,Vals vs its/\s.heap.IsList p its.toArray/\its.length=l.length/\∀ i,i<its.length->SortT.za1 s.heap (its.getD i .none) (l.getD i (0,0)):=by
 obtain ⟨its,rv,pl,hz⟩:=I.list hp
 have vl:=hR.length
 refine ⟨its,rv,pl.isList,by rw[<-rv.length,vl],fun i hi=>?_⟩
 have len:its.length=l.length:=by rw[<-rv.length,vl]
 have ev:vs[i]?=some (vs[i]'(by ac_rfl)):=yaa (by ac_rfl)
 obtain ⟨a,x,e1,e2,e3⟩:=hR.get ev
 obtain ⟨w,hw,rw'⟩:=rv.get ev
 rw[e1] at rw'
 cases rw'
 obtain ⟨ts,tv,tp,_⟩:=I.tuple (SqT.of e3)
 cases tv with
 | cons t1 tv =>
  cases tv with
  | cons t2 tv =>
   cases tv
   obtain ⟨t,rfl⟩:=t1
   obtain ⟨t',rfl⟩:=t2
   obtain ⟨o,eo,oc,n,od⟩:=(show s.heap.IsTuple a _ from tp)
   refine ⟨a,o,n,t,t',?_,eo,oc,?_⟩
   ·rw[yac,hw];rfl
   ·rw[od,show l.getD i (0,0)=x by rw[yac,e2];rfl]
theorem zdD (hc:X.calm=true):zbo X (.type "dict") (fun xs H Q=>∃ (p:Addr) (vs:List V) (l:List (Int × Int)),xs=[.ref p]/\H p=some (.lst vs)/\zx X.K H vs l/\l.length<64 /\
  ∀ (d:Addr) (H':Hp),H d=none->Same H H'->H' d=some (zbR X.prog X.w d (zcX l))->Q (.ref d) H'):=by
 intro pins s σ H xs us Q I r h
 obtain ⟨p,vs,l,rfl,hp,hR,hl,q⟩:=h
 obtain ⟨u,rfl,rx⟩:=vals1 r
 cases rx
 obtain ⟨its,rv,pl,len,pr⟩:=zqc I (SqL.of hp) hR
 obtain ⟨z,its',n',rv',e'⟩:=(show zX X.prog X.w H s.heap p (.lst vs) from I.hok p _ hp)
 obtain ⟨o,eo,oc,n,od⟩:=pl
 have ei:its=its':=by
  rw[e'] at eo
  cases eo
  have:=od
  simpa using (Data.seq.inj this).1.symm
 subst ei
 have big:sysModules<s.heap.objs.size:=ydf (by decide) (show mainGlobals<s.heap.objs.size from (I.mod.glob.keeps I.bk).lt)
 have lo:(s.heap.objs.size == sysModules)=false:=beq_eq_false_iff_ne.mpr (Ne.symm (ycw big))
 refine zlO (I.ok.hd hc) e' len (by ac_rfl) pr fun h' tk kvs kp hd hkr=>?_
 refine ⟨.ref s.heap.objs.size,_,I.laid (o:=zbR X.prog X.w s.heap.objs.size (zcX l)) kp (ycv _) ⟨⟨lo,kvs,hd,hkr⟩,(let ⟨o,_,_,e,_⟩:=hd;⟨o,e⟩),fun h1 h2 ⟨lo',kv,x,y⟩ e=>⟨lo',kv,zat x e,y⟩⟩,rfl,q _ _ (I.hok.fresh (ycv _)) (ze (I.hok.fresh (ycv _)) _) zh⟩
def ztc (P:Program) (w:World) (to:TE):TE:=fun σ H Q=>to σ H fun x H1=>∃ (d:Addr) (l:List (Int × Int)),x=.ref d/\H1 d=some (zbR P w d l)/\∀ (v:Addr) (H':Hp),H1 v=none->Same H1 H'->H' v=some (zpo v d)->Q (.ref v) H'
theorem zmE {o:Expr} {to:TE} {apos cpos:Pos} (ho:PE X o to)
  (hbase:attributeBase o "items" X.env (eval o X.env)=eval o X.env:=by rfl) (hline:(apos.endLine == cpos.line)=true:=by rfl):PE X (.Call (.Attribute o "items" apos) [] [] cpos) (ztc X.prog X.w to):=by
 intro pins s σ H Q I h
 refine wpAny_Call_method0_late hbase hline (thn (ho pins s σ H _ I h) fun v s1 ⟨x,H1,I1,r1,d,l,ex,hd,q1⟩=>?_)
 subst ex
 obtain rfl:v=Value.ref d:=r1
 obtain ⟨lo,kvs,hD,hkr⟩:=(I1.hok d _ hd).1
 refine ⟨"dict", "dict.items", F.plainAttrs_dict,F.slot_dict_items,F.type_dict_items,hD.typeIs,hD.mapOf.noDict,Calls.callWith_builtin rfl (PySem.evalArgs_none ?_)⟩
 refine call_meetsIn PySem.F.slot_dict_items hD.typeIs PySem.F.entry_dict_items (PySem.F.args_dict_items_1 _) (meets_dict_items (intKind X.prog X.w) d lo) ⟨⟨kvs,hD⟩,?_⟩
 exact ⟨.ref s1.heap.objs.size,_,I1.laid (t':=s1.toks) (o:=zpo s1.heap.objs.size d) (fun b ob q=>ydk _ q) (ycv _) ⟨⟨_,ydm _ rfl,rfl,rfl⟩,⟨_,ydm _ rfl⟩,fun h1 h2 ⟨o,e,r⟩ k=>⟨o,k o e,r⟩⟩,rfl,
  q1 _ _ (I1.hok.fresh (ycv _)) (ze (I1.hok.fresh (ycv _)) _) zh⟩
theorem zj8 {h':Heap} {tk:Nat} (hex:X.ex=[]) (I:Inv X pins σ H s) (k:∀ b o,s.heap.get? b=some o->h'.get? b=some o):∀ (bs:List (Addr × (Int × Int))),(bs.map (·.1)).Nodup->(∀ b∈bs,s.heap.get? b.1=none/\SortT.za1 h' (.ref b.1) b.2) ->
  ∃ H',Inv X pins σ H' { s with heap:=h',toks:=tk }/\Same H H'/\(∀ b∈bs,H' b.1=some (.tup [.int b.2.1,.int b.2.2]))/\∀ a,a ∉ bs.map (·.1)->H' a=H a
 | [],_,_=>⟨H,I.kept k,Same.refl _,(fun _ hb=>absurd hb (ybt)),fun _ _=>rfl⟩
 | b::bs,nd,hb=>by
  obtain ⟨H1,I1,s1,t1,o1⟩:=zj8 hex I k bs (ybj.mp nd).2 fun c hc=>hb c (yan _ hc)
  obtain ⟨hn,a,o,n,t,u,ea,eo,oc,od⟩:=hb b (yao ..)
  cases ea
  obtain ⟨f1,f2,f3,f4⟩:=I.zm3 hn hex
  have nb:b.1 ∉ bs.map (·.1):=(ybj.mp nd).1
  have gone:H1 b.1=none:=by rw[o1 _ nb];exact I.hok.gone hn
  refine ⟨_,I1.track (o:=.tup [.int b.2.1,.int b.2.2]) gone f1 f2 f3 f4 ⟨by show 2<=sizeLine;rw[sizeLine_eq];ac_rfl,[.int b.2.1 t,.int b.2.2 u],.cons ⟨t,rfl⟩ (.cons ⟨u,rfl⟩ .nil),⟨o,eo,oc,n,od⟩⟩,s1.trans (ze gone _),fun c hc=>?_,fun c hc=>?_⟩
  ·rcases yak.mp hc with rfl | hc
   ·exact zh
   ·rw[zp (fun z=>nb (by rw[<-z];exact yah.mpr ⟨c,hc,rfl⟩))]
    exact t1 c hc
  ·rw[ybs,yak,not_or] at hc
   rw[zp hc.1]
   exact o1 c hc.2
theorem ziz (hc:X.calm=true) (hex:X.ex=[]:=by rfl):zbo X (.builtin "sorted") (fun xs H Q=>∃ (v d:Addr) (l:List (Int × Int)),xs=[.ref v]/\H v=some (zpo v d)/\H d=some (zbR X.prog X.w d l)/\l.length<64 /\
  ∀ (q:Addr) (H':Hp) (ws:List V) (r:List (Int × Int)),H q=none->Same H H'->H' q=some (.lst ws)->zx X.K H' ws r->r.Perm l->(r.Pairwise fun s t=>s.1<=t.1)->Q (.ref q) H'):=by
 intro pins s σ H xs us Q I r h
 obtain ⟨v,d,l,rfl,hV,hD,hl,q⟩:=h
 obtain ⟨u,rfl,rx⟩:=vals1 r
 cases rx
 have hv:s.heap.IsItemsView v d:=(I.hok v _ hV).1
 obtain ⟨lo,kvs,hd,hkr⟩:=(I.hok d _ hD).1
 obtain ⟨od,es,ep,rd⟩:=hd
 have hat:s.heap.DictAt (intKind X.prog X.w) d kvs ep:=⟨od,es,rd⟩
 have kl:=hkr.length
 refine Calls.call_function_entry kind_sorted plain_sorted entry_sorted (args_sorted1 _) ?_
 unfold Builtin.«sorted»
 refine wpAny_bind (m:=checkCount "sorted" 1 1 _) (wpAny_pure ?_)
 refine wpAny_bind (PySem.W.kdx_collect (A:=X.A.in1) (knd:=intKind X.prog X.w) (kvs:=kvs) (ep:=ep) (I.ok.hd hc) hv hat (by rw[sizeLine_eq];ac_rfl) fun h1 tk as k1 al hG=>?_)
 refine wpAny_bind (wpAny_newList ?_ (by rw[yab,al,sizeLine_eq];ac_rfl))
 have an:as.length=l.length:=by ac_rfl
 have asl:∀ a∈as,a<h1.objs.size:=fun a ha=>hG.there ha
 have fresh:∀ a∈as,s.heap.get? a=none:=fun a ha=>ydr (ydi (hG.above a ha))
 have pr:∀ i,i<as.length->SortT.za1 h1 ((as.map Value.ref).getD i .none) (l.getD i (0,0)):=fun i hi=>by
  obtain ⟨key,k,x,e1,e2,e3⟩:=hG.pairs i as[i] (yaa hi)
  obtain ⟨y,t,e4,rfl⟩:=hkr.get e1
  obtain ⟨t',rfl⟩:=Value.isInt_shape e2
  refine ⟨as[i],_,0,t',t,?_,e3,rfl,?_⟩
  ·rw[yac,yaf,yaa hi];rfl
  ·rw[yac,e4];rfl
 have hoL:(h1.push (seqObj "list" (as.map Value.ref).toArray 0)).get? h1.objs.size=some (seqObj "list" (as.map Value.ref).toArray 0):=ydm _ rfl
 show wpAny _ _ _ _ _ { s with heap:=h1.push (seqObj "list" (as.map Value.ref).toArray 0),toks:=tk }
 refine wpAny_bind (wpAny_holding (wpAny_call_entry slot_list_sort ⟨_,hoL,rfl⟩ entry_list_sort (SortT.zjq (f:=fun i=>l.getD i (0,0)) hoL (by rw[yab];ac_rfl) (fun i hi=>(pr i (by rw[yab] at hi;exact hi)).keep fun a o _ e=>ydk _ e) fun P a1 a2 a3=>⟨_,rfl,?_⟩) (args_list_sort _)))
 refine wpAny_pure ⟨_,rfl,?_⟩
 rw[yab] at a1 a2 a3
 obtain ⟨out,hout⟩:∃ out,out=(P.toList.map fun i=>(as.map Value.ref).getD i Value.none):=⟨_,rfl⟩
 show EP X pins σ Q (Value.ref h1.objs.size) { s with heap:=sortedHeap (h1.push (seqObj "list" (as.map Value.ref).toArray 0)) h1.objs.size (as.map Value.ref) (ybd (P.toList.map fun i=>(as.map Value.ref).getD i Value.none)),toks:=tk }
 rw[<-hout]
 have keep3:∀ b o,h1.get? b=some o->(sortedHeap (h1.push (seqObj "list" (as.map Value.ref).toArray 0)) h1.objs.size (as.map Value.ref) out.toArray).get? b=some o:=fun b o e =>
  (sortedHeap_old (ycw (ydl e)) (by rw[ydq];exact yde (ydl e))).trans (ydk _ e)
 obtain ⟨n3,at3⟩:=sortedHeap_at (out:=out.toArray) hoL
 generalize sortedHeap (h1.push (seqObj "list" (as.map Value.ref).toArray 0)) h1.objs.size (as.map Value.ref) out.toArray=h3 at keep3 at3 ⊢
 have zm:(as.zip l).map (·.1)=as:=List.map_fst_zip (by ac_rfl)
 have nd:((as.zip l).map (·.1)).Nodup:=by
  rw[zm]
  exact hG.rise.imp fun {a b} z=>ycw z
 have zin:∀ i,i<as.length->(as.getD i 0,l.getD i (0,0))∈as.zip l:=fun i hi=>by
  refine yai (i:=i) ?_
  rw[ycl]
  have hi2:i<l.length:=by ac_rfl
  have g1:as.getD i 0=as[i]:=by rw[yac,yaa hi];rfl
  have g2:l.getD i (0,0)=l[i]:=by rw[yac,yaa hi2];rfl
  rw[g1,g2]
  exact ⟨yaa hi,yaa hi2⟩
 obtain ⟨H1,I1,s1,t1,o1⟩:=zj8 (h':=h3) (tk:=tk) hex I (fun b o e=>keep3 b o (k1 b o e)) (as.zip l) nd fun b hb=>by
  obtain ⟨i,hi⟩:=ybe.mp hb
  rw[ycl] at hi
  have hlt:i<as.length:=(yad.mp hi.1).1
  refine ⟨fresh _ (yai hi.1),?_⟩
  have:=(pr i hlt).keep (h':=h3) fun a o _ e=>keep3 a o e
  rw[yac,yaf,hi.1,yac,hi.2] at this
  exact this
 have hnL:s.heap.get? h1.objs.size=none:=by
  cases e:s.heap.get? h1.objs.size with
  | none=>rfl
  | some o=>exact absurd (ydl (k1 _ o e)) (yda _)
 obtain ⟨f1,f2,f3,f4⟩:=I.zm3 hnL hex
 have nLa:h1.objs.size ∉ (as.zip l).map (·.1):=by
  rw[zm]
  exact fun z=>yda _ (asl _ z)
 have goneL:H1 h1.objs.size=none:=by rw[o1 _ nLa];exact I.hok.gone hnL
 have pin:∀ i∈P.toList,i<as.length:=fun i hi=>by
  obtain ⟨j,hj,rfl⟩:=yaw.mp hi
  have hj':j<as.length:=by rw[<-a1.1];simpa using hj
  have:=a1.2 j hj'
  rw[ydy,ydw (by rw[a1.1];exact hj')] at this
  simpa using this
 have plen:P.toList.length=as.length:=by rw[ydx,a1.1]
 have vl':Vals (P.toList.map fun i=>V.ref (as.getD i 0)) out:=by
  rw[hout]
  refine zjH _ fun i hi=>?_
  have hi':=pin i hi
  rw[yac,yac,yaf,yaa hi']
  rfl
 have I2:=I1.track (o:=.lst (P.toList.map fun i=>V.ref (as.getD i 0))) goneL f1 f2 f3 f4 ⟨by rw[yab,plen,sizeLine_eq];ac_rfl,out,n3,vl',by simpa [seqObj] using at3⟩
 have sm:Same H (upd H1 h1.objs.size (.lst (P.toList.map fun i=>V.ref (as.getD i 0)))):=s1.trans (ze goneL _)
 refine ⟨.ref h1.objs.size,_,I2,rfl,q _ _ _ (P.toList.map fun i=>l.getD i (0,0)) (I.hok.gone hnL) sm zh (zje (by rw[yab,yab]) fun j v x e1 e2=>?_) ?_ ?_⟩
 ·rw[yaf] at e1 e2
  obtain ⟨i,hi,rfl⟩:=Option.map_eq_some_iff.mp e1
  rw[hi] at e2
  have e2':l.getD i (0,0)=x:=Option.some.inj e2
  have hi':=pin i (yai hi)
  refine ⟨_,rfl,?_⟩
  rw[<-e2',zp (fun z=>nLa (by rw[zm,<-z,yac,yaa hi'];exact yca hi'))]
  exact t1 _ (zin i hi')
 ·have pp:P.toList.Perm (yaq l.length):=by
   have:=Array.perm_iff_toList_perm.mp a2
   rw[an] at this
   exact this
  have:=pp.map fun i=>l.getD i (0,0)
  rw[map_getD] at this
  exact this
 ·refine yar.mpr fun i j hi hj lt=>?_
  rw[yab] at hi hj
  have up:=a3 i j (ydi lt) (by ac_rfl)
  have gi:∀ m (h:m<P.toList.length),P.getD m 0=P.toList[m]:=fun m h=>by
   rw[ydy,ydw (by simpa using h)]
   simp
  rw[gi i hi,gi j hj] at up
  have:=of_decide_eq_false up
  rw[ycs,ycs]
  ac_rfl
end
end L2
namespace Dbt
noncomputable def mx (a b:Int):Int:=if b > a then b else a
noncomputable def mn (a b:Int):Int:=if b<a then b else a
theorem zhC {a b:Int}:a<=mx a b/\b<=mx a b/\(mx a b=a\/mx a b=b):=by unfold mx;split <;> ac_rfl
theorem zph {a b:Int}:mn a b<=a/\mn a b<=b/\(mn a b=a\/mn a b=b):=by unfold mn;split <;> ac_rfl
inductive Wd where
 | lend | fee | turn | take | grow
noncomputable def step (u:Int) (w:Wd) (x m n:Int):Int × Int :=
 match w with
 | .lend=>(mn (m+x) (mx 0 ((n+u*x) / u)),n+u*x)
 | .fee=>(mn m (mx 0 ((n+u*x) / u)),n+u*x)
 | .take=>(mn m (mx 0 ((n+u * -x) / u)),n+u * -x)
 | .turn=>(mx 0 (n / u),n)
 | .grow=>(m,n+x)
noncomputable def Okd:Wd->Int->Prop
 | .lend,x=>0<=x
 | .grow,x=>0<=x
 | _,_=>True
def Good (u m n:Int):Prop:=0<=m/\m<=mx 0 (n / u)
theorem good0 (u:Int):Good u 0 0:=⟨yds _,zhC.1⟩
theorem zdc {u:Int} {w:Wd} {x m n:Int} (hu:0<u) (ok:Okd w x) (g:Good u m n):Good u (step u w x m n).1 (step u w x m n).2:=by
 obtain ⟨g0,g1⟩:=g
 cases w with
 | lend =>
  have h0:0<=x:=ok
  have:=zhC (a:=0) (b:=(n+u*x) / u)
  have:=zph (a:=m+x) (b:=mx 0 ((n+u*x) / u))
  show 0<=mn (m+x) (mx 0 ((n+u*x) / u))/\mn (m+x) (mx 0 ((n+u*x) / u))<=mx 0 ((n+u*x) / u)
  ac_rfl
 | fee =>
  have:=zhC (a:=0) (b:=(n+u*x) / u)
  have:=zph (a:=m) (b:=mx 0 ((n+u*x) / u))
  show 0<=mn m (mx 0 ((n+u*x) / u))/\mn m (mx 0 ((n+u*x) / u))<=mx 0 ((n+u*x) / u)
  ac_rfl
 | take =>
  have:=zhC (a:=0) (b:=(n+u * -x) / u)
  have:=zph (a:=m) (b:=mx 0 ((n+u * -x) / u))
  show 0<=mn m (mx 0 ((n+u * -x) / u))/\mn m (mx 0 ((n+u * -x) / u))<=mx 0 ((n+u * -x) / u)
  ac_rfl
 | turn =>
  have:=zhC (a:=0) (b:=n / u)
  show 0<=mx 0 (n / u)/\mx 0 (n / u)<=mx 0 (n / u)
  ac_rfl
 | grow =>
  have h0:0<=x:=ok
  have h1:n / u<=(n+x) / u:=Int.ediv_le_ediv hu (by ac_rfl)
  have:=zhC (a:=0) (b:=n / u)
  have:=zhC (a:=0) (b:=(n+x) / u)
  show 0<=m/\m<=mx 0 ((n+x) / u)
  ac_rfl
variable {u s0 s1 m1 n1 m2 n2 x y:Int}
noncomputable def t1 (s1:Int):Option (Wd × Int)->Wd × Int->Int
 | some (.fee,x),(.fee,y)=>s1+y-x
 | _,_=>s1
end Dbt
namespace L2
open PySem PySem.Spec PyProof.Rows
def zr8 (i j:Int):Prop:=0<j/\j<1152921504606846976
section
variable {X:Cx}
theorem zjZ:OpR X (binaryOp .FloorDiv) (rI zr8 fun i j=>.int (i / j)):=opI fun i j _ _ _ _ _ hc q=>by
 have h1:(0:Int)<j:=hc.1
 have h2:j<1152921504606846976:=hc.2
 refine floordiv_int (by ac_rfl) (by rw[Int.fdiv_eq_ediv_of_nonneg i (by ac_rfl)];exact q) (.inl (PyProof.noPylong_of_log2 ?_))
 have h0:j.natAbs≠0:=by ac_rfl
 have:j.natAbs.log2<60:=(Nat.log2_lt h0).mpr (show j.natAbs<1152921504606846976 by ac_rfl)
 ac_rfl
theorem zsE:OpR X (binaryOp .Mult) (rI IntMulOk fun i j=>.int (i*j)):=opI fun _ _ _ _ _ _ _ hc q=>mul_int q hc
end
structure MkI (K:W.Frag) (C:Addr):Prop where
 makes:PySem.W.makesIn K C=true
 kp:PySem.W.keepIn K (.ref C)=true
def zup (C:Addr) (f:Str) (ta:TE):TE:=fun σ H Q=>ta σ H fun x H1=>∃ a dx fs v,x=.ref a/\H1 a=some (.ins C dx fs)/\fs.lookup f=some v/\Q v H1
def zur (C:Addr) (f:Str) (ta tv:TE):TS:=fun D σ H=>tv σ H fun y H1=>ta σ H1 fun x H2=>∃ a dx fs,x=.ref a/\H2 a=some (.ins C dx fs)/\fs.length<1000/\D.nx σ (upd H2 a (.ins C dx (zaq f y fs)))
section
variable {X:Cx} {C:Addr} {x m f:Str} {p pos pos' apos:Pos} {e o value:Expr} {es:List Expr} {ta tv:TE} {t:TA} {j k:Nat} {ps:List Str} {sp:Sp}
theorem zI (hc:Cls X.K C) (hn:zU X.K C f) (he:PE X e ta) (hb:attributeBase e f X.env (eval e X.env)=eval e X.env:=by rfl):PE X (.Attribute e f pos) (zup C f ta):=by
 intro pins s σ H Q I h
 refine zoR hb (thn (he pins s σ H _ I h) fun u s1 ⟨x,H1,I1,rx,a,dx,fs,v,ex,ea,l,q⟩=>?_)
 subst ex
 obtain rfl:u=Value.ref a:=rx
 exact zj6 I1 ea hc hn l fun u' s2 I2 ru=>⟨v,H1,I2,ru,q⟩
theorem zah (hc:Cls X.K C) (hn:zU X.K C f) (ha:PE X o ta) (hv:PE X value tv) (hs:swapsWith value (some (.Attribute o f pos')) pos.line X.env=pure false:=by rfl):PS X (.Assign [.Attribute o f pos'] value pos) (zur C f ta tv):=by
 intro pins s σ H D I h
 refine plainObj_wpAny_Assign_Attribute (thn (hv pins s σ H _ I h) fun u s1 ⟨y,H1,I1,ry,q⟩=>thn (ha pins s1 σ H1 _ I1 q) fun ov s2 ⟨x,H2,I2,rx,a,dx,fs,ex,ea,l,q2⟩=>?_) hs
 subst ex
 obtain rfl:ov=Value.ref a:=rx
 exact zke I2 ea hc hn l ry fun s3 I3=>⟨σ,_,I3,q2⟩
theorem zcb {pl:Sem Bool} (D:zu X.prog X.w X.K X.mg X.base j C m ps sp) (hc:Cls X.K C) (hr:Room k X.A) (he:PE X o ta) (ha:PA X (e::es) t) (hj:j<=k:=by decide)
  (hst:starEach (e::es) X.env=(false,eval e X.env)::starEach es X.env:=by rfl) (hpl:(backTo pos (starEach es X.env)).any (·.1)=false:=by rfl)
  (ht:eval (.Call (.Attribute o m apos) (e::es) [] pos) X.env=(do
   let ov <-eval o X.env
   standAt apos.atName
   let (f,first) <-holding [ov] (getMethod ov m pl)
   callWith pos f first (backTo pos (starEach (e::es) X.env)) (backToKw pos (keywordEach [] X.env))):=by rfl) :
  PE X (.Call (.Attribute o m apos) (e::es) [] pos) (zmg C m sp [] E0 ta t):=by
 obtain ⟨f,fd,F,hm,hb⟩:=D.ex
 exact zsL (pl:=pl) he hc hm F (hr.mono hj) (.all hb) .nil zgn ha hst hpl ht
theorem zC {pl:Sem Bool} (D:zu X.prog X.w X.K X.mg X.base j C m ps sp) (hc:Cls X.K C) (hr:Room k X.A) (he:PE X o ta) (hj:j<=k:=by decide)
  (ht:eval (.Call (.Attribute o m apos) [] [] pos) X.env=(do
   let ov <-eval o X.env
   standAt apos.atName
   let (f,first) <-holding [ov] (getMethod ov m pl)
   callWith pos f first (backTo pos (starEach [] X.env)) (backToKw pos (keywordEach [] X.env))):=by rfl) :
  PE X (.Call (.Attribute o m apos) [] [] pos) (zmg C m sp [] E0 ta zld):=by
 obtain ⟨f,fd,F,hm,hb⟩:=D.ex
 exact zrb (pl:=pl) he hc hm F (hr.mono hj) (.all hb) .nil zgn ht
theorem zbL (M:MkI X.K C) (D:zu X.prog X.w X.K X.mg X.base j C "__init__" ps sp) (hr:Room k X.A) (hm:X.mg x=some (.ref C)) (ha:PA X (e::es) t) (hj:j+1<=k:=by decide) (hg:Gl X x:=by rfl)
  (hdb:(x == ("__debug__" : Str))=false:=by decide) (he:starEach (e::es) X.env=(false,eval e X.env)::starEach es X.env:=by rfl) (hpl:(backTo pos (starEach es X.env)).any (·.1)=false:=by rfl) :
  PE X (.Call (.Name x p) (e::es) [] pos) (zr3 C sp [] E0 t):=by
 obtain ⟨f,fd,F,hme,hb⟩:=D.ex
 exact zsl ⟨M.makes,hme.at_,hme.fn,M.kp⟩ F (hr.mono hj) hg hm (.all hb) .nil zgn ha hdb he hpl
end
section
variable {K:W.Frag} {x:Str} {C f:Addr}
theorem zkh (a:PySem.W.nsIn K mainGlobals x=some (some (.ref C))) (h1:PySem.W.makesIn K C=true) (h3:PySem.W.keepIn K (.ref C)=true):MkI K (cA K x):=by
 rw[zbj a];exact ⟨h1,h3⟩
end
noncomputable def zab (u m n:Int):List (Str × V):=[("cent_units", .int u),("principal_cents", .int m),("owed_units", .int n)]
abbrev Deb (K:W.Frag) (H:Hp) (p dx:Addr) (u m n:Int):Prop:=H p=some (.ins (cA K "Debt") dx (zab u m n))
theorem zo9 {u m n x:Int}:zaq "owed_units" (.int x) (zab u m n)=zab u m x:=by rfl
theorem zmf {u m n x:Int}:zaq "principal_cents" (.int x) (zab u m n)=zab u x n:=by rfl
theorem zbl {u m n:Int}:(zab u m n).length<1000:=by show 3<1000;decide
theorem Deb.same {K:W.Frag} {H H':Hp} {p dx:Addr} {u m n:Int} (e:Deb K H p dx u m n) (s:Same H H'):Deb K H' p dx u m n:=s _ _ e
theorem zhW {K:W.Frag} {H:Hp} {p q C dx:Addr} {fs:List (Str × V)} {o:HO} {xs:List V} (e:H p=some (.ins C dx fs)) (h:H q=some (.tup xs)):(upd H p o) q=some (.tup xs):=by
 rw[zp (zaw h e (by intro z;cases z))];exact h
theorem zq {H:Hp} {p:Addr} (o:HO) (_h:H p=none):(upd H p o) p=some o:=zh
section
variable {H H':Hp} {xs ys zs:List V} {l r:List (Dbt.Wd × Int)} {p:Addr} {d:Dbt.Wd × Int}
end
theorem Deb.putL {K:W.Frag} {H:Hp} {p dx s:Addr} {u m n:Int} {xs:List V} {o:HO} (e:Deb K H p dx u m n) (h:H s=some (.lst xs)):Deb K (upd H s o) p dx u m n:=by
 show (upd H s o) p=_
 rw[zp (zaw e h (by intro z;cases z))]
 exact e
structure zre (K:W.Frag) (C:Addr):Prop where
 ha:PySem.W.findIn K (.ref C) "__class__" = some (some (.builtin "object.__class__"))
 hn:PySem.W.specialIn K (.builtin "object.__class__") "__get__" = some (some (.builtin "getset_descriptor.__get__"))
 htk:PySem.W.takesIn K (.builtin "object.__class__")=some true
 hm:PySem.W.mroIn K C (.type "object")=some true
theorem zor {K:W.Frag} {x:Str} {C:Addr} (a:PySem.W.nsIn K mainGlobals x=some (some (.ref C))) (h1:PySem.W.findIn K (.ref C) "__class__" = some (some (.builtin "object.__class__")))
  (h2:PySem.W.specialIn K (.builtin "object.__class__") "__get__" = some (some (.builtin "getset_descriptor.__get__"))) (h3:PySem.W.takesIn K (.builtin "object.__class__")=some true) (h4:PySem.W.mroIn K C (.type "object")=some true):zre K (cA K x):=by
 rw[zbj a];exact ⟨h1,h2,h3,h4⟩
theorem zqP {X:Cx}:zbo X (.builtin "isinstance") (fun xs H Q=>∃ x t D b,xs=[x,.ref D]/\zcd X.K H x t/\PySem.W.kitOne X.K t (.ref D)=some b/\Q (.bl b) H):=by
 intro pins s σ H xs us Q I r h
 obtain ⟨x,t,D,b,rfl,ty,e,q⟩:=h
 obtain ⟨u,w',rfl,rx,rn⟩:=vals2 r
 cases rn
 exact zlr I rx ty e fun tk=>⟨.bl b,H,I.tok tk,rfl,q⟩
structure zmM (K:W.Frag) (C:Addr) (m qual:Str) (st:Stmt) (ps:List Str):Prop where
 ex:∃ (f:Addr) (fd:FuncData),Fun K m qual st f fd/\(PySem.W.specialIn K (.ref C) "__getattribute__" = some (some (.builtin "type.__getattribute__"))/\PySem.W.readsIn K C (.type "type")=true /\
  PySem.W.findCls K (.ref C) (.type "type") m=some (.val (.ref f))/\PySem.W.handedIn (.ref f)=true)/\∀ us:List Value,us.length=ps.length->bindArgs fd ⟨us,[]⟩=pure (ps.zip us)
structure zpd (P:Program) (w:World) (K:W.Frag) (mg:Str->Option Value) (base:Heap) (k:Nat) (C:Addr) (m:Str) (ps:List Str) (sp:Sp):Prop where
 ex:∃ (f:Addr) (fd:FuncData),zba P w K mg base CX0 k f fd ps sp/\(PySem.W.specialIn K (.ref C) "__getattribute__" = some (some (.builtin "type.__getattribute__"))/\PySem.W.readsIn K C (.type "type")=true /\
  PySem.W.findCls K (.ref C) (.type "type") m=some (.val (.ref f))/\PySem.W.handedIn (.ref f)=true)/\PySem.W.keepIn K (.ref f)=true/\∀ us:List Value,us.length=ps.length->bindArgs fd ⟨us,[]⟩=pure (ps.zip us)
theorem zmM.ok {P:Program} {w:World} {K:W.Frag} {mg:Str->Option Value} {base:Heap} {C:Addr} {m qual:Str} {st:Stmt} {N ps:List Str} {k:Nat} {sp:Sp} (S:zmM K C m qual st ps) (sc:zi N ps (zg st)) (len:∀ vs H Q E,sp vs H Q E->vs.length=ps.length)
  (hbody:∀ (f:Addr) (cdv:Value) (A:Around) (outer:List Env) (s:Shared) (H:Hp) (vs:List V) (Q:VK) (E:XK),Room k (A.deeper (envOfC qual (zg st) s.heap.objs.size f cdv))->sp vs H Q E ->
   ∃ t,PSs (zaC CX0 P w K mg base N qual (zg st) f cdv A outer s H E).nox (zaE st) t/\t { nx:=fun _ H'=>Q .non H',rt:=Q } (start N vs) H):zpd P w K mg base (k+1) C m ps sp:=by
 obtain ⟨f,fd,F,hm,hb⟩:=S.ex
 exact ⟨f,fd,F.ok sc len (fun cdv=>hbody f cdv),hm,F.kp,hb⟩
section
variable {X:Cx} {C:Addr} {x m:Str} {p pos apos:Pos} {e o:Expr} {es:List Expr} {t:TA} {j k:Nat} {ps:List Str} {sp:Sp}
theorem ztj {pl:Sem Bool} (D:zpd X.prog X.w X.K X.mg X.base j C m ps sp) (he:PE X o (tC (.ref C))) (hr:Room k X.A) (ha:PA X (e::es) t) (hj:j<=k:=by decide)
  (hst:starEach (e::es) X.env=(false,eval e X.env)::starEach es X.env:=by rfl) (hpl:(backTo pos (starEach es X.env)).any (·.1)=false:=by rfl)
  (ht:eval (.Call (.Attribute o m apos) (e::es) [] pos) X.env=(do
   let ov <-eval o X.env
   standAt apos.atName
   let (f,first) <-holding [ov] (getMethod ov m pl)
   callWith pos f first (backTo pos (starEach (e::es) X.env)) (backToKw pos (keywordEach [] X.env))):=by rfl) :
  PE X (.Call (.Attribute o m apos) (e::es) [] pos) (zma sp [] E0 t):=by
 intro pins s σ H Q I h
 obtain ⟨f,fd,F,⟨h1,h2,h3,h4⟩,kp,hb⟩:=D.ex
 refine PySem.W.methodCall_KW (pl:=pl) (thn (he pins s σ H (fun v H1=>v=.ref C/\H1=H) I ⟨rfl,rfl⟩) fun u s1 ⟨y,H1,I1,ry,e1,e2⟩=>?_) ht
 subst e1 e2
 obtain rfl:u=Value.ref C:=ry
 refine PySem.W.method_cls I1.kIn h1 (PySem.W.cls_value I1.kIn h2 h3 h4 ?_)
 have I2:=I1.tok (s1.toks+1)
 refine PySem.W.callWith_K (first:=[]) (h₀:=X.base) I.ok.mod.kin kp (thn (ha pos pins _ σ _ _ I2 h) fun us s2 ⟨vs,H2,I3,r,q2⟩=>⟨I3.kIn,?_⟩) hst hpl
 exact zf3 (us:=us) (vs:=vs) (dvs:=[]) (ds:=[]) F (hr.mono hj) (.all hb) .nil zgn I3 r q2
end
theorem zh9:∀ {bs:List Bool} {us:List Value},Vals (bs.map V.bl) us->LSm.BoolsAre us bs
 | [],_,.nil=>.nil
 | b::bs,_,.cons r rs=>by
  cases r
  exact .cons b (zh9 rs)
theorem zlB {X:Cx} (hc:X.calm=true):zbo X (.builtin "all") (fun xs H Q=>∃ (p:Addr) (bs:List Bool),xs=[.ref p]/\SqL X.K H p (bs.map V.bl)/\Q (.bl (bs.all id)) H):=by
 intro pins s σ H xs us Q I r h
 obtain ⟨p,bs,rfl,hq,q⟩:=h
 obtain ⟨u,rfl,rx⟩:=vals1 r
 cases rx
 obtain ⟨vs,rv,pl,hz⟩:=I.list hq
 have hb:=zh9 rv
 have hl:=pl.isList
 have hlt:p<s.heap.objs.size:=by obtain ⟨_,e,_⟩:=hl;exact ydl e
 refine PySem.call_all_walk (wpAny_pyIter_list hl ?_)
 refine ⟨s.heap.objs.size,[s.heap.objs.size,p],[s.heap.objs.size],vs.toArray.size,_,_,fun i=>(bs[i]?).getD true,rfl,Walks.list (A:=X.A.in1) (I.ok.hd hc) _ p (ycw hlt) vs.toArray,
  ⟨⟨_,ydm _ rfl,rfl,rfl⟩,hl.push _⟩,fun i v s' Q' E' hP hQ=>?_,fun h' tk hk=>?_⟩
 ·obtain ⟨b,e,rfl⟩:=hb.get i v (by simpa using hP)
  simp only[e,Option.getD_some] at hQ
  exact wpAny_truthy_bool hQ
 ·have e:((yaq vs.toArray.size).all fun i=>(bs[i]?).getD true)=bs.all id:=by
   rw[<-LSm.range_all,yal,hb.length]
  rw[e]
  exact ⟨.bl _,H,I.kept (LSm.kept_iter hk),rfl,q⟩
inductive Ek where
 | pay | turn | base
noncomputable def Ek.cls:Ek->Str
 | .pay => "Pay"
 | .turn => "Turn"
 | .base => "Entry"
noncomputable def Ek.word:Ek->Str
 | .pay => "pay"
 | .turn => "turn"
 | .base => ""
noncomputable def zhu:Ek->Int->Int->List (Str × V)
 | .turn,d,_=>[("day", .int d)]
 | .base,d,_=>[("day", .int d)]
 | .pay,d,x=>[("day", .int d),("amount", .int x)]
noncomputable def zu3:Ek->Int->Int->List V
 | .turn,d,_=>[.str "turn", .int d]
 | .base,d,_=>[.str "", .int d]
 | k,d,x=>[.str k.word,.int d,.int x]
abbrev zfa (K:W.Frag) (H:Hp) (a dx:Addr) (k:Ek) (d x:Int):Prop:=H a=some (.ins (cA K k.cls) dx (zhu k d x))
theorem zfU (k:Ek) (d x:Int):ybx ("day" : Str) (zhu k d x)=some (V.int d):=by cases k <;> rfl
theorem zgg (k:Ek) (d x:Int):ybx ("word" : Str) (zhu k d x)=none:=by cases k <;> rfl
def zp6 (K:W.Frag) (m:Str) (sp:Ek->Sp) (ta:TE) (t:TA):TE:=fun σ H Q=>ta σ H fun x H1=>∃ (k:Ek) (a dx:Addr) (fs:List (Str × V)),x=.ref a/\H1 a=some (.ins (cA K k.cls) dx fs)/\fs.lookup m=none/\t σ H1 fun vs H2=>sp k (x::vs) H2 Q E0
section
variable {X:Cx} {C:Addr} {x m:Str} {p pos apos:Pos} {e o:Expr} {es:List Expr} {ta:TE} {t:TA} {j k:Nat} {ps:List Str}
theorem zqK {pl:Sem Bool} {sp:Ek->Sp} (D:∀ k:Ek,zu X.prog X.w X.K X.mg X.base j (cA X.K k.cls) m ps (sp k)) (hc:∀ k:Ek,Cls X.K (cA X.K k.cls)) (hr:Room k X.A) (he:PE X o ta) (hj:j<=k:=by decide)
  (ht:eval (.Call (.Attribute o m apos) [] [] pos) X.env=(do
   let ov <-eval o X.env
   standAt apos.atName
   let (f,first) <-holding [ov] (getMethod ov m pl)
   callWith pos f first (backTo pos (starEach [] X.env)) (backToKw pos (keywordEach [] X.env))):=by rfl) :
  PE X (.Call (.Attribute o m apos) [] [] pos) (zp6 X.K m sp ta zld):=by
 intro pins s σ H Q I h
 refine PySem.W.methodCall_KW (pl:=pl) (thn (he pins s σ H _ I h) fun u s1 ⟨x,H1,I1,rx,kd,a,dx,fs,ex,ea,l,q⟩=>?_) ht
 subst ex
 obtain rfl:u=Value.ref a:=rx
 obtain ⟨f,fd,F,hm,hb⟩:=(D kd).ex
 refine zdg I1 ea (hc kd) hm l ?_
 exact PySem.W.callWith_K0 (first:=[.ref a]) I1.kIn hm.kp (zf3 (us:=[.ref a]) (vs:=[.ref a]) (dvs:=[]) (ds:=[]) F (hr.mono hj) (.all hb) .nil zgn I1 (.cons rfl .nil) q)
end
section
variable {K:W.Frag} {x:Str} {C f:Addr}
theorem ztD {m qual:Str} {st:Stmt} {ps:List Str} {oc:Value} {od an:Option Addr} {osl:Array (Option Value)} {kV doc pm cdv ct:Value} (a:PySem.W.nsIn K mainGlobals x=some (some (.ref C))) (h1:PySem.W.specialIn K (.ref C) "__getattribute__" = some (some (.builtin "type.__getattribute__")))
  (h2:PySem.W.readsIn K C (.type "type")=true) (h3:PySem.W.findCls K (.ref C) (.type "type") m=some (.val (.ref f))) (h4:PySem.W.handedIn (.ref f)=true)
  (fk:PySem.W.keepIn K (.ref f)=true) (fl:K.lookup f=some ⟨oc,od,.func (PySem.W.fnOf m qual (zcs st) (zaE st) (zg st) .none kV doc pm an cdv ct),osl⟩) (fc:PySem.W.codeIn K cdv qual=true)
  (hb:∀ us:List Value,us.length=ps.length->bindArgs (PySem.W.fnOf m qual (zcs st) (zaE st) (zg st) .none kV doc pm an cdv ct) ⟨us,[]⟩=pure (ps.zip us)):zmM K (cA K x) m qual st ps:=by
 rw[zbj a];exact ⟨f,_,zmj fl fc fk,⟨h1,h2,h3,h4⟩,hb⟩
end
section
variable {X:Cx}
end
end L2
namespace L2
open PySem
theorem zsf {X:Cx} {st:Stmt} {t:TS} (h:PS X.nox st t):PS X st t:=by
 intro pins s σ H D I ht
 refine wpAny_mono (h pins s σ H D (I.wish _) ht) (fun fl s' q=>?_) fun _ _ z=>False.elim z
 cases fl with
 | next=>obtain ⟨σ',H',J,q⟩:=q;exact ⟨σ',H',J.unwish,q⟩
 | brk=>obtain ⟨σ',H',J,q⟩:=q;exact ⟨σ',H',J.unwish,q⟩
 | cont=>obtain ⟨σ',H',J,q⟩:=q;exact ⟨σ',H',J.unwish,q⟩
 | ret u=>obtain ⟨v,σ',H',J,r,q⟩:=q;exact ⟨v,σ',H',J.unwish,r,q⟩
end L2
namespace L2
noncomputable def eqK:Kd->Kd->Bool
 | .plain,.plain=>true
 | .bank,.bank=>true
 | _,_=>false
noncomputable def zty (k:Kd):Kd->Bool
 | .plain=>true
 | .bank=>eqK k .bank
end L2
namespace L2
open PySem PySem.Spec PyProof.Rows
section
variable {P:Program} {w:World} {K:W.Frag} {mg:Str->Option Value} {base:Heap} {C:Addr} {m qual:Str} {st:Stmt} {N ps:List Str} {k:Nat} {sp:Sp}
end
section
variable {X:Cx} {C:Addr} {x m:Str} {p pos apos:Pos} {e o:Expr} {es:List Expr} {ta:TE} {t:TA} {j k:Nat} {ps:List Str} {sp:Sp}
end
noncomputable abbrev Cx.tried (X:Cx) (xe:Value->Shared->Prop) (pn:List (Addr × Obj)):Cx:={ X with xe:=xe,pn:=X.pn++pn }
section
variable {X:Cx} {pins pins':List (Addr × Obj)} {σ:St} {H:Hp} {s:Shared} {xe:Value->Shared->Prop}
theorem Cx.Ok.tried (ok:X.Ok) (xe:Value->Shared->Prop) (pn:List (Addr × Obj)):(X.tried xe pn).Ok:=⟨ok.mod,ok.kind,ok.glob,ok.blt,ok.above,ok.inj,ok.has,ok.cab,ok.hd,ok.frames,ok.stk,ok.exf,ok.bs,ok.bsz,ok.noex,ok.exfs,ok.funs,ok.frf⟩
theorem Cx.Ok.untried {pn:List (Addr × Obj)} (ok:(X.tried xe pn).Ok):X.Ok:=⟨ok.mod,ok.kind,ok.glob,ok.blt,ok.above,ok.inj,ok.has,ok.cab,ok.hd,ok.frames,ok.stk,ok.exf,ok.bs,ok.bsz,ok.noex,ok.exfs,ok.funs,ok.frf⟩
theorem Inv.tried (I:Inv X pins σ H s) (xe:Value->Shared->Prop):Inv (X.tried xe pins) [] σ H s:=⟨I.ok.tried xe pins,I.os,I.bare,I.base,I.loc,I.cell,I.free,I.freeC,fun p hp=>I.pin p (by rw[ybi] at hp;exact hp),I.hok,I.len⟩
theorem Inv.untried (I:Inv (X.tried xe pins) pins' σ H s):Inv X pins σ H s:=⟨I.ok.untried,I.os,I.bare,I.base,I.loc,I.cell,I.free,I.freeC,fun p hp=>I.pin p (ybc _ hp),I.hok,I.len⟩
theorem Inv.blank (I:Inv X pins σ H s) {σn:St} (hl:σn.length=X.N.length) (hn:∀ (i:Nat) (v:V),σn[i]?≠some (some v)):Inv X pins σn H s:=⟨I.ok,I.os,I.bare,I.base,(let ⟨m,a,_⟩:=I.loc;⟨m,a,fun i x v _ h=>absurd h (hn i v)⟩),I.cell,I.free,I.freeC,I.pin,I.hok,hl⟩
theorem SP.untried {D:Ends} {f:Flow} {s':Shared} (h:SP (X.tried xe pins) [] D f s'):SP X pins D f s':=by
 cases f with
 | next=>obtain ⟨σ',H',I,q⟩:=h;exact ⟨σ',H',I.untried,q⟩
 | brk=>obtain ⟨σ',H',I,q⟩:=h;exact ⟨σ',H',I.untried,q⟩
 | cont=>obtain ⟨σ',H',I,q⟩:=h;exact ⟨σ',H',I.untried,q⟩
 | ret u=>obtain ⟨v,σ',H',I,r,q⟩:=h;exact ⟨v,σ',H',I.untried,r,q⟩
end
section
variable {M:Model} {A:Around} {E:Value->Shared->Prop} {s:Shared} {B:Heap} {v:Env} {out:List Env} {L e d:Addr} {Q:Unit->Shared->Prop}
end
section
variable {X:Cx} {pins:List (Addr × Obj)} {σ:St} {H:Hp} {s:Shared} {e:Addr} {φ:Heap->Prop}
end
section
variable {P:Program} {w:World} {K:W.Frag} {mg:Str->Option Value} {base:Heap} {N:List Str} {qual:Str} {scope:Scope} {f:Addr} {cd:Value} {A:Around} {outer:List Env} {s₀:Shared} {H₀:Hp} {E:XK}
end
section
variable {M:Model} {A:Around} {E:Value->Shared->Prop} {env:Env} {nm q:Str} {C N:Addr} {bs bm:List Value} {hdct:Bool} {sn:List Str} {sub:List Value} {ab:Bool} {col:Option Bool} {dd:Option Addr} {k0 k1 k2 k3 k5:Option Value} {newId:String}
end
section
variable {X:Cx} {x:Str} {np pos:Pos} {e0:Expr} {t:TA} {C f:Addr} {fd:FuncData} {ps:List Str} {name:Str} {j k:Nat}
end
section
variable {X:Cx} {x:Str} {np cpos pos:Pos} {e0:Expr} {t:TA} {name:Str} {j k:Nat} {E:XK}
end
section
variable {X:Cx} {o value:Expr} {name:Str} {pos pos':Pos} {ta tv:TE} {C:Addr}
end
def zuP (h:Heap) (e:Addr) (o:Obj):Prop:=∃ T:Addr,h.get? e=some (Obj.mapFields (·.setIfInBounds 1 (Value.ref T)) o)
section
variable {M:Model} {A:Around} {E:Value->Shared->Prop} {s:Shared} {B:Heap} {v:Env} {out:List Env} {L e:Addr} {Q:Unit->Shared->Prop}
theorem zp9 {oe:Obj} {fs:Array Value} {top x0:Value} {more:Bool} (fr:A.frames=some (v::out)) (ff:s.heap.FunFrames B (v::out)) (vf:v.frame=some L) (ge:s.heap.get? e=some oe) (st:B.StaysIn s.heap) (be:B.get? e=none)
  (od:oe.data=.fields fs) (o1:1<fs.size) (o0:fs[0]?=some x0) (k:∀ h',Heap.NotedW B (v::out) e oe.cls x0 (rawInt L) s.heap h'->zuP h' e oe->Q () { s with heap:=h' }) :
  wpAny M A (do let a <-frameOf v;let pl <-entryPlaceOf L more;let b <-EntryCells.newEntry top a .none (rawInt L) .none pl;setField (.ref e) 1 b) Q E s:=by
 have none_of:∀ b o,s.heap.get? b=some o->(∀ w,o.data≠.fields w)->b≠e:=fun b o hb nf z=>by
  rw[z] at hb
  cases hb.symm.trans ge
  exact nf fs od
 have notin:e ∉ (v::out).filterMap (·.frame):=fun hm=>by
  obtain ⟨_,o,ho,nf⟩:=ff.mem hm
  exact none_of e o ho nf rfl
 refine wpAny_bind (wpAny_frameOf_fun fr ff vf fun g hg=>wpAny_bind (wpAny_entryPlaceOf fun pl hp=>?_))
 unfold EntryCells.newEntry newFields
 refine wpAny_bind (wpAny_newObj_type ?_ (hp.sizeOk5 _ _ _ _ _))
 obtain ⟨tb,htb⟩:∃ tb:Obj,tb={ cls:=.type "traceback", dict:=none,data:=.fields ([top,.ref L,.none,rawInt L,.none]++(if pl.isEmpty then yam 6 Value.none else pl)).toArray }:=⟨_,rfl⟩
 have g1:g.get? e=some oe:=(hg.2.1 e notin).trans ge
 have stg:B.StaysIn g:=fun b o hb=>(hg.2.1 b fun hm=>by cases (ff.mem hm).1.symm.trans hb).trans (st b o hb)
 have g2:=ydk (h:=g) tb g1
 rw[<-htb]
 have od':=Obj.data_mapFields od (·.setIfInBounds 1 (Value.ref g.objs.size))
 have g3:=ydo (Obj.mapFields (·.setIfInBounds 1 (Value.ref g.objs.size))) g2 (Obj.isFreed_of_fields od')
 refine wpAny_setField g2 od o1 (k _ ?_ ⟨_,g3⟩)
 have apart:g.objs.size≠e:=ydg (ydl g1)
 have stay:∀ b o,b≠e->g.get? b=some o->((g.push tb).update e (Obj.mapFields (·.setIfInBounds 1 (Value.ref g.objs.size)))).get? b=some o:=fun b o ne hb =>
  (ydp _ _ ne.symm).trans (ydk _ hb)
 have tbAt:=(ydp (g.push tb) (Obj.mapFields (·.setIfInBounds 1 (Value.ref g.objs.size))) apart.symm).trans (ydm g (by rw[htb];rfl))
 refine ⟨fun b o hb=>stay b o (fun z=>by rw[z,be] at hb;cases hb) (stg b o hb),ff.of_keeps fun b o hb nf=>?_,?_,fun b o hb nf=>?_⟩
 ·obtain ⟨sl,hs⟩:=hg.2.2 b o hb
  exact ⟨_,stay b _ (none_of b o hb nf) hs,rfl⟩
 ·refine ⟨_,_,g.objs.size,tb,_,g3,⟨Obj.cls_mapFields _ _,?_⟩,od',by simp[o1],stg.fresh,apart,tbAt,by rw[htb],?_⟩
  ·rw[Array.getElem?_setIfInBounds_ne (by decide)]
   exact o0
  ·first | (simp;done) | (rcases hp with rfl | ⟨_,_,_,_,_,_,_,rfl⟩ <;> simp)
 ·obtain ⟨sl,hs⟩:=hg.2.2 b o hb
  exact ⟨sl,stay b _ (none_of b o hb nf) hs⟩
theorem zop {c x0 fl:Value} {l:List Env} {to:Option Addr} (st:B.StaysIn s.heap) (ff:s.heap.FunFrames B l) (tr:s.heap.TracedAtW B e c x0 fl)
  (k:∀ h',B.StaysIn h'->h'.FunFrames B l->h'.TracedAtW B e c x0 (to.elim .none fun f=>rawInt f)->h'.get? e=s.heap.get? e->s.heap.UpToSlots h'->Q () { s with heap:=h' }):wpAny M A (setFlight (.ref e) to) Q E s:=by
 obtain ⟨oe,fs,T,oT,ts,ge,cx,od,o1,bT,Te,gT,dT,t3⟩:=tr
 have z3:3<ts.size:=(ydz.mp t3).1
 have rest:∀ b,b≠T->(s.heap.update T (Obj.mapFields (·.setIfInBounds 3 (to.elim Value.none fun f=>rawInt f)))).get? b=s.heap.get? b:=fun b ne=>ydp _ _ ne.symm
 have none_of:∀ b o,s.heap.get? b=some o->(∀ w,o.data≠.fields w)->b≠T:=fun b o hb nf z=>by
  rw[z] at hb
  cases hb.symm.trans gT
  exact nf ts dT
 unfold setFlight
 refine wpAny_bind (wpAny_field ge od o1 ?_)
 rw[if_pos (show (Value.ref T != Value.none)=true from by simp)]
 refine wpAny_setField gT dT z3 (k _ (fun b o hb=>(rest b fun z=>by rw[z,bT] at hb;cases hb).trans (st b o hb)) (ff.of_keeps fun b o hb nf=>⟨o,(rest b (none_of b o hb nf)).trans hb,rfl⟩) ?_ (rest e Te.symm) fun b o hb nf=>⟨o.slots,(rest b (none_of b o hb nf)).trans hb⟩)
 exact ⟨oe,fs,T,_,_,(rest e Te.symm).trans ge,cx,od,o1,bT,Te,ydo _ gT (Obj.isFreed_of_fields (Obj.data_mapFields dT _)),Obj.data_mapFields dT _,by simp[z3]⟩
end
section
variable {P:Program} {w:World} {K:W.Frag} {mg:Str->Option Value} {base:Heap} {N:List Str} {qual:Str} {scope:Scope} {f:Addr} {cd:Value} {A:Around} {outer:List Env} {s₀:Shared} {H₀:Hp} {E:XK}
end
section
variable {prog:Program} {w:World} {A:Around} {E:Value->Shared->Prop} {env:Env} {nm q:Str} {C N:Addr} {bs bm:List Value} {hdct:Bool} {sn:List Str} {sub:List Value} {ab:Bool} {col:Option Bool} {dd:Option Addr} {k0 k1 k2 k3 k5:Option Value} {newId:String}
end
section
variable {M:Model} {A:Around} {E:Value->Shared->Prop} {s:Shared} {B:Heap} {v:Env} {out:List Env} {L e:Addr} {Q:Unit->Shared->Prop}
theorem zp4 {c x0 fl:Value} (fr:A.frames=some (v::out)) (vf:v.frame=some L) (st:B.StaysIn s.heap) (be:B.get? e=none) (ff:s.heap.FunFrames B (v::out)) (tr:s.heap.TracedAtW B e c x0 fl)
  (k:∀ h',Heap.HeldW B (v::out) e c x0 L h'->s.heap.UpToSlots h'->Q () { s with heap:=h' }):wpAny M A (noteFrame (.ref e) v) Q E s:=by
 obtain ⟨oe,fs,T,oT,ts,ge,⟨cx,o0⟩,od,o1,bT,Te,gT,dT,t3⟩:=id tr
 by_cases hfl:(fl == rawInt L)=true
 ·have z:fl=rawInt L:=eq_of_beq hfl
  subst z
  exact wpAny_noteFrame_againW vf tr (k s.heap ⟨st,be,ff,tr⟩ (Heap.UpToSlots.refl _))
 subst cx
 have rest:∀ b,b≠T->(s.heap.update T (Obj.mapFields (·.setIfInBounds 3 Value.none))).get? b=s.heap.get? b:=fun b ne=>ydp _ _ ne.symm
 have none_of:∀ b o,s.heap.get? b=some o->(∀ w,o.data≠.fields w)->b≠T:=fun b o hb nf z=>by
  rw[z] at hb
  cases hb.symm.trans gT
  exact nf ts dT
 unfold noteFrame
 simp only[vf]
 refine wpAny_bind (wpAny_field ge od o1 ?_)
 rw[if_pos (show (Value.ref T != Value.none)=true from by simp)]
 refine wpAny_bind (wpAny_field gT dT t3 ?_)
 rw[if_neg hfl]
 refine wpAny_bind (wpAny_setField gT dT (ydz.mp t3).1 ?_)
 refine zp9 (oe:=oe) (fs:=fs) (x0:=x0) fr (ff.of_keeps fun b o hb nf=>⟨o,(rest b (none_of b o hb nf)).trans hb,rfl⟩) vf ((rest e Te.symm).trans ge) (fun b o hb=>(rest b fun z=>by rw[z,bT] at hb;cases hb).trans (st b o hb)) be od (ydz.mp o1).1 o0 fun h' n m=>?_
 obtain ⟨n1,n2,n3,n4⟩:=n
 exact k h' ⟨n1,be,n2,n3⟩ fun b o hb nf=>n4 b o ((rest b (none_of b o hb nf)).trans hb) nf
end
def Lets (X:Cx) (E:XK):Prop:=∀ (pins:List (Addr × Obj)) (σ:St) (H:Hp) (s:Shared) (h':Heap) (e T:Addr) (c x0 fl:Value),Inv X pins σ H s->(∀ b∈[e,T],X.s₀.heap.get? b=none/\H b=none) ->
 (PySem.W.hideAll s.heap (e::T::frs X.stack)).StaysIn h'->h'.FunFrames (PySem.W.hideAll s.heap (e::T::frs X.stack)) X.stack->h'.TracedAtW (PySem.W.hideAll s.heap (e::T::frs X.stack)) e c x0 fl->s.heap.UpToSlots h'->E c none H->X.xe (.ref e) { s with heap:=h' }
section
variable {P:Program} {w:World} {K:W.Frag} {mg:Str->Option Value} {base:Heap} {N:List Str} {qual:Str} {scope:Scope} {f:Addr} {cd:Value} {A:Around} {outer:List Env} {s₀:Shared} {H₀:Hp} {E:XK}
theorem zt0:Lets (zaC (CXX P w) P w K mg base N qual scope f cd A outer s₀ H₀ E) E:=by
 intro pins σ H s h' e T c x0 fl I hh st ff tr up hE
 have me:e∈e::T::frs (zaC (CXX P w) P w K mg base N qual scope f cd A outer s₀ H₀ E).stack:=yao
 show wpAny _ _ (leaving _ _) _ _ _
 unfold leaving
 refine wpAny_bind (zp4 (s:={ s with heap:=h' }) (B:=PySem.W.hideAll s.heap (e::T::frs (zaC (CXX P w) P w K mg base N qual scope f cd A outer s₀ H₀ E).stack)) (out:=outer) (L:=s₀.heap.objs.size) I.ok.frames rfl st (PySem.W.hideAll_none _ me) ff tr fun h1 hd u1=>?_)
 obtain ⟨n1,n2,n3,n4⟩:=hd
 refine zop (s:={ s with heap:=h1 }) n1 n3 n4 fun h'' m1 m2 m3 m4 m5=>?_
 obtain ⟨_,_,m2⟩:=m2
 have nm:∀ b,b ∉ frs (zaC (CXX P w) P w K mg base N qual scope f cd A outer s₀ H₀ E).stack->b ∉ [e,T]->b ∉ e::T::frs (zaC (CXX P w) P w K mg base N qual scope f cd A outer s₀ H₀ E).stack:=fun b n m z=>by
  rcases yak.mp z with z | z
  ·exact m (by rw[z];simp)
  ·rcases yak.mp z with z | z
   ·exact m (by rw[z];simp)
   ·exact n z
 have F:Flew (zaC (CXX P w) P w K mg base N qual scope f cd A outer s₀ H₀ E) [e,T] s.heap h'':=⟨fun b o q n m=>m1 b o (PySem.W.hideAll_get _ q (nm b n m)),up.trans (u1.trans m5)⟩
 exact ⟨e,c,H,rfl,hE,I.os,I.bare,I.zkf F (fun b z=>(hh b z).1),I.zji F (fun b z=>(hh b z).2),zmz I F (fun b o q n m=>PySem.W.hideAll_get _ q (nm b n m)) ⟨m1,n2,m2,m3⟩ hh (hh e (by simp)) fun b z=>absurd (show b∈([]:List Addr) from z) (by simp)⟩
end
section
variable {prog:Program} {w:World} {A:Around} {R:Result->Shared->Prop} {s:Shared}
end
section
variable {X:Cx} {pins:List (Addr × Obj)} {σ:St} {H:Hp} {s:Shared} {sc:Scope} {x:Str} {ix:List Nat} {fp:List Addr} {elt iter:Expr} {te:TE} {wi:TI} {px pos:Pos} {EK:XK}
end
section
variable {P:Program} {w:World} {K:W.Frag} {mg:Str->Option Value} {base:Heap} {N:List Str} {qual:Str} {scope:Scope} {f:Addr} {cd:Value} {A:Around} {outer:List Env} {s₀:Shared} {H₀:Hp} {E:XK}
end
section
variable {P:Program} {w:World} {K:W.Frag} {mg:Str->Option Value} {base:Heap} {x:Str} {st:Stmt} {N ps:List Str} {k:Nat} {sp:Sp}
end
noncomputable abbrev Ends.gone (D:Ends) (j:Nat):Ends:={ nx:=fun σ H=>D.nx (σ.set j none) H,rt:=D.rt }
section
variable {X:Cx} {pins:List (Addr × Obj)} {σ:St} {H:Hp} {s:Shared}
theorem Inv.zsu {h':Heap} {m:Str->Option Value} {n:Str} {j t':Nat} {v0:Option Value} (I:Inv X pins σ H s) (hl:∀ (i:Nat) (x:Str) (v:V),X.N[i]?=some x->σ[i]?=some (some v)->Vis X.env.scope x->∃ u,RelV v u/\Look X.env s.heap m x u)
  (hN:X.N.Nodup) (hj:X.N[j]?=some n) (hn:h'.Ns X.env.locals (fun x=>if x=n then v0 else m x)) (hs:Heap.SameBut X.env.locals s.heap h'):Inv X pins (σ.set j none) H { s with heap:=h',toks:=t' }:=by
 have neL:∀ b o,X.s₀.heap.get? b=some o->b≠X.env.locals:=fun b o q=>ycw (ycx (ydl q) I.ok.above)
 refine ⟨I.ok,I.os,I.bare,⟨fun b o q n hb hx=>(hs.2 b (neL b o q)).trans (I.base.keep b o q n hb hx),fun b o q n hb hx=>?_,I.base.free,fun b o q hx=>?_,I.base.tups,I.base.frzs,I.base.tbls⟩,⟨_,hn,fun i x v e1 e2 e3=>?_⟩,fun x c q=>?_,I.free,I.freeC,fun p hp=>?_,fun a o q=>?_,by rw[List.length_set];exact I.len⟩
 ·obtain ⟨sl,e1⟩:=I.base.slot b o q n hb hx
  exact ⟨sl,(hs.2 b (neL b o q)).trans e1⟩
 ·obtain ⟨o',e1⟩:=I.base.there b o q hx
  exact ⟨o',(hs.2 b (neL b o q)).trans e1⟩
 ·by_cases hij:j=i
  ·subst hij
   rw[List.getElem?_set] at e2
   simp only[if_true] at e2
   split at e2 <;> cases e2
  ·rw[ycr hij] at e2
   obtain ⟨u,r,q⟩:=hl i x v e1 e2 e3
   refine ⟨u,r,?_⟩
   rcases q with ⟨k,q⟩ | ⟨k,c,q1,o,q2,q3⟩
   ·refine .inl ⟨k,?_⟩
    have ne:x≠n:=fun z=>hij (by
     subst z
     exact (List.getElem?_inj (yad.mp hj).1 hN).mp (hj.trans e1.symm))
    show (if x=n then v0 else m x)=some u
    rw[if_neg ne];exact q
   ·exact .inr ⟨k,c,q1,o,(hs.2 c (I.cne x c q1)).trans q2,q3⟩
 ·obtain ⟨v,o,ho,hd⟩:=I.cell x c q
  exact ⟨v,o,(hs.2 c (I.cne x c q)).trans ho,hd⟩
 ·obtain ⟨a,b,c,d,f⟩:=I.pin p hp
  exact ⟨(hs.2 p.1 c).trans a,b,c,d,f⟩
 ·refine (I.hok a o q).stay (fun b u hb r=>(hs.2 b ?_).trans r) (fun _ z=>z) fun _ _ z=>z
  intro z
  have t:H b≠none:=by
   rcases hb with rfl | hb
   ·rw[q];exact fun z=>nomatch z
   ·rw[hb];exact fun z=>nomatch z
  exact t (by rw[z];exact I.free)
structure Fly (X:Cx) (pins:List (Addr × Obj)) (σ:St) (H:Hp) (s:Shared) (e T:Addr) (c a0:Value) (h:Heap):Prop where
 I:Inv X pins σ H s
 fly:Heap.FlyingW (PySem.W.hideAll s.heap (e::T::frs X.stack)) (X.env::X.outer) e c a0 h
 up:s.heap.UpToSlots h
 hh:∀ b∈[e,T],X.s₀.heap.get? b=none/\H b=none/\∀ p∈X.pn++pins,p.1≠b
theorem Fly.flew {e T:Addr} {c a0:Value} {h:Heap} (Y:Fly X pins σ H s e T c a0 h):Flew X [e,T] s.heap h:=by
 refine ⟨fun b o q n m=>Y.fly.1 b o (PySem.W.hideAll_get _ q fun z=>?_),Y.up⟩
 rcases yak.mp z with z | z
 ·exact m (by rw[z];simp)
 ·rcases yak.mp z with z | z
  ·exact m (by rw[z];simp)
  ·exact n z
theorem Fly.inv {e T:Addr} {c a0:Value} {h:Heap} (Y:Fly X pins σ H s e T c a0 h):Inv X pins σ H { s with heap:=h }:=Y.I.flew Y.flew Y.hh
theorem Fly.miss {e T c:Addr} {a0:Value} {h:Heap} {x:Str} {n:Option Str} {np hpos:Pos} {suite:List Stmt} {rest:List ExceptHandler} {D:Ends} (Y:Fly X pins σ H s e T (.ref c) a0 h) (hgx:Gl X x) (hcx:X.mg x=some (.ref (cA X.K x))) (hdx:(x == ("__debug__" : Str))=false)
  (hsub:PySem.W.exmOne X.K (.ref c) (.ref (cA X.K x))=some false) (k:wpAny (model X.prog X.w) X.A (handleBy (.ref e) X.env rest) (SP X pins D) X.xe { s with heap:=h }) :
  wpAny (model X.prog X.w) X.A (handleBy (.ref e) X.env (.ExceptHandler (some (.Name x np)) n suite hpos::rest)) (SP X pins D) X.xe { s with heap:=h }:=by
 have I5:=Y.inv
 obtain ⟨ob,hob,hobc⟩:=Y.fly.there
 refine wpAny_handleBy_cons (codeAny_handlers_test (zde (I5.held e) hgx hcx ?_ hdx)) (by intro q;cases q)
 exact (PySem.W.exm_one (K:=X.K) I5.kIn (xtype hob hobc) hsub).here k
theorem Fly.hit {e T c:Addr} {a0:Value} {h:Heap} {x n:Str} {j:Nat} {np hpos:Pos} {b₀:Stmt} {suite:List Stmt} {rest:List ExceptHandler} {D:Ends} {th:TS} (Y:Fly X pins σ H s e T (.ref c) a0 h) (hgx:Gl X x) (hcx:X.mg x=some (.ref (cA X.K x))) (hdx:(x == ("__debug__" : Str))=false)
  (hN:X.N.Nodup) (hj:X.N[j]?=some n) (hn:X.env.scope.names.lookup n=some .local) (hsub:PySem.W.exmOne X.K (.ref c) (.ref (cA X.K x))=some true) (hs:PSs (X.held e) (b₀::suite) th) (hth:th (D.gone j) (σ.set j (some (.ref e))) (upd H e (zbT e (.ref c)))) :
  wpAny (model X.prog X.w) X.A (handleBy (.ref e) X.env (.ExceptHandler (some (.Name x np)) (some n) (b₀::suite) hpos::rest)) (SP X pins D) X.xe { s with heap:=h }:=by
 have I5:=Y.inv
 obtain ⟨ob,hob,hobc⟩:=Y.fly.there
 refine wpAny_handleBy_cons (codeAny_handlers_test (zde (I5.held e) hgx hcx ?_ hdx)) (by intro q;cases q)
 refine (PySem.W.exm_one (K:=X.K) I5.kIn (xtype hob hobc) hsub).here ?_
 refine codeAny_handlers_suite_as (lands_againW Y.fly fun h₆ fly6 u6=>?_)
 have Y6:Fly X pins σ H s e T (.ref c) a0 h₆:=⟨Y.I,fly6,Y.up.trans u6,Y.hh⟩
 have I6:=Y6.inv
 obtain ⟨oe6,vs6,he6,hc6,hd6,_⟩:=fly6.first
 obtain ⟨fr,free,pnn⟩:=Y.hh e (by simp)
 have I7:Inv X pins σ (upd H e (zbT e (.ref c))) { s with heap:=h₆ }:=by
  refine I6.track free fr (fun z=>?_) (fun x c' q z=>?_) pnn ⟨⟨oe6,vs6,he6,hc6,hd6⟩,⟨oe6,he6⟩,fun g1 g2 p k=>?_⟩
  ·obtain ⟨m,⟨o,es,ep,ho,hd,_⟩,_⟩:=I6.loc
   rw[<-z] at ho
   have y:=ho.symm.trans he6
   cases y
   rw[hd6] at hd;cases hd
  ·obtain ⟨v,o,ho,hd⟩:=I6.cell x c' q
   rw[z] at ho
   have y:=ho.symm.trans he6
   cases y
   rw[hd6] at hd;cases hd
  ·obtain ⟨o,vs,a,b,d⟩:=p
   exact ⟨o,vs,k o a,b,d⟩
 refine zjX I7 hN hj (.inl hn) (v:=.ref e) rfl (fun s7 I8=>?_) (.inr hn)
 refine wpAny_mono (hs pins s7 _ _ _ (I8.held e) hth) (fun fl s8 q8=>?_) fun _ _ z=>False.elim z
 cases fl with
 | ret u =>
  obtain ⟨v,σ',H8,I9,rv,qv⟩:=q8
  have I9:=I9.unheld Y.I.ok
  obtain ⟨m,hm',_⟩:=id I9.loc
  exact wpAny_nameGoes hn hm' (by rw[Y.I.ok.kind];rfl) fun h₉ m₉ hn₉ hs₉=>⟨v,_,H8,I9.zqC hn₉ hs₉,rv,qv⟩
 | next =>
  obtain ⟨σ',H8,I9,qv⟩:=q8
  have I9:=I9.unheld Y.I.ok
  obtain ⟨m,hm',hl⟩:=id I9.loc
  exact wpAny_nameGoes_keeps hn hm' (by rw[Y.I.ok.kind];rfl) fun h₉ v₉ hn₉ hs₉=>⟨_,H8,I9.zsu hl hN hj hn₉ hs₉,qv⟩
 | brk=>obtain ⟨_,_,_,z⟩:=q8;exact False.elim z
 | cont=>obtain ⟨_,_,_,z⟩:=q8;exact False.elim z
theorem Fly.zuJ {e T c:Addr} {a0:Value} {h:Heap} {x:Str} {np hpos:Pos} {b₀:Stmt} {suite:List Stmt} {rest:List ExceptHandler} {D:Ends} {th:TS} (Y:Fly X pins σ H s e T (.ref c) a0 h) (hgx:Gl X x) (hcx:X.mg x=some (.ref (cA X.K x))) (hdx:(x == ("__debug__" : Str))=false)
  (hsub:PySem.W.exmOne X.K (.ref c) (.ref (cA X.K x))=some true) (hs:PSs (X.held e) (b₀::suite) th) (hth:th { nx:=D.nx,rt:=D.rt } σ H) :
  wpAny (model X.prog X.w) X.A (handleBy (.ref e) X.env (.ExceptHandler (some (.Name x np)) none (b₀::suite) hpos::rest)) (SP X pins D) X.xe { s with heap:=h }:=by
 have I5:=Y.inv
 obtain ⟨ob,hob,hobc⟩:=Y.fly.there
 refine wpAny_handleBy_cons (codeAny_handlers_test (zde (I5.held e) hgx hcx ?_ hdx)) (by intro q;cases q)
 refine (PySem.W.exm_one (K:=X.K) I5.kIn (xtype hob hobc) hsub).here ?_
 refine codeAny_handlers_suite (lands_againW Y.fly fun h₆ fly6 u6=>?_)
 have Y6:Fly X pins σ H s e T (.ref c) a0 h₆:=⟨Y.I,fly6,Y.up.trans u6,Y.hh⟩
 refine wpAny_mono (hs pins _ _ _ _ (Y6.inv.held e) hth) (fun fl s8 q8=>?_) fun _ _ z=>False.elim z
 cases fl with
 | ret u =>
  obtain ⟨v,σ',H8,I9,rv,qv⟩:=q8
  exact ⟨v,_,H8,I9.unheld Y.I.ok,rv,qv⟩
 | next =>
  obtain ⟨σ',H8,I9,qv⟩:=q8
  exact ⟨_,H8,I9.unheld Y.I.ok,qv⟩
 | brk=>obtain ⟨_,_,_,z⟩:=q8;exact False.elim z
 | cont=>obtain ⟨_,_,_,z⟩:=q8;exact False.elim z
theorem Fly.out {e T:Addr} {c a0:Value} {h:Heap} {D:Ends} {E:XK} (Y:Fly X pins σ H s e T c a0 h) (hst:X.stack=X.env::X.outer) (hlt:Lets X E) (hE:E c none H):wpAny (model X.prog X.w) X.A (handleBy (.ref e) X.env []) (SP X pins D) X.xe { s with heap:=h }:=by
 refine wpAny_handleBy_nil ?_
 obtain ⟨d1,d2,d3,oe,vs,T',oT,ts,k1,k2,k3,k4,k5,k6,k7,k8,k9⟩:=Y.fly
 unfold PySem.passOn
 refine wpAny_bind (wpAny_field k1 k3 k4 ?_)
 rw[if_neg (by simp)]
 refine wpAny_bind (zop (s:={ s with heap:=h }) d1 d3 ⟨oe,vs,T',oT,ts,k1,k2,k3,k4,k5,k6,k7,k8,k9⟩ fun g9 p1 p2 p3 p4 p5=>wpAny_throw ?_)
 rw[<-hst] at p2
 exact hlt pins σ H s g9 e T c a0 _ Y.I (fun b hb=>⟨(Y.hh b hb).1,(Y.hh b hb).2.1⟩) p1 p2 p3 (Y.up.trans p5) hE
theorem zqO {σ':St} {H1:Hp} {s1 s2:Shared} {xe:Value->Shared->Prop} {pins':List (Addr × Obj)} {ev:Value} {Ex:XK} {hs:List ExceptHandler} {Q':Flow->Shared->Prop} (σn:St) (hσl:σn.length=X.N.length) (hσn:σn=yam σn.length none)
  (hst:X.stack=X.env::X.outer) (hfr:X.env.frame=some X.env.locals) (hex:X.ex=[]) (J1:Inv (X.tried xe pins) pins' σ' H1 s1) (hq:CXX X.prog X.w X.stack H1 s1 Ex ev s2)
  (k:∀ e T c a0 H2 s2 h5,Ex c none H2->Fly X pins σn H2 s2 e T c a0 h5->wpAny (model X.prog X.w) X.A (handleBy (.ref e) X.env hs) Q' X.xe { s2 with heap:=h5 }) :
  wpAny (model X.prog X.w) X.A (noteFrame ev X.env) (fun _ s3=>wpAny (model X.prog X.w) X.A (setFlight ev none) (fun _ s4=>wpAny (model X.prog X.w) X.A (handleBy ev X.env hs) Q' X.xe s4) X.xe s3) X.xe s2:=by
 have I1:Inv X pins σ' H1 s1:=J1.untried
 obtain ⟨e,C,H2,rfl,hE,os,bare,un,hok,new,free,oe,vs',T,oT,ts,a0,h1,h2,h3,h4,h5,h6,h7,h8,h9⟩:=hq
 have hσv:∀ (i:Nat) (v:V),σn[i]?≠some (some v):=fun i v z=>by
  rw[hσn,yco] at z
  split at z <;> cases z
 have I2:Inv X pins σn H2 s2:=Inv.blank (I1.call' os un hok bare (fun b z=>absurd z (by simp))) hσl hσv
 have fresh:∀ b,s1.heap.get? b=none->X.s₀.heap.get? b=none:=fun b z=>by
  cases q:X.s₀.heap.get? b with
  | none=>rfl
  | some o =>
   obtain ⟨o',e1⟩:=I1.base.there b o q (by rw[hex];simp)
   rw[z] at e1;cases e1
 have pnn:∀ b,s1.heap.get? b=none->∀ p∈X.pn++pins,p.1≠b:=fun b z p hp y=>by
  have:=(I1.pin p hp).1
  rw[y,z] at this;cases this
 have me:e∈e::T::frs X.stack:=yao
 have mT:T∈e::T::frs X.stack:=yan _ yao
 have hh:∀ b∈[e,T],X.s₀.heap.get? b=none/\H2 b=none/\∀ p∈X.pn++pins,p.1≠b:=fun b z=>by
  rcases yak.mp z with z | z
  ·subst z;exact ⟨fresh _ new,free,pnn _ new⟩
  ·have z':b=T:=by simpa using z
   subst z';exact ⟨fresh _ h5.1,h5.2,pnn _ h5.1⟩
 refine wpAny_looks_onW (base:=PySem.W.hideAll s2.heap (e::T::frs X.stack)) (outer:=X.outer) (L:=X.env.locals) (cls:=C) (a0:=a0) (by rw[I1.ok.frames,hst]) hfr
  ⟨fun b o q=>PySem.W.of_hideAll _ q,PySem.W.hideAll_none _ me,by rw[<-hst];exact PySem.W.funFrames_hide I2.stack (fun env he a ha=>yan _ (yan _ (ych.mpr ⟨env,he,ha⟩))),
   oe,vs',T,oT,ts,h1,h2,h3,h4,PySem.W.hideAll_none _ mT,h6,h7,h8,h9⟩ fun h₄ held u4=>?_
 exact wpAny_landsW held fun h₅ fly u5=>k e T C a0 H2 s2 h₅ hE ⟨I2,fly,u4.trans u5,hh⟩
end
def zr7 (K:W.Frag) (C1 C2:Addr) (j:Nat) (σn:St) (tb:XK->TS) (t1 t2:TS):TS:=fun D σ H=>tb (fun C _ H2 =>
 ∃ c,C=.ref c/\((PySem.W.exmOne K (.ref c) (.ref C1)=some true/\∀ e,H2 e=none->t1 (D.gone j) (σn.set j (some (.ref e))) (upd H2 e (zbT e (.ref c)))) \/
  (PySem.W.exmOne K (.ref c) (.ref C1)=some false/\PySem.W.exmOne K (.ref c) (.ref C2)=some true/\∀ e,H2 e=none->t2 (D.gone j) (σn.set j (some (.ref e))) (upd H2 e (zbT e (.ref c)))))) D σ H
theorem zoA {X:Cx} {n x y:Str} {j:Nat} {tb:XK->TS} {np nq hp hq pos:Pos} {b1 b2:Stmt} {u1 u2 body:List Stmt} {t1 t2:TS} (σn:St)
  (hN:X.N.Nodup) (hj:X.N[j]?=some n) (hn:X.env.scope.names.lookup n=some .local) (hcx:X.mg x=some (.ref (cA X.K x))) (hcy:X.mg y=some (.ref (cA X.K y)))
  (hb:∀ (E:XK) (xe:Value->Shared->Prop) (pn:List (Addr × Obj)),Passes (CXX X.prog X.w) (X.tried xe pn) E->PSs (X.tried xe pn) body (tb E)) (h1:∀ e,PSs (X.held e) (b1::u1) t1) (h2:∀ e,PSs (X.held e) (b2::u2) t2)
  (hσl:σn.length=X.N.length:=by rfl) (hσn:σn=yam σn.length none:=by rfl) (hgx:Gl X x:=by rfl) (hgy:Gl X y:=by rfl) (hst:X.stack=X.env::X.outer:=by rfl) (hfr:X.env.frame=some X.env.locals:=by rfl) (hex:X.ex=[]:=by rfl)
  (hdx:(x == ("__debug__" : Str))=false:=by decide) (hdy:(y == ("__debug__" : Str))=false:=by decide) :
  PS X (.Try body [.ExceptHandler (some (.Name x np)) (some n) (b1::u1) hp,.ExceptHandler (some (.Name y nq)) (some n) (b2::u2) hq] [] [] pos) (zr7 X.K (cA X.K x) (cA X.K y) j σn tb t1 t2):=by
 intro pins s σ H D I h
 refine wpAny_Try_except ?_
 refine wpAny_mono (hb _ _ pins (fun pins' σ' H1 s1 ev s2 J1 hq=>?_) [] s σ H D (I.tried _) h) (fun fl s' q=>?_) fun ev s' z=>z
 rotate_left
 ·have q':=SP.untried q
  cases fl with
  | next=>exact wpAny_execs_nil q'
  | brk=>exact q'
  | cont=>exact q'
  | ret u=>exact q'
 refine zqO σn hσl hσn hst hfr hex J1 hq fun e T C a0 H2 s2 h5 hE Y=>?_
 obtain ⟨c,rfl,hE⟩:=hE
 have free:=(Y.hh e (by simp)).2.1
 rcases hE with ⟨q1,hE⟩ | ⟨q1,q2,hE⟩
 ·exact Y.hit hgx hcx hdx hN hj hn q1 (h1 e) (hE e free)
 ·exact Y.miss hgx hcx hdx q1 (Y.hit hgy hcy hdy hN hj hn q2 (h2 e) (hE e free))
def zt8 (K:W.Frag) (Cx:Addr) (σn:St) (E:XK) (tb:XK->TS) (th:TS):TS:=fun D σ H=>tb (fun C _ H2 =>
 ∃ c,C=.ref c/\((PySem.W.exmOne K (.ref c) (.ref Cx)=some true/\th { nx:=D.nx,rt:=D.rt } σn H2)\/(PySem.W.exmOne K (.ref c) (.ref Cx)=some false/\E C none H2))) D σ H
theorem zsz {X:Cx} {x:Str} {tb:XK->TS} {np hpos pos:Pos} {b₀:Stmt} {suite body:List Stmt} {th:TS} {E:XK} (σn:St) (hlt:Lets X E) (hcx:X.mg x=some (.ref (cA X.K x)))
  (hb:∀ (E:XK) (xe:Value->Shared->Prop) (pn:List (Addr × Obj)),Passes (CXX X.prog X.w) (X.tried xe pn) E->PSs (X.tried xe pn) body (tb E)) (hs:∀ e,PSs (X.held e) (b₀::suite) th)
  (hσl:σn.length=X.N.length:=by rfl) (hσn:σn=yam σn.length none:=by rfl) (hgx:Gl X x:=by rfl) (hst:X.stack=X.env::X.outer:=by rfl) (hfr:X.env.frame=some X.env.locals:=by rfl) (hex:X.ex=[]:=by rfl) (hdx:(x == ("__debug__" : Str))=false:=by decide) :
  PS X (.Try body [.ExceptHandler (some (.Name x np)) none (b₀::suite) hpos] [] [] pos) (zt8 X.K (cA X.K x) σn E tb th):=by
 intro pins s σ H D I h
 refine wpAny_Try_except ?_
 refine wpAny_mono (hb _ _ pins (fun pins' σ' H1 s1 ev s2 J1 hq=>?_) [] s σ H D (I.tried _) h) (fun fl s' q=>?_) fun ev s' z=>z
 rotate_left
 ·have q':=SP.untried q
  cases fl with
  | next=>exact wpAny_execs_nil q'
  | brk=>exact q'
  | cont=>exact q'
  | ret u=>exact q'
 refine zqO σn hσl hσn hst hfr hex J1 hq fun e T C a0 H2 s2 h5 hE Y=>?_
 obtain ⟨c,rfl,hE⟩:=hE
 rcases hE with ⟨q1,hE⟩ | ⟨q1,hE⟩
 ·exact Y.zuJ hgx hcx hdx q1 (hs e) hE
 ·exact Y.miss hgx hcx hdx q1 (Y.out hst hlt hE)
theorem zoy {K:W.Frag} {x y:Str} {C D:Addr} (a:PySem.W.nsIn K mainGlobals x=some (some (.ref C))) (b:PySem.W.nsIn K mainGlobals y=some (some (.ref D))) (q1:PySem.W.subIn K (.ref D) (.type "BaseException")=some true)
  (q2:PySem.W.isClsIn K D=true) (q3:PySem.W.typeIn K (.ref D)=some (.type "type")) (q4:PySem.W.subIn K (.ref C) (.ref D)=some false):PySem.W.exmOne K (.ref (cA K x)) (.ref (cA K y))=some false:=by
 rw[zbj a,zbj b]
 unfold PySem.W.exmOne PySem.W.kitCls
 unfold PySem.W.isClsIn at q2
 rw[q1,if_pos (by decide)]
 dsimp only
 rw[q2,q3,if_pos (by decide)]
 exact q4
end L2
namespace L2
open PySem
theorem zoS {K:W.Frag} {C1 C2:Addr} {j:Nat} {σn:St} {tb:XK->TS} {t1 t2 u:TS} {D:Ends} {σ:St} {H:Hp}
  (h:∀ Ex:XK,(∀ C dO H2,(∃ c,C=.ref c/\((PySem.W.exmOne K (.ref c) (.ref C1)=some true/\∀ e,H2 e=none->t1 { nx:=fun σ H=>u D (σ.set j none) H,rt:=D.rt } (σn.set j (some (.ref e))) (upd H2 e (zbT e (.ref c)))) \/
   (PySem.W.exmOne K (.ref c) (.ref C1)=some false/\PySem.W.exmOne K (.ref c) (.ref C2)=some true/\∀ e,H2 e=none->t2 { nx:=fun σ H=>u D (σ.set j none) H,rt:=D.rt } (σn.set j (some (.ref e))) (upd H2 e (zbT e (.ref c))))))->Ex C dO H2)->zM (tb Ex) u D σ H):zM (zr7 K C1 C2 j σn tb t1 t2) u D σ H:=h _ fun _ _ _ z=>z
theorem zoN {v:V} {i:Nat} {u:TS} {D:Ends} {σ:St} {H:Hp} (h:u D (σ.set i (some v)) H):zM (zmw (tC v) (zfk i)) u D σ H:=h
end L2
namespace L2
open PySem PySem.Spec PyProof.Rows
inductive LL {α:Type} (R:V->α->Prop):List V->List α->Prop
 | nil:LL R [] []
 | cons {v:V} {e:α} {vs:List V} {es:List α}:R v e->LL R vs es->LL R (v::vs) (e::es)
section
variable {α:Type} {R S:V->α->Prop} {vs ws:List V} {es fs:List α}
theorem LL.length (h:LL R vs es):vs.length=es.length:=by
 induction h with
 | nil=>rfl
 | cons _ _ ih=>simp[ih]
theorem LL.imp (f:∀ v e,R v e->S v e) (h:LL R vs es):LL S vs es:=by
 induction h with
 | nil=>exact .nil
 | cons h _ ih=>exact .cons (f _ _ h) ih
theorem LL.append (h:LL R vs es) (k:LL R ws fs):LL R (vs++ws) (es++fs):=by
 induction h with
 | nil=>exact k
 | cons h _ ih=>exact .cons h ih
theorem LL.push {v:V} {e:α} (h:LL R vs es) (k:R v e):LL R (vs++[v]) (es++[e]):=h.append (.cons k .nil)
theorem LL.get (h:LL R vs es):∀ {i:Nat} {v:V},vs[i]?=some v->∃ e,es[i]?=some e/\R v e:=by
 induction h with
 | nil=>intro i v e;simp at e
 | cons h _ ih =>
  intro i v e
  cases i with
  | zero=>cases e;exact ⟨_,rfl,h⟩
  | succ i=>exact ih e
theorem LL.eqm {g:α->V} (h:LL (fun v e=>v=g e) vs es):vs=es.map g:=by
 induction h with
 | nil=>rfl
 | cons h _ ih=>rw[h,ih];rfl
end
theorem zdX {α:Type} {J:It} {ix:List Nat} {tt:TT} {te:TE} {σ:St} {l:Addr} {xs:List V} {H:Hp} {R:Hp->Prop} (Y:ziw J H xs) (hl:H l=none) (hz:xs.length<=sizeLine) (es:List α) (len:es.length=xs.length)
  (f:α->Bool) (P:Hp->V->α->Prop) (mono:∀ v e H1 H2,Same H1 H2->P H1 v e->P H2 v e) (put:∀ v e H1 ys zs,H1 l=some (.lst ys)->P H1 v e->P (upd H1 l (.lst zs)) v e)
  (ht:∀ (i:Nat) x e H' Q',xs[i]?=some x->es[i]?=some e->Same H H'->Q' (f e) H'->tt (some x::capts σ ix) H' Q')
  (he:∀ (i:Nat) x e H' Q',xs[i]?=some x->es[i]?=some e->f e=true->Same H H'->(∀ v H2,Same H' H2->P H2 v e->Q' v H2)->te (some x::capts σ ix) H' Q')
  (fin:∀ ys H',Same H H'->H' l=some (.lst ys)->LL (P H') ys (es.filter f)->R H') :
  ∃ W:Nat->Nat->List V->Hp->Prop,(∃ m,W 0 m [] (upd H l (.lst [])))/\zjb ix tt te σ J l R W:=by
 refine ⟨fun i m ys H'=>m=xs.length-i/\i<=xs.length/\LL (P H') ys ((es.take i).filter f)/\Same H H'/\H' l=some (.lst ys),⟨xs.length,by simp,ycz _,by simp;exact .nil,ze hl _,zh⟩,?_⟩
 rintro i m ys H' ⟨rfl,hi,hy,sH,hL⟩
 refine ⟨hL,?_⟩
 by_cases hlt:i<xs.length
 ·have yl:ys.length<=i:=by
   rw[hy.length]
   exact ydb (ybb _ _) (by rw[yat];ac_rfl)
  have eP:es[i]?=some (es[i]'(by ac_rfl)):=yaa (by ac_rfl)
  generalize es[i]'(by ac_rfl)=e at eP
  have tk:es.take (i+1)=es.take i++[e]:=by rw[yaz,eP];rfl
  refine .inr ⟨Y.go i H' sH hlt,by ac_rfl,fun x H2 y=>?_⟩
  obtain ⟨rfl,e2⟩:=Y.yld i H' x H2 sH y
  refine ht i x e _ _ e2 eP sH ?_
  cases b:f e with
  | true =>
   rw[if_pos rfl]
   refine he i x e _ _ e2 eP b sH fun v H3 s3 pv=>?_
   have hL3:=s3 _ _ hL
   refine ⟨hL3,xs.length-(i+1),by ac_rfl,rfl,hlt,?_,zJ (sH.trans s3) hl,zh⟩
   rw[tk,ybq,ybf b]
   exact ((hy.imp fun v e q=>put v e H3 ys _ hL3 (mono v e _ _ s3 q)).push (put v e H3 ys _ hL3 pv))
  | false =>
   rw[if_neg Bool.false_ne_true]
   refine ⟨xs.length-(i+1),by ac_rfl,rfl,hlt,?_,sH,hL⟩
   rw[tk,ybq,ybg (by rw[b];decide)]
   simpa using hy
 ·rw[yay (by ac_rfl)] at hy
  exact .inl ⟨Y.stop i H' sH (by ac_rfl),fin ys H' sH hL hy⟩
theorem isI {P:Program} {w:World} {k:Int} {t:Tok}:(intKind P w).is k (.int k t)=true:=by first | (simp[intKind,Value.isInt];done) | exact beq_self_eq_true _
noncomputable def lkI (l:List (Int × Int)) (k:Int):Option Int:=(l.find? fun p=>p.1=k).map (·.2)
theorem KR.look {r:List (Int × Value)} {l:List (Int × Int)} {k:Int} {v:V} {u:Value} (rv:RelV v u) (h:KR r l):RelV (((lkI l k).map V.int).getD v) ((valueAt r k).getD u):=by
 induction h with
 | nil=>exact rv
 | @cons k' y t r l _ ih =>
  unfold lkI PySem.valueAt at *
  by_cases e:k'=k
  ·rw[ybu (by simpa using e),ybu (by simpa using e)]
   exact ⟨t,rfl⟩
  ·rw[ybv (by simpa using e),ybv (by simpa using e)]
   exact ih
section
variable {X:Cx} {pins:List (Addr × Obj)} {σ:St} {H:Hp} {s:Shared} {o i e f value:Expr} {pos pos' apos cpos:Pos} {td ty tx tv:TE}
theorem zm8 {P:Program} {w:World} {H:Hp} {h:Heap} {d:Addr} {kvs:List (Int × Value)} {l:List (Int × Int)} (lo:(d == sysModules)=false) (hd:h.DictOf (intKind P w) d kvs) (hk:KR kvs l):zX P w H h d (zbR P w d l) :=
 ⟨⟨lo,kvs,hd,hk⟩,(let ⟨o,_,_,e,_⟩:=hd;⟨o,e⟩),fun h1 h2 ⟨lo',kv,x,y⟩ e=>⟨lo',kv,zat x e,y⟩⟩
def ztC (P:Program) (w:World):TE:=fun _ H Q=>∀ p,H p=none->Q (.ref p) (upd H p (zbR P w p []))
theorem zrD:PE X (.Dict [] [] pos) (ztC X.prog X.w):=fun pins s σ H Q I h=>by
 have big:sysModules<s.heap.objs.size:=ydf (by decide) (show mainGlobals<s.heap.objs.size from (I.mod.glob.keeps I.bk).lt)
 have new:zX X.prog X.w (upd H s.heap.objs.size (zbR X.prog X.w s.heap.objs.size [])) (s.heap.push { cls:=.type "dict", data:=.dict #[] }) s.heap.objs.size (zbR X.prog X.w s.heap.objs.size []) :=
  zm8 (beq_eq_false_iff_ne.mpr (Ne.symm (ycw big))) (Heap.DictOf.new s.heap) .nil
 exact wpAny_Dict_empty ⟨.ref s.heap.objs.size,_,I.laid (t':=s.toks) (fun _ _ q=>ydk _ q) (ycv _) new,rfl,h _ (I.hok.fresh (ycv _))⟩
def zsa (P:Program) (w:World) (td ty tx:TE):TE:=fun σ H Q=>td σ H fun x H1=>∃ (d:Addr) (l:List (Int × Int)),x=.ref d/\H1 d=some (zbR P w d l)/\ty σ H1 fun y H2=>tx σ H2 fun z H3=>∃ (k:Int),y=.int k/\H3 d=some (zbR P w d l)/\Q (((lkI l k).map V.int).getD z) H3
theorem zoI (ho:PE X o td) (he:PE X e ty) (hf:PE X f tx) (hb:attributeBase o "get" X.env (eval o X.env)=eval o X.env:=by rfl)
  (few:((backTo cpos (starEach [e,f] X.env)).all (fun x=>!x.1) && (backToKw cpos (keywordEach [] X.env)).all (fun x=>x.1.isSome)
   && decide (([e,f]:List Expr).length+([]:List Keyword).length+(if ([]:List Keyword).isEmpty then 0 else 1)<30))=true:=by rfl)
  (line:(apos.endLine == cpos.line)=true:=by rfl) (trees:backTo cpos (starEach [e,f] X.env)=[(false,eval e X.env),(false,eval f X.env)]:=by rfl):PE X (.Call (.Attribute o "get" apos) [e,f] [] cpos) (zsa X.prog X.w td ty tx):=by
 intro pins s σ H Q I h
 refine wpAny_Call_method hb few line PySem.F.plainAttrs_dict PySem.F.slot_dict_get PySem.F.type_dict_get (thn (ho pins s σ H _ I h) fun u s1 ⟨x,H1,I1,rx,d,l,ex,hd,q1⟩=>?_)
 subst ex
 obtain rfl:u=Value.ref d:=rx
 obtain ⟨lo,kvs,hD,hk⟩:=(I1.hok d _ hd).1
 refine ⟨hD.typeIs,hD.mapOf.noDict,?_⟩
 rw[trees]
 refine Calls.callWith_builtin rfl (Calls.evalArgs_plain (Calls.spliced_cons (thn (he pins s1 σ H1 _ I1 q1) fun iv s2 ⟨y,H2,I2,ry,q2⟩ =>
  Calls.spliced_cons (thn (hf pins s2 σ H2 _ I2 q2) fun fv s3 ⟨z,H3,I3,rz,k,ek,hd3,q3⟩=>Calls.spliced_nil ?_))))
 subst ek
 obtain ⟨t,rfl⟩:=ry
 obtain ⟨lo3,kvs3,hD3,hk3⟩:=(I3.hok d _ hd3).1
 exact call_meetsIn PySem.F.slot_dict_get hD3.typeIs PySem.F.entry_dict_get (PySem.F.args_dict_get_3 _ _ _) (meets_dict_get_default (intKind X.prog X.w) d isI lo3 fv) ⟨_,hD3.mapOf,_,H3,I3.tok _,hk3.look rz,q3⟩
def zuh (P:Program) (w:World) (td ty tv:TE):TS:=fun D σ H=>tv σ H fun v H1=>td σ H1 fun x H2=>ty σ H2 fun y H3=>∃ (d:Addr) (l:List (Int × Int)) (k n:Int),x=.ref d/\y=.int k/\v=.int n/\H3 d=some (zbR P w d l)/\l.length<=1000/\D.nx σ (upd H3 d (zbR P w d (zac l k n)))
theorem zsT (ho:PE X o td) (hi:PE X i ty) (hv:PE X value tv) (hs:swapsWith value (some (.Subscript o i pos')) pos.line X.env=pure false:=by rfl):PS X (.Assign [.Subscript o i pos'] value pos) (zuh X.prog X.w td ty tv):=by
 intro pins s σ H D I h
 refine wpAny_Assign_Subscript (thn (hv pins s σ H _ I h) fun r s1 ⟨v,H1,I1,rv,q1⟩=>thn (ho pins s1 σ H1 _ I1 q1) fun u s2 ⟨x,H2,I2,rx,q2⟩=>thn (hi pins s2 σ H2 _ I2 q2) fun iv s3 ⟨y,H3,I3,ry,d,l,k,n,ex,ey,ev,hd,hl,q3⟩=>?_) hs
 subst ex ey ev
 obtain rfl:u=Value.ref d:=rx
 obtain ⟨t,rfl⟩:=ry
 obtain ⟨t',rfl⟩:=rv
 obtain ⟨lo,kvs,hD,hk⟩:=(I3.hok d _ hd).1
 have sz:=sizeLine_eq
 refine wpAny_setItem_pairs (knd:=intKind X.prog X.w) (k:=k) (hsz:=by rw[hk.length];ac_rfl) isI hD fun h' hD' hs'=>?_
 have he:∃ q,h'.get? d=some q:=let ⟨q,_,_,hq,_⟩:=hD';⟨q,hq⟩
 exact ⟨σ,_,I3.write (x:=d) (e:=d) (by rw[hd];exact True.intro) (.inl rfl) (fun b q hb z=>(hs'.2 b hb).trans z) he (zm8 lo hD' hk.stored),q3⟩
end
section
variable {X:Cx} {m f:Str} {pos apos:Pos} {o e:Expr} {ta:TE} {j k:Nat} {ps:List Str}
theorem zco (K:W.Frag) (he:PE X e ta) (hb:attributeBase e f X.env (eval e X.env)=eval e X.env) (hK:X.K=K:=by rfl):PE X (.Attribute e f pos) (ztb K ta f):=by
 subst hK
 exact zpW he hb
theorem zfh (K:W.Frag) {pl:Sem Bool} {sp:Ek->Sp} (D:∀ k:Ek,zu X.prog X.w X.K X.mg X.base j (cA X.K k.cls) m ps (sp k)) (hc:∀ k:Ek,Cls X.K (cA X.K k.cls)) (hr:Room k X.A) (he:PE X o ta) (hj:j<=k:=by decide)
  (ht:eval (.Call (.Attribute o m apos) [] [] pos) X.env=(do
   let ov <-eval o X.env
   standAt apos.atName
   let (f,first) <-holding [ov] (getMethod ov m pl)
   callWith pos f first (backTo pos (starEach [] X.env)) (backToKw pos (keywordEach [] X.env))):=by rfl) (hK:X.K=K:=by rfl) :
  PE X (.Call (.Attribute o m apos) [] [] pos) (zp6 K m sp ta zld):=by
 subst hK
 exact zqK (pl:=pl) D hc hr he hj ht
end
noncomputable def zd4 (l:List (Int × V)) (k:Int) (y:V):List (Int × V):=if l.any (fun p=>p.1=k) then l.map (fun p=>if p.1=k then (p.1,y) else p) else l++[(k,y)]
noncomputable def zo3 (l:List (Int × V)):List (Int × V):=l.foldl (fun acc s=>zd4 acc s.1 s.2) []
noncomputable def lkV (l:List (Int × V)) (k:Int):Option V:=(l.find? fun p=>p.1=k).map (·.2)
inductive KU:List (Int × Value)->List (Int × V)->Prop
 | nil:KU [] []
 | cons {k:Int} {v:V} {u:Value} {r:List (Int × Value)} {l:List (Int × V)}:RelV v u->KU r l->KU ((k,u)::r) ((k,v)::l)
theorem KU.length {r:List (Int × Value)} {l:List (Int × V)} (h:KU r l):r.length=l.length:=by
 induction h with
 | nil=>rfl
 | cons _ _ ih=>simp[ih]
theorem KU.any {r:List (Int × Value)} {l:List (Int × V)} {k:Int} (h:KU r l):r.any (fun kv=>kv.1=k)=l.any (fun p=>p.1=k):=by
 induction h with
 | nil=>rfl
 | cons _ _ ih=>rw[ycu,ycu,ih]
theorem KU.snoc {r:List (Int × Value)} {l:List (Int × V)} {k:Int} {v:V} {u:Value} (h:KU r l) (rv:RelV v u):KU (r++[(k,u)]) (l++[(k,v)]):=by
 induction h with
 | nil=>exact .cons rv .nil
 | cons r' _ ih=>exact .cons r' ih
theorem KU.map {r:List (Int × Value)} {l:List (Int × V)} {k:Int} {v:V} {u:Value} (h:KU r l) (rv:RelV v u):KU (r.map fun kv=>if kv.1=k then (kv.1,u) else kv) (l.map fun p=>if p.1=k then (p.1,v) else p):=by
 induction h with
 | nil=>exact .nil
 | @cons k' v' u' r l r' _ ih =>
  rw[ybs,ybs]
  by_cases e:k'=k
  ·rw[if_pos e,if_pos e];exact .cons rv ih
  ·rw[if_neg e,if_neg e];exact .cons r' ih
theorem KU.stored {r:List (Int × Value)} {l:List (Int × V)} {k:Int} {v:V} {u:Value} (h:KU r l) (rv:RelV v u):KU (stored r k u) (zd4 l k v):=by
 unfold PySem.stored zd4
 rw[h.any]
 split
 ·exact h.map rv
 ·exact h.snoc rv
theorem KU.zuf {r:List (Int × Value)} {l:List (Int × V)} {k:Int} {v:V} (h:KU r l) (e:lkV l k=some v):∃ u,valueAt r k=some u/\RelV v u:=by
 induction h with
 | nil=>cases e
 | @cons k' v' u' r l r' _ ih =>
  unfold lkV PySem.valueAt at *
  by_cases c:k'=k
  ·rw[ybu (by simpa using c)] at e ⊢
   cases e
   exact ⟨_,rfl,r'⟩
  ·rw[ybv (by simpa using c)] at e ⊢
   exact ih e
noncomputable def zjd (P:Program) (w:World) (d:Addr) (l:List (Int × V)):HO:=.ext fun h=>(d == sysModules)=false/\∃ kvs,h.DictOf (intKind P w) d kvs/\KU kvs l
section
variable {X:Cx} {pins:List (Addr × Obj)} {σ:St} {H:Hp} {s:Shared} {o i e f value:Expr} {pos pos' apos cpos:Pos} {td ty tx tv:TE}
theorem zqZ {P:Program} {w:World} {H:Hp} {h:Heap} {d:Addr} {kvs:List (Int × Value)} {l:List (Int × V)} (lo:(d == sysModules)=false) (hd:h.DictOf (intKind P w) d kvs) (hk:KU kvs l):zX P w H h d (zjd P w d l) :=
 ⟨⟨lo,kvs,hd,hk⟩,(let ⟨o,_,_,e,_⟩:=hd;⟨o,e⟩),fun h1 h2 ⟨lo',kv,x,y⟩ e=>⟨lo',kv,zat x e,y⟩⟩
def ztd (P:Program) (w:World):R2:=fun x y H Q=>∃ d l k v,x=.ref d/\y=.int k/\H d=some (zjd P w d l)/\lkV l k=some v/\Q v H
theorem zrd {X:Cx}:IxR X (ztd X.prog X.w):=by
 intro value slice pins s σ H x y v u Q I rx ry h hs
 obtain ⟨d,l,k,z,rfl,rfl,hd,hl,q⟩:=h
 obtain rfl:v=Value.ref d:=rx
 obtain ⟨t,rfl⟩:=ry
 obtain ⟨lo,kvs,hD,hk⟩:=(I.hok d _ hd).1
 obtain ⟨u',e,ru⟩:=hk.zuf hl
 exact subscriptTail_builtinR (x:=u') hD.typeIs slot_dict_getitem.lookup
  (wpAny_getItem_of (Q:=fun r s'=>r=u'/\EP X pins σ Q r s') (knd:=intKind X.prog X.w) (k:=k) isI hD.mapOf e ⟨rfl,z,H,I.tok _,ru,q⟩) hs
theorem zpX {X:Cx} (P:Program) (w:World) (hP:X.prog=P:=by rfl) (hw:X.w=w:=by rfl):IxR X (ztd P w):=by subst hP hw;exact zrd
end
def zi8 (h:Heap) (v:Value) (x:Int × Value):Prop:=∃ a o n t,v=.ref a/\h.get? a=some o/\o.cls=.type "tuple" /\ o.data=.seq #[.int x.1 t,x.2] n
theorem zi8.keep {h h':Heap} {v:Value} {x:Int × Value} (p:zi8 h v x) (k:∀ a o,v=.ref a->h.get? a=some o->h'.get? a=some o):zi8 h' v x:=by
 obtain ⟨a,o,n,t,rfl,e,r⟩:=p
 exact ⟨a,o,n,t,rfl,k a o rfl e,r⟩
noncomputable def zgf (l:List (Int × Value)):List (Int × Value):=l.foldl (fun acc s=>stored acc s.1 s.2) []
theorem zlN (l:List (Int × Value)) (k:Int) (y:Value):(stored l k y).length<=l.length+1:=by
 unfold PySem.stored
 split
 ·rw[yab];ac_rfl
 ·simp
theorem zm6 (l acc:List (Int × Value)):(l.foldl (fun acc s=>stored acc s.1 s.2) acc).length<=acc.length+l.length:=by
 induction l generalizing acc with
 | nil=>simp
 | cons s l ih =>
  rw[ybz]
  have:=ih (stored acc s.1 s.2)
  have:=zlN acc s.1 s.2
  rw[ybk]
  ac_rfl
section
variable {prog:Program} {w:World} {A:Around} {s:Shared} {R:Result->Shared->Prop}
theorem zqt {d it p:Addr} {its:List Value} {l:List (Int × Value)} {h₁:Heap} (hh:A.handled=none) (ndi:d≠it) (ndp:d≠p) (nip:it≠p) (len:its.length=l.length) (h64:its.length<1000)
  (hR:∀ h' tk,(∀ b o,b≠d->b≠it->h₁.get? b=some o->h'.get? b=some o)->h'.DictOf (intKind prog w) d (zgf l)->R (.ok (.ret .none)) { s with heap:=h',toks:=tk }) :
  ∀ (k i:Nat) (h:Heap) (tk:Nat),its.length-i=k->i<=its.length->h.IsListIter it p i->h.IsList p its.toArray->(∀ j,j<its.length->zi8 h (its.getD j .none) (l.getD j (0,.none))) ->
   h.DictOf (intKind prog w) d (zgf (l.take i))->(∀ b o,b≠d->b≠it->h₁.get? b=some o->h.get? b=some o) ->
   codeAny (model prog w) A (.builtin "dict.update.loop" ⟨[.ref d,.ref it,rawInt i,.none],[]⟩) R { s with heap:=h,toks:=tk }:=by
 intro k
 induction k with
 | zero =>
  intro i h tk hk hi hit hl hp hd hkeep
  have hin:i=its.length:=by ac_rfl
  refine codeAny_builtin zcA ?_
  rw[Around.under_plainId zaA _]
  show wpAny _ A.in1 (pyNext (.ref it) >>= _) _ _ _
  refine wpAny_bind (wpAny_pyNext_list_end (s:={ s with heap:=h,toks:=tk }) (A:=A.in1) hh hit hl (by simp;ac_rfl) fun h' he=>?_)
  show wpAny _ _ (Builtin.Dict.addKeywords d [] >>= _) _ _ _
  refine wpAny_bind (wpAny_pure (wpAny_pure ?_))
  rw[hin,len,ycf] at hd
  exact hR h' tk (fun b o b1 b2 e=>he b o b2 (hkeep b o b1 b2 e)) (zat hd fun o e=>he d o ndi e)
 | succ k ih =>
  intro i h tk hk hi hit hl hp hd hkeep
  have hlt:i<its.length:=by ac_rfl
  obtain ⟨a,oa,n,t,ea,eo,oc,odt⟩:=hp i hlt
  have hx:its[i]?=some (.ref a):=by
   rw[yac,yaa hlt] at ea
   rw[yaa hlt]
   exact congrArg some ea
  refine codeAny_builtin zcA ?_
  rw[Around.under_plainId zaA _]
  show wpAny _ A.in1 (pyNext (.ref it) >>= _) _ _ _
  refine wpAny_bind (wpAny_pyNext_list_item (s:={ s with heap:=h,toks:=tk }) (A:=A.in1) hit hl (x:=.ref a) (by simpa using hx) fun h' hit' sb=>?_)
  have ait:a≠it:=fun z=>by
   obtain ⟨o,ho,hc,_⟩:=hit
   rw[z,ho] at eo
   cases eo
   rw[hc] at oc
   exact absurd oc (by decide)
  have eo':h'.get? a=some oa:=(sb.2 a ait).trans eo
  have hT:({ s with heap:=h',toks:=tk }:Shared).TypeIs (.ref a) "tuple" := ⟨oa,eo',oc⟩
  have hd':h'.DictOf (intKind prog w) d (zgf (l.take i)):=zat hd fun o e=>(sb.2 d ndi).trans e
  show wpAny _ _ (holding [Value.ref a] _ >>= _) _ _ _
  refine wpAny_bind (wpAny_holding ?_)
  refine wpAny_bind (wpAny_tryCatch ?_)
  unfold Builtin.Dict.pairItems
  refine wpAny_bind (wpAny_typeOf hT ?_)
  rw[if_pos (by decide)]
  refine wpAny_bind (wpAny_seqItems eo' odt ?_)
  refine wpAny_pure ?_
  show wpAny _ _ (holding [Value.int (l.getD i (0,.none)).1 t,(l.getD i (0,.none)).2] (dictSet d (Value.int (l.getD i (0,.none)).1 t) (l.getD i (0,.none)).2)) _ _ _
  refine wpAny_holding ?_
  have fl:=zm6 (l.take i) []
  rw[yat] at fl
  refine wpAny_dictSet_pairs (knd:=intKind prog w) (k:=(l.getD i (0,.none)).1) (by first | exact Value.isInt_int _ _ | (simp[intKind,Value.isInt];done) | exact beq_self_eq_true _) hd' (fun h2 hd2 sb2=>?_) (by rw[sizeLine_eq];unfold zgf;simp at fl;ac_rfl)
  refine wpAny_pure ⟨plainId_quiet zaA _,?_⟩
  have k2:∀ b o,b≠d->b≠it->h.get? b=some o->h2.get? b=some o:=fun b o b1 b2 e=>(sb2.2 b b1).trans ((sb.2 b b2).trans e)
  refine ih (i+1) h2 _ (by ac_rfl) (by ac_rfl) (hit'.at fun o e=>(sb2.2 it ndi.symm).trans e) ?_ (fun j hj=>(hp j hj).keep fun b o eb e=>k2 b o ?_ ?_ e) ?_ fun b o b1 b2 e=>k2 b o b1 b2 (hkeep b o b1 b2 e)
  ·obtain ⟨o,e,r⟩:=hl
   exact ⟨o,k2 p o ndp.symm nip.symm e,r⟩
  ·intro z
   obtain ⟨b',o',n',t',e1,e2,e3,_⟩:=hp j hj
   rw[eb] at e1
   cases e1
   obtain ⟨od,es,ep,ho,hc,_⟩:=id hd
   rw[z,ho] at e2
   cases e2
   rw[hc.1] at e3
   exact absurd e3 (by decide)
  ·intro z
   obtain ⟨b',o',n',t',e1,e2,e3,_⟩:=hp j hj
   rw[eb] at e1
   cases e1
   obtain ⟨oi,ho,hc,_⟩:=id hit
   rw[z,ho] at e2
   cases e2
   rw[hc] at e3
   exact absurd e3 (by decide)
  ·have tk:l.take (i+1)=l.take i++[l.getD i (0,.none)]:=by
    rw[yaz,yaa (by ac_rfl),yac,yaa (by ac_rfl)]
    rfl
   have:zgf (l.take (i+1))=stored (zgf (l.take i)) (l.getD i (0,.none)).1 (l.getD i (0,.none)).2:=by
    unfold zgf
    rw[tk,ycq]
    rfl
   rw[this]
   exact hd2
theorem zkT {E:Value->Shared->Prop} {p:Addr} {its:List Value} {n:Nat} {l:List (Int × Value)} {Q:Value->Shared->Prop} (hh:A.handled=none) (hl:s.heap.get? p=some { cls:=.type "list", dict:=none,data:=.seq its.toArray n,slots:=#[] }) (len:its.length=l.length) (h64:its.length<1000)
  (hp:∀ j,j<its.length->zi8 s.heap (its.getD j .none) (l.getD j (0,.none)))
  (h:∀ h' tk,(∀ b o,s.heap.get? b=some o->h'.get? b=some o)->h'.DictOf (intKind prog w) s.heap.objs.size (zgf l)->Q (.ref s.heap.objs.size) { s with heap:=h',toks:=tk }) :
  wpAny (model prog w) A (call (.type "dict") [.ref p]) Q E s:=by
 have hlt:p<s.heap.objs.size:=ydl hl
 refine callType_codes (Q₁:=fun obj s₁=>obj=.ref s.heap.objs.size/\s₁={ s with heap:=s.heap.push { cls:=.type "dict", data:=.dict #[] } }) F.kt_called_dict (F.kt_typeCall_dict_1 _) F.entry_dict_init (kt_code_dict_new _ ⟨rfl,rfl⟩) ?_
 rintro obj s₁ ⟨rfl,rfl⟩
 have hnew:(s.heap.push { cls:=.type "dict", data:=.dict #[] }).DictOf (intKind prog w) s.heap.objs.size []:=Heap.DictOf.new s.heap
 have hl1:(s.heap.push { cls:=.type "dict", data:=.dict #[] }).get? p=some { cls:=.type "list", dict:=none,data:=.seq its.toArray n,slots:=#[] }:=ydk _ hl
 refine ⟨hnew.typeIs,F.args_dict_init_2 _ _,?_⟩
 unfold Builtin.«dict.__init__»
 refine wpAny_bind ?_
 unfold Builtin.Dict.selfAndRest
 refine wpAny_bind (wpAny_notOrdered_dict hnew.typeIs ?_)
 show wpAny _ _ (pure (s.heap.objs.size,[Value.ref p])) _ _ _
 refine wpAny_pure ?_
 show wpAny _ _ (Builtin.Dict.updateFrom "dict.__init__" s.heap.objs.size (.ref p) [] .none) _ _ _
 unfold Builtin.Dict.updateFrom
 refine wpAny_bind (wpAny_typeOf (T:="list") ⟨_,hl1,rfl⟩ ?_)
 rw[if_pos (by decide)]
 refine wpAny_bind (zif (s:={ s with heap:=s.heap.push { cls:=.type "dict", data:=.dict #[] } }) hl1 hh fun h2 tk2 k2=>?_)
 rw[if_pos (show (none:Option Value).isNone=true from rfl)]
 refine wpAny_bind (wpAny_rule ?_)
 have hl2:=k2 p _ hl1
 have hd2:=zat (h':=h2) hnew fun o e=>k2 _ o e
 have lt2:s.heap.objs.size<h2.objs.size:=by
  obtain ⟨o,es,ep,e,_⟩:=hd2
  exact ydl e
 have hlL:h2.IsList p its.toArray:=⟨_,hl2,rfl,n,rfl⟩
 refine wpAny_bind (wpAny_pyIter_list hlL ?_)
 refine wpAny_pure ⟨plainId_quiet zaA _,?_⟩
 refine zqt (s:=s) (A:=A.in1) (h₁:=h2) (d:=s.heap.objs.size) (it:=h2.objs.size) (p:=p) (its:=its) (l:=l) hh (ycw lt2) (ydg hlt) (ydg (ydf hlt lt2)) len h64 (fun h' tk kp hd'=>?_)
  its.length 0 _ tk2 (Nat.sub_zero _) (ycz _) ⟨_,ydm _ rfl,rfl,rfl⟩ (hlL.push _) (fun j hj=>(hp j hj).keep fun a o _ e=>ydk _ (k2 a o (ydk _ e))) (zat hd2 fun o e=>ydk _ e) fun b o b1 b2 e=>ydk _ e
 refine ⟨rfl,h h' tk (fun b o e=>kp b o (ycw (ydl e)) (ycw (ydf (ydl e) lt2)) (k2 b o (ydk _ e))) hd'⟩
end
noncomputable def zrX (K:W.Frag) (H:Hp):List V->List (Int × V)->Prop:=LL fun v s=>∃ t,v=.ref t/\H t=some (.tup [.int s.1,s.2])
theorem KU.fold {us:List (Int × Value)} {l:List (Int × V)} (h:KU us l):∀ {acc:List (Int × Value)} {acl:List (Int × V)},KU acc acl->KU (us.foldl (fun acc s=>PySem.stored acc s.1 s.2) acc) (l.foldl (fun acc s=>zd4 acc s.1 s.2) acl):=by
 induction h with
 | nil=>exact fun h=>h
 | cons r _ ih=>exact fun h=>ih (h.stored r)
section
variable {X:Cx} {pins:List (Addr × Obj)} {σ:St} {H:Hp} {s:Shared}
theorem zkk (I:Inv X pins σ H s):∀ {vs:List V} {l:List (Int × V)} {its:List Value},zrX X.K H vs l->Vals vs its->∃ us:List (Int × Value),KU us l/\its.length=us.length/\∀ i,i<its.length->zi8 s.heap (its.getD i .none) (us.getD i (0,.none))
 | _,_,_,.nil,.nil=>⟨[],.nil,rfl,fun i hi=>absurd hi (Nat.not_lt_zero _)⟩
 | _,_,_,.cons (e:=e) h t,.cons r rs=>by
  obtain ⟨us,k,len,hp⟩:=zkk I t rs
  obtain ⟨a,rfl,ea⟩:=h
  cases r
  obtain ⟨ts,tv,tp,_⟩:=I.tuple (SqT.of ea)
  cases tv with
  | cons t1 tv =>
   cases tv with
   | @cons _ u2 _ _ t2 tv =>
    cases tv
    obtain ⟨t,rfl⟩:=t1
    obtain ⟨o,eo,oc,n,od⟩:=(show s.heap.IsTuple a _ from tp)
    refine ⟨(e.1,u2)::us,.cons t2 k,by simp[len],fun i hi=>?_⟩
    cases i with
    | zero=>exact ⟨a,o,n,t,rfl,eo,oc,od⟩
    | succ i =>
     have:=hp i (by simpa using hi)
     simpa using this
theorem zn8 (hc:X.calm=true):zbo X (.type "dict") (fun xs H Q=>∃ (p:Addr) (vs:List V) (l:List (Int × V)),xs=[.ref p]/\H p=some (.lst vs)/\zrX X.K H vs l/\l.length<1000 /\
  ∀ (d:Addr),H d=none->Q (.ref d) (upd H d (zjd X.prog X.w d (zo3 l)))):=by
 intro pins s σ H xs us Q I r h
 obtain ⟨p,vs,l,rfl,hp,hR,hl,q⟩:=h
 obtain ⟨u,rfl,rx⟩:=vals1 r
 cases rx
 obtain ⟨z,its,n,rv,e'⟩:=(show zX X.prog X.w H s.heap p (.lst vs) from I.hok p _ hp)
 obtain ⟨us,ku,len,pr⟩:=zkk I hR rv
 have kl:=ku.length
 have big:sysModules<s.heap.objs.size:=ydf (by decide) (show mainGlobals<s.heap.objs.size from (I.mod.glob.keeps I.bk).lt)
 have lo:(s.heap.objs.size == sysModules)=false:=beq_eq_false_iff_ne.mpr (Ne.symm (ycw big))
 refine zkT (I.ok.hd hc) e' len (by ac_rfl) pr fun h' tk kp hd=>?_
 exact ⟨.ref s.heap.objs.size,_,I.laid (o:=zjd X.prog X.w s.heap.objs.size (zo3 l)) kp (ycv _) (zqZ lo hd (ku.fold .nil)),rfl,q _ (I.hok.fresh (ycv _))⟩
end
section
variable {X:Cx} {o e f:Expr} {apos cpos:Pos} {td ty tx:TE}
theorem zhA (P:Program) (w:World) (ho:PE X o td) (he:PE X e ty) (hf:PE X f tx) (hb:attributeBase o "get" X.env (eval o X.env)=eval o X.env:=by rfl)
  (few:((backTo cpos (starEach [e,f] X.env)).all (fun x=>!x.1) && (backToKw cpos (keywordEach [] X.env)).all (fun x=>x.1.isSome)
   && decide (([e,f]:List Expr).length+([]:List Keyword).length+(if ([]:List Keyword).isEmpty then 0 else 1)<30))=true:=by rfl)
  (line:(apos.endLine == cpos.line)=true:=by rfl) (trees:backTo cpos (starEach [e,f] X.env)=[(false,eval e X.env),(false,eval f X.env)]:=by rfl) (hP:X.prog=P:=by rfl) (hw:X.w=w:=by rfl):PE X (.Call (.Attribute o "get" apos) [e,f] [] cpos) (zsa P w td ty tx):=by
 subst hP hw
 exact zoI ho he hf hb few line trees
end
section
variable {X:Cx} {e k:Expr} {te:TE} {p2 pos:Pos} {lo hi:Option Expr} {tl th:TO}
end
theorem zrx {X:Cx} (K:W.Frag) (hK:X.K=K:=by rfl):OpR X (binaryOp .Add) (zrY K):=by subst hK;exact zs5
section
variable {M:Model} {A:Around} {E:Value->Shared->Prop} {s:Shared}
theorem evp {k v:Sem Value} {rest:List (Sem Value × Sem Value)} {Q:List (Value × Value)->Shared->Prop} (h:wpAny M A k (fun a s1=>wpAny M A v (fun b s2=>wpAny M A (evalPairs rest) (fun l s3=>Q ((a,b)::l) s3) E s2) E s1) E s):wpAny M A (evalPairs ((k,v)::rest)) Q E s:=by
 show wpAny M A (do let kv <-k;let vv <-holding [kv] v;return (kv,vv)::(<-holding [kv,vv] (evalPairs rest))) Q E s
 exact wpAny_bind (thn h fun a s1 h1=>wpAny_bind (wpAny_holding (thn h1 fun b s2 h2=>wpAny_bind (wpAny_holding (thn h2 fun l s3 h3=>wpAny_pure h3)))))
end
section
variable {X:Cx} {pos:Pos}
end
section
variable {X:Cx} {pos:Pos}
def zuD (k:Int) (b:Bool):TE:=fun _ H Q=>∀ p,H p=none->Q (.ref p) (upd H p (.dK [(.inl k,.bl b)]))
theorem ztx {k:Int} {b:Bool} {j1 i1:Nat} {p1 q1:Pos}:PE X (.Dict [some (.Constant (.int k) j1 p1)] [.Constant (.bool b) i1 q1] pos) (zuD k b):=fun pins s σ H Q I h=>by
 have big:sysModules<s.heap.objs.size:=ydf (by decide) (show mainGlobals<s.heap.objs.size from (I.mod.glob.keeps I.bk).lt)
 refine wpAny_Dict_pairs (knd:=zk5 X.prog X.w) (pairs:=[(eval (.Constant (.int k) j1 p1) X.env,do let x <-eval (.Constant (.bool b) i1 q1) X.env;standAt pos;pure x)]) rfl (by simp) (show 1<=15 by decide) ?_
 refine evp (wpAny_Constant_int (wpAny_bind (wpAny_Constant_bool (wpAny_bind (wpAny_standAt (wpAny_pure (wpAny_pure ?_)))))))
 refine ⟨[(.inl k,.bool b)],⟨zn6 _ _ _ _,rfl,True.intro⟩,Heap.DictOf.new s.heap,fun h' hD sb=>?_⟩
 rw[show merged [] [((.inl k:Key),Value.bool b)]=[(.inl k,Value.bool b)] by simp[merged,stored]] at hD
 refine ⟨.ref s.heap.objs.size,_,I.laid (fun b o q=>?_) (ycv _) (show zX X.prog X.w _ _ _ (.dK _) from ⟨by rw[sizeLine_eq];show 1<=16777216;decide,beq_eq_false_iff_ne.mpr (Ne.symm (ycw big)),_,(show KV [((.inl k:Key),V.bl b)] [(.inl k,Value.bool b)] from .cons ⟨rfl,rfl⟩ .nil),hD⟩),rfl,h _ (I.hok.fresh (ycv _))⟩
 exact (sb.2 b (ycw (ydl q))).trans (ydk _ q)
end
section
variable {X:Cx} {pins:List (Addr × Obj)} {σ:St} {H:Hp} {s:Shared} {o i e f value:Expr} {pos pos' apos cpos:Pos} {td ty tx tv:TE}
end
section
variable {X:Cx}
end
section
variable {X:Cx} {pins:List (Addr × Obj)} {σ:St} {H:Hp} {s:Shared} {sc:Scope} {x y0 y1:Str} {ix:List Nat} {fp:List Addr}
end
section
variable {X:Cx} {pins:List (Addr × Obj)} {σ:St} {H:Hp} {s:Shared} {sc:Scope} {x y0 y1:Str} {ix:List Nat} {fp:List Addr} {elt iter c:Expr} {te:TE} {tt:TT} {wi:TI} {px py0 py1 pt0 pos:Pos} {kt0:Nat}
end
end L2
namespace Sby
open L2
noncomputable abbrev Pl:=List (Int × Int)
noncomputable def sm (l:Pl) (k:Int):Int:=((l.filter fun p=>p.1=k).map (·.2)).sum
theorem zoM (l:Pl) (k x j:Int):sm (l++[(k,x)]) j=sm l j+if k=j then x else 0:=by
 unfold sm
 rw[ybq,yas,List.sum_append]
 by_cases e:k=j
 ·rw[if_pos e,ybf (by simpa using e)];simp
 ·rw[if_neg e,ybg (by simpa using e)];simp
theorem zi7 {l:Pl} {k:Int} (h:k ∉ l.map (·.1)):sm l k=0:=by
 unfold sm
 rw[ybw.mpr]
 ·rfl
 ·intro p hp e
  exact h (yah.mpr ⟨p,hp,by simpa using e⟩)
structure Tot (acc l:Pl):Prop where
 nd:(acc.map (·.1)).Nodup
 mem:∀ k,k∈acc.map (·.1)↔k∈l.map (·.1)
 val:∀ p∈acc,p.2=sm l p.1
theorem Tot.nil:Tot [] []:=⟨.nil,fun k=>Iff.rfl,fun p hp=>by cases hp⟩
theorem Tot.look {acc l:Pl} (T:Tot acc l) (k:Int):((lkI acc k).map V.int).getD (.int 0)=.int (sm l k):=by
 unfold lkI
 cases e:acc.find? (fun p=>p.1=k) with
 | none =>
  have:k ∉ acc.map (·.1):=fun hm=>by
   obtain ⟨p,hp,ep⟩:=yah.mp hm
   have:=List.find?_eq_none.mp e p hp
   exact this (by simpa using ep)
  rw[zi7 (fun z=>this ((T.mem k).mpr z))]
  rfl
 | some p =>
  have hp:=List.mem_of_find?_eq_some e
  have ep:p.1=k:=by simpa using List.find?_some e
  have:=T.val p hp
  rw[ep] at this
  rw[<-this]
  rfl
theorem Tot.step {acc l:Pl} (T:Tot acc l) (k x:Int):Tot (zac acc k (sm l k+x)) (l++[(k,x)]):=by
 have keys:∀ y:Int,(acc.map (fun p=>if p.1=k then (p.1,y) else p)).map (·.1)=acc.map (·.1):=fun y=>by
  rw[ycb]
  apply ycm
  intro p _
  show (if p.1=k then (p.1,y) else p).1=p.1
  split <;> rfl
 have lk:∀ j,j∈(l++[(k,x)]).map (·.1)↔j∈l.map (·.1)\/j=k:=fun j=>by simp[eq_comm]
 unfold zac
 split
 ·rename_i ha
  have hk:k∈acc.map (·.1):=by
   obtain ⟨p,hp,e⟩:=ycg.mp ha
   exact yah.mpr ⟨p,hp,by simpa using e⟩
  refine ⟨by rw[keys];exact T.nd,fun j=>?_,fun p hp=>?_⟩
  ·rw[keys,lk,T.mem]
   refine ⟨.inl,fun h=>h.elim id fun e=>?_⟩
   rw[e];exact (T.mem k).mp hk
  ·obtain ⟨q,hq,rfl⟩:=yah.mp hp
   have v:=T.val q hq
   rw[zoM]
   by_cases e:q.1=k
   ·rw[if_pos e]
    show sm l k+x=sm l q.1+if k=q.1 then x else 0
    rw[if_pos e.symm,e]
   ·rw[if_neg e,if_neg (fun z=>e z.symm),v]
    ac_rfl
 ·rename_i ha
  have hk:k ∉ acc.map (·.1):=fun hm=>by
   obtain ⟨p,hp,e⟩:=yah.mp hm
   exact ha (ycg.mpr ⟨p,hp,by simpa using e⟩)
  refine ⟨?_,fun j=>?_,fun p hp=>?_⟩
  ·rw[yas]
   refine yck.mpr ⟨T.nd,by simp,?_⟩
   intro a ha' b hb
   have:b=k:=by simpa using hb
   intro z
   rw[z,this] at ha'
   exact hk ha'
  ·rw[lk,yas,yag,T.mem]
   simp
  ·rw[zoM]
   rcases yag.mp hp with hp | hp
   ·have ne:k≠p.1:=fun z=>hk (by rw[z];exact yah.mpr ⟨p,hp,rfl⟩)
    rw[if_neg ne,T.val p hp]
    ac_rfl
   ·obtain rfl:p=(k,sm l k+x):=by simpa using hp
    rw[if_pos rfl]
structure Tab (r l:Pl):Prop where
 up:(r.map (·.1)).Pairwise (·<·)
 mem:∀ k,k∈r.map (·.1)↔k∈l.map (·.1)
 val:∀ p∈r,p.2=sm l p.1
theorem zr9 {ns:List Int} (nd:ns.Nodup) (up:ns.Pairwise (·<=·)):ns.Pairwise (·<·):=by
 induction ns with
 | nil=>exact .nil
 | cons n ns ih =>
  obtain ⟨n1,n2⟩:=yci.mp nd
  obtain ⟨u1,u2⟩:=yci.mp up
  refine yci.mpr ⟨fun a ha=>?_,ih n2 u2⟩
  have:=u1 a ha
  have:=n1 a ha
  ac_rfl
theorem zfd {ns:List Int} (up:ns.Pairwise (·<·)):ns.Nodup:=up.imp fun h=>by ac_rfl
theorem Tot.tab {acc l r:Pl} (T:Tot acc l) (P:r.Perm acc) (S:r.Pairwise fun s t=>s.1<=t.1):Tab r l:=by
 have pk:=P.map (·.1)
 refine ⟨zr9 (pk.nodup_iff.mpr T.nd) (yby.mpr S),fun k=>(pk.mem_iff).trans (T.mem k),fun p hp=>T.val p (P.mem_iff.mp hp)⟩
end Sby
namespace L2
open PySem
noncomputable abbrev Er:=Ek × Int × Int
def isW (w:Str) (e:Er):Bool:=decide (V.str e.1.word=V.str w)
noncomputable def prs (w:Str) (es:List Er):List (Int × Int):=(es.filter (isW w)).map (·.2)
noncomputable def dys (w:Str) (es:List Er):List Int:=(es.filter (isW w)).map (·.2.1)
noncomputable def EL (K:W.Frag) (H:Hp):List V->List Er->Prop:=LL fun v e=>∃ a dx,v=.ref a/\zfa K H a dx e.1 e.2.1 e.2.2
theorem EL.same {K:W.Frag} {H H':Hp} {vs:List V} {es:List Er} (h:EL K H vs es) (s:Same H H'):EL K H' vs es:=LL.imp (fun v e ⟨a,dx,e1,e2⟩=>⟨a,dx,e1,s _ _ e2⟩) h
def AmW (w:Str):Prop:=w = "out" \/ w = "fee" \/ w = "pay" \/ w = "due"
theorem amt {w:Str} {k:Ek} {d x:Int} (hw:AmW w) (h:isW w (k,d,x)=true):ybx ("amount" : Str) (zhu k d x)=some (V.int x)/\atI (zu3 k d x) 2=some (.int x):=by
 have e:k.word=w:=V.str.inj (of_decide_eq_true h)
 subst e
 rcases hw with hw | hw | hw | hw <;> (cases k <;> first | exact ⟨rfl,rfl⟩ | (exfalso;revert hw;decide))
theorem zk9 {K:W.Frag} {H:Hp} {ys:List V} {gs:List Er} (h:LL (fun v e=>∃ t,v=.ref t/\H t=some (.tup [.int e.2.1,.int e.2.2])) ys gs):zx K H ys (gs.map (·.2)):=by
 induction h with
 | nil=>exact .nil
 | cons h _ ih =>
  obtain ⟨t,rfl,ht⟩:=h
  exact .cons ht ih
structure Days (ns ds:List Int):Prop where
 up:ns.Pairwise (·<·)
 mem:∀ d,d∈ns↔d∈ds
theorem Days.of {ns ms ds:List Int} (nd:ms.Nodup) (mem:∀ d,d∈ms↔d∈ds) (pm:ns.Perm ms) (up:ns.Pairwise (·<=·)):Days ns ds:=⟨Sby.zr9 (pm.nodup_iff.mpr nd) up,fun d=>pm.mem_iff.trans (mem d)⟩
theorem zsH {es:List Er} {w:Str}:(dys w es).length<=es.length:=by
 unfold dys
 rw[yab]
 exact ybb _ _
end L2
namespace L2
open PySem
end L2
namespace L2
open PySem
end L2
namespace L2
open PySem
end L2
namespace L2
open PySem
end L2
namespace L2
open PySem
theorem LL.of {α:Type} {R:V->α->Prop}:∀ {vs:List V} {es:List α},vs.length=es.length->(∀ (j:Nat) v,vs[j]?=some v->∃ e,es[j]?=some e/\R v e)->LL R vs es
 | [],[],_,_=>.nil
 | [],_::_,h,_=>by simp at h
 | _::_,[],h,_=>by simp at h
 | v::vs,e::es,h,p=>by
  obtain ⟨e',he,hr⟩:=p 0 v rfl
  cases he
  exact .cons hr (LL.of (by simpa using h) fun j w hw=>p (j+1) w hw)
end L2
namespace Spans
noncomputable abbrev Sp:=List (Int × Int)
def Cov (l:Sp) (d:Int):Prop:=∃ s∈l,s.1<=d/\d<s.2
structure Joined (l:Sp):Prop where
 up:∀ s∈l,s.1<s.2
 apart:l.Pairwise fun s t=>s.2<t.1
theorem zoP {d:Int}:¬ Cov [] d:=fun ⟨_,h,_⟩=>by cases h
theorem zrK {s:Int × Int} {l:Sp} {d:Int}:Cov (s::l) d↔(s.1<=d/\d<s.2)\/Cov l d:=by
 constructor
 ·rintro ⟨t,ht,h⟩
  rcases yak.mp ht with rfl | ht
  ·exact .inl h
  ·exact .inr ⟨t,ht,h⟩
 ·rintro (h | ⟨t,ht,h⟩)
  ·exact ⟨s,yao,h⟩
  ·exact ⟨t,yan _ ht,h⟩
theorem zcp {a b:Sp} {d:Int}:Cov (a++b) d↔Cov a d\/Cov b d:=by
 constructor
 ·rintro ⟨t,ht,h⟩
  rcases yag.mp ht with ht | ht
  ·exact .inl ⟨t,ht,h⟩
  ·exact .inr ⟨t,ht,h⟩
 ·rintro (⟨t,ht,h⟩ | ⟨t,ht,h⟩)
  ·exact ⟨t,ybc _ ht,h⟩
  ·exact ⟨t,yaj _ ht,h⟩
def isIn (l:Sp) (d:Int):Bool:=l.any fun s=>decide (s.1<=d) && decide (d<s.2)
theorem zef {l:Sp} {d:Int}:isIn l d=true↔Cov l d:=by
 unfold isIn
 rw[ycg]
 constructor
 ·rintro ⟨s,hs,h⟩
  simp only[Bool.and_eq_true,decide_eq_true_eq] at h
  exact ⟨s,hs,h⟩
 ·rintro ⟨s,hs,h⟩
  exact ⟨s,hs,by simp only[Bool.and_eq_true,decide_eq_true_eq];exact h⟩
noncomputable def step (l:Sp) (st:Sp × Int) (e:Int):Sp × Int :=
 let f:=if isIn l e && !isIn l (e-1) then e else st.2
 (if isIn l e then st.1 else st.1++[(f,e)],f)
def least (l:Sp) (es:List Int):Sp:=(es.foldl (step l) ([],0)).1
theorem zso {l:Sp} {a b:Int} (ab:a<=b) (h:∀ s∈l,∀ d,a<d->d<=b->d≠s.1/\d≠s.2):Cov l a↔Cov l b:=by
 constructor
 ·rintro ⟨s,hs,h1,h2⟩
  refine ⟨s,hs,by ac_rfl,?_⟩
  refine Int.not_le.mp fun le=>?_
  exact (h s hs s.2 h2 le).2 rfl
 ·rintro ⟨s,hs,h1,h2⟩
  refine ⟨s,hs,?_,by ac_rfl⟩
  refine Int.not_lt.mp fun lt=>?_
  exact (h s hs s.1 lt h1).1 rfl
end Spans
namespace Sums
noncomputable def S (f:Int->Int) (a:Int):Nat->Int
 | 0=>0
 | n+1=>S f a n+f (a+n)
noncomputable def sum (f:Int->Int) (a b:Int):Int:=S f a (b-a).toNat
theorem ztp {f:Int->Int} {a b:Int} (h:b<=a):sum f a b=0:=by
 unfold sum
 rw[show (b-a).toNat=0 by ac_rfl]
 rfl
theorem zmB (f:Int->Int) (a:Int) (n:Nat):∀ m,S f a (n+m)=S f a n+S f (a+n) m
 | 0=>by simp[S]
 | m+1=>by
  show S f a (n+m)+f (a+((n+m:Nat):Int))=S f a n+(S f (a+n) m+f (a+n+m))
  rw[zmB f a n m,show a+((n+m:Nat):Int)=a+n+m by ac_rfl]
  ac_rfl
theorem sum_add {f:Int->Int} {a b c:Int} (h1:a<=c) (h2:c<=b):sum f a b=sum f a c+sum f c b:=by
 unfold sum
 rw[show (b-a).toNat=(c-a).toNat+(b-c).toNat by ac_rfl,zmB,show a+((c-a).toNat:Int)=c by ac_rfl]
theorem zox {f g:Int->Int} {a:Int}:∀ (n:Nat),(∀ d,a<=d->d<a+n->f d=g d)->S f a n=S g a n
 | 0,_=>rfl
 | n+1,h=>by
  show S f a n+f (a+n)=S g a n+g (a+n)
  rw[zox n fun d h1 h2=>h d h1 (by ac_rfl),h (a+n) (by ac_rfl) (by ac_rfl)]
theorem zqo {f g:Int->Int} {a b:Int} (h:∀ d,a<=d->d<b->f d=g d):sum f a b=sum g a b:=zox _ fun d h1 h2=>h d h1 (by ac_rfl)
theorem zsd (c:Int) (f:Int->Int) (a:Int):∀ n,S (fun d=>c*f d) a n=c*S f a n
 | 0=>by simp[S]
 | n+1=>by
  show S (fun d=>c*f d) a n+c*f (a+n)=c*(S f a n+f (a+n))
  rw[zsd c f a n,Int.mul_add]
theorem zsi (c:Int) (f:Int->Int) (a b:Int):sum (fun d=>c*f d) a b=c*sum f a b:=zsd c f a _
theorem zsc {U:Int->Int} {a:Int}:∀ n:Nat,S (fun d=>U (d+1)-U d) a n=U (a+n)-U a
 | 0=>by simp[S]
 | n+1=>by
  show S (fun d=>U (d+1)-U d) a n+(U (a+n+1)-U (a+n))=_
  rw[zsc n,show a+((n+1:Nat):Int)=a+n+1 by ac_rfl]
  ac_rfl
theorem zsq {U:Int->Int} {a b:Int} (h:a<=b):sum (fun d=>U (d+1)-U d) a b=U b-U a:=by
 unfold sum
 rw[zsc,show a+((b-a).toNat:Int)=b by ac_rfl]
theorem zqT {U v:Int->Int} {a b c:Int} (h:a<=b) (hv:∀ d,a<=d->d<b->v d=c):sum (fun d=>(U (d+1)-U d)*v d) a b=(U b-U a)*c:=by
 rw[zqo (g:=fun d=>c*(U (d+1)-U d)) fun d h1 h2=>by rw[hv d h1 h2,Int.mul_comm],zsi,zsq h,Int.mul_comm]
noncomputable abbrev Tab:=List (Int × Int)
def Val (t:Tab) (d v:Int):Prop:=(v=0/\∀ r∈t,d<r.1)\/∃ i:Nat,∃ b:Int,t[i]?=some (b,v)/\b<=d/\∀ (j:Nat) (r:Int × Int),t[j]?=some r->r.1<=d->r.1<b\/(r.1=b/\j<=i)
theorem Val.one {t:Tab} {d v u:Int} (a:Val t d v) (b:Val t d u):v=u:=by
 rcases a with ⟨rfl,h⟩ | ⟨i,x,e,le,h⟩
 ·rcases b with ⟨rfl,_⟩ | ⟨j,y,e',le',_⟩
  ·rfl
  ·have:=h _ (yai e')
   dsimp only at this
   ac_rfl
 ·rcases b with ⟨rfl,g⟩ | ⟨j,y,e',le',g⟩
  ·have:=g _ (yai e)
   dsimp only at this
   ac_rfl
  ·have p:=h j _ e' le'
   have q:=g i _ e le
   dsimp only at p q
   have ij:i=j:=by ac_rfl
   subst ij
   rw[e] at e'
   cases e'
   rfl
noncomputable def vstep (d:Int) (st:Int × Int) (r:Int × Int):Int × Int:=if st.1<=r.1/\r.1<=d then r else st
noncomputable def valOf (t:Tab) (d:Int):Int:=(t.foldl (vstep d) (-1,0)).2
theorem zc5 {t:Tab} (h0:∀ r∈t,0<=r.1) (d:Int):Val t d (valOf t d):=by
 suffices q:∀ (pre rest:Tab) (st:Int × Int),pre++rest=t->((st=(-1,0)/\∀ r∈pre,d<r.1)\/∃ i:Nat,pre[i]?=some st/\st.1<=d/\∀ (j:Nat) (r:Int × Int),pre[j]?=some r->r.1<=d->r.1<st.1\/(r.1=st.1/\j<=i)) ->
   Val t d (rest.foldl (vstep d) st).2 from q [] t (-1,0) rfl (.inl ⟨rfl,fun r hr=>by cases hr⟩)
 intro pre rest
 induction rest generalizing pre with
 | nil =>
  intro st e h
  rw[ybi] at e
  subst e
  rcases h with ⟨rfl,h⟩ | ⟨i,e,le,h⟩
  ·exact .inl ⟨rfl,h⟩
  ·exact .inr ⟨i,st.1,e,le,h⟩
 | cons r rest ih =>
  intro st e h
  have hr:0<=r.1:=h0 r (by rw[<-e];simp)
  refine ih (pre++[r]) (vstep d st r) (by rw[ycc];exact e) ?_
  have last:∀ (j:Nat) (x:Int × Int),(pre++[r])[j]?=some x->pre[j]?=some x\/(j=pre.length/\x=r):=fun j x hx=>by
   by_cases hj:j<pre.length
   ·rw[yax hj] at hx
    exact .inl hx
   ·by_cases hj2:j=pre.length
    ·subst hj2
     rw[yau (ycv _),ydj] at hx
     exact .inr ⟨rfl,(by cases hx;rfl)⟩
    ·rw[yap (by rw[yae,ybm];ac_rfl)] at hx
     cases hx
  unfold vstep
  by_cases c:st.1<=r.1/\r.1<=d
  ·rw[if_pos c]
   refine .inr ⟨pre.length,by rw[yau (ycv _),ydj];rfl,c.2,fun j x hx hd=>?_⟩
   rcases last j x hx with hx | ⟨rfl,rfl⟩
   ·have hj:j<pre.length:=(yad.mp hx).1
    rcases h with ⟨_,h⟩ | ⟨i,_,_,h⟩
    ·have:=h x (yai hx)
     ac_rfl
    ·rcases h j x hx hd with z | z
     ·exact .inl (by ac_rfl)
     ·by_cases w:x.1=r.1
      ·exact .inr ⟨w,by ac_rfl⟩
      ·exact .inl (by ac_rfl)
   ·exact .inr ⟨rfl,ycv _⟩
  ·rw[if_neg c]
   rcases h with ⟨rfl,h⟩ | ⟨i,ei,le,h⟩
   ·refine .inl ⟨rfl,fun x hx=>?_⟩
    rcases yag.mp hx with hx | hx
    ·exact h x hx
    ·have:x=r:=by simpa using hx
     rw[this]
     exact Int.not_le.mp fun q=>c ⟨by show (-1:Int)<=r.1;ac_rfl,q⟩
   ·refine .inr ⟨i,?_,le,fun j x hx hd=>?_⟩
    ·rw[yax (yad.mp ei).1];exact ei
    ·rcases last j x hx with hx | ⟨rfl,rfl⟩
     ·exact h j x hx hd
     ·exact .inl (Int.not_le.mp fun q=>c ⟨q,hd⟩)
end Sums
namespace Stills
open Spans Sums
theorem fold_same {x y:Int}:∀ (t:Tab) (st:Int × Int),(∀ r∈t,(r.1<=x↔r.1<=y))->t.foldl (vstep x) st=t.foldl (vstep y) st
 | [],_,_=>rfl
 | r::t,st,h=>by
  have e:vstep x st r=vstep y st r:=by
   unfold vstep
   have:=h r (yao ..)
   by_cases c:st.1<=r.1/\r.1<=x
   ·rw[if_pos c,if_pos ⟨c.1,this.mp c.2⟩]
   ·rw[if_neg c,if_neg fun z=>c ⟨z.1,this.mpr z.2⟩]
  show t.foldl (vstep x) (vstep x st r)=t.foldl (vstep y) (vstep y st r)
  rw[e]
  exact fold_same t _ fun q hq=>h q (yan _ hq)
theorem zmu {t:Tab} {x y:Int} (xy:x<=y) (h:∀ r∈t,¬ (x<r.1/\r.1<=y)):valOf t x=valOf t y:=by
 unfold valOf
 rw[fold_same (y:=y) t _ fun r hr=>by have:=h r hr;ac_rfl]
theorem zsY {l r:Sp} {x y:Int} (c:∀ d,Cov r d↔Cov l d) (xy:x<=y) (h:∀ s∈r,∀ d,x<d->d<=y->d≠s.1/\d≠s.2):isIn l x=isIn l y:=by
 have e:Cov l x↔Cov l y:=by rw[<-c,<-c];exact zso xy h
 cases p:isIn l x with
 | true=>exact (zef.mpr (e.mp (zef.mp p))).symm
 | false =>
  cases q:isIn l y with
  | false=>rfl
  | true=>rw[zef.mpr (e.mpr (zef.mp q))] at p;cases p
structure Begun (r:Sp) (day:Int) (n:Nat):Prop where
 le:n<=r.length
 lo:∀ i s,i<n->r[i]?=some s->s.1<=day
 hi:∀ i s,n<=i->r[i]?=some s->day<s.1
structure Free (r:Sp) (day m:Int):Prop where
 from_:day<=m
 out:¬ Cov r m
 all:∀ d,day<=d->d<m->Cov r d
theorem Free.one {r:Sp} {day m n:Int} (a:Free r day m) (b:Free r day n):m=n:=by
 rcases Int.lt_trichotomy m n with h | h | h
 ·exact absurd (b.all m a.from_ h) a.out
 ·exact h
 ·exact absurd (a.all n b.from_ h) b.out
theorem Free.cov {r l:Sp} {day m:Int} (a:Free r day m) (h:∀ d,Cov r d↔Cov l d):Free l day m:=⟨a.from_,fun z=>a.out ((h _).mpr z),fun d h1 h2=>(h d).mp (a.all d h1 h2)⟩
theorem Free.here {r:Sp} {day:Int} (h:¬ Cov r day):Free r day day:=⟨yds _,h,fun d h1 h2=>by ac_rfl⟩
theorem Free.gt {r:Sp} {day m:Int} (a:Free r day m):m > day↔Cov r day:=by
 constructor
 ·intro h
  exact a.all day (yds _) h
 ·intro h
  have:=a.from_
  by_cases e:m=day
  ·rw[e] at a
   exact absurd h a.out
  ·ac_rfl
theorem zms {r:Sp} (J:Joined r) {i j:Nat} {s t:Int × Int} (hi:r[i]?=some s) (hj:r[j]?=some t) (lt:i<j):s.2<t.1:=by
 obtain ⟨h1,rfl⟩:=yad.mp hi
 obtain ⟨h2,rfl⟩:=yad.mp hj
 exact yar.mp J.apart i j h1 h2 lt
theorem zo7 {r:Sp} {day:Int} (B:Begun r day 0):Free r day day:=Free.here fun ⟨s,hs,h1,h2⟩=>by
 obtain ⟨j,hj,rfl⟩:=yaw.mp hs
 have:=B.hi j _ (ycz _) (yaa hj)
 ac_rfl
theorem zpg {r:Sp} (J:Joined r) {day:Int} {n:Nat} {s:Int × Int} (B:Begun r day (n+1)) (e:r[n]?=some s):Free r day (if s.2 > day then s.2 else day):=by
 have up:=J.up s (yai e)
 have lo:=B.lo n s (ydc _) e
 have other:∀ (t:Int × Int) (d:Int),t∈r->t.1<=d->d<t.2->day<=d->d<=s.2->t=s:=fun t d ht h1 h2 h3 h4=>by
  obtain ⟨j,hj,rfl⟩:=yaw.mp ht
  have ej:=yaa hj
  rcases ydd j n with h | h | h
  ·have:=zms J ej e h
   ac_rfl
  ·subst h
   rw[e] at ej
   cases ej
   rfl
  ·have:=zms J e ej h
   ac_rfl
 by_cases c:s.2 > day
 ·rw[if_pos c]
  refine ⟨by ac_rfl,fun ⟨t,ht,h1,h2⟩=>?_,fun d h1 h2=>⟨s,yai e,by ac_rfl,h2⟩⟩
  have:=other t s.2 ht h1 h2 (by ac_rfl) (yds _)
  rw[this] at h2
  ac_rfl
 ·rw[if_neg c]
  refine Free.here fun ⟨t,ht,h1,h2⟩=>?_
  obtain ⟨j,hj,rfl⟩:=yaw.mp ht
  have ej:=yaa hj
  rcases ydd j n with h | h | h
  ·have:=zms J ej e h
   ac_rfl
  ·subst h
   rw[e] at ej
   cases ej
   ac_rfl
  ·have:=B.hi j _ h ej
   ac_rfl
theorem zjy {l:Sp} (day:Int):∃ m,Free l day m:=by
 obtain ⟨M,hM⟩:∃ M:Int,∀ s∈l,s.2<=M:=by
  clear day
  induction l with
  | nil=>exact ⟨0,fun s h=>by cases h⟩
  | cons s l ih =>
   obtain ⟨M,h⟩:=ih
   refine ⟨if M<=s.2 then s.2 else M,fun t ht=>?_⟩
   rcases yak.mp ht with rfl | ht
   ·split <;> ac_rfl
   ·have:=h t ht
    split <;> ac_rfl
 have fin:∀ n:Nat,∀ d:Int,M-d<=n->∃ m,Free l d m:=by
  intro n
  induction n with
  | zero =>
   intro d h
   refine ⟨d,Free.here fun ⟨s,hs,h1,h2⟩=>?_⟩
   have:=hM s hs
   ac_rfl
  | succ n ih =>
   intro d h
   by_cases c:Cov l d
   ·obtain ⟨m,F⟩:=ih (d+1) (by ac_rfl)
    refine ⟨m,by have:=F.from_;ac_rfl,F.out,fun x h1 h2=>?_⟩
    by_cases e:x=d
    ·rw[e];exact c
    ·exact F.all x (by ac_rfl) h2
   ·exact ⟨d,Free.here c⟩
 exact fin (M-day).toNat day (by ac_rfl)
end Stills
namespace Stills
open Spans Sums
end Stills
namespace Stills
open Spans Sums
theorem zm2 {l:Sp} (up:l.Pairwise fun s t=>s.1<t.1) {i j:Nat} {s t:Int × Int} (hi:l[i]?=some s) (hj:l[j]?=some t) (lt:i<j):s.1<t.1:=by
 obtain ⟨h1,rfl⟩:=yad.mp hi
 obtain ⟨h2,rfl⟩:=yad.mp hj
 exact yar.mp up i j h1 h2 lt
theorem zqF {l:Sp} (J:Joined l):l.Pairwise fun s t=>s.1<t.1:=by
 refine (List.Pairwise.and_mem.mp J.apart).imp fun {s t} h=>?_
 have:=J.up s h.1
 have:=h.2.2
 ac_rfl
theorem zrZ {ns:List Int} (up:ns.Pairwise (·<·)) {i j:Nat} {x y:Int} (hi:ns[i]?=some x) (hj:ns[j]?=some y) (lt:i<j):x<y:=by
 obtain ⟨h1,rfl⟩:=yad.mp hi
 obtain ⟨h2,rfl⟩:=yad.mp hj
 exact yar.mp up i j h1 h2 lt
end Stills
namespace Stills
open Spans Sums
end Stills
namespace Stills
open Spans Sums
theorem zrt {t:Sp} {d:Int} (t0:∀ s∈t,0<=s.1) (B:Begun t d 0):valOf t d=0:=by
 refine Val.one (zc5 t0 d) (.inl ⟨rfl,fun r hr=>?_⟩)
 obtain ⟨j,hj,rfl⟩:=yaw.mp hr
 exact B.hi j _ (ycz _) (yaa hj)
theorem zq2 {t:Sp} {d:Int} (t0:∀ s∈t,0<=s.1) (up:t.Pairwise fun s u=>s.1<u.1) {n:Nat} {s:Int × Int} (B:Begun t d (n+1)) (e:t[n]?=some s):valOf t d=s.2:=by
 refine Val.one (zc5 t0 d) (.inr ⟨n,s.1,e,B.lo n s (ydc _) e,fun j r hj le=>?_⟩)
 rcases ydd j n with h | h | h
 ·exact .inl (zm2 up hj e h)
 ·subst h
  rw[e] at hj
  cases hj
  exact .inr ⟨rfl,ycv _⟩
 ·have:=B.hi j r h hj
  ac_rfl
end Stills
namespace Stills
open Spans Sums
end Stills
namespace Stills
end Stills
namespace Stills
open Spans Sums
structure TabOf (t tb:Sp):Prop where
 up:tb.Pairwise fun s u=>s.1<u.1
 val:∀ d,valOf tb d=valOf t d
 days:∀ d,(∃ s∈tb,d=s.1)↔∃ s∈t,d=s.1
theorem tab_of {t:Sp} {ds:List Int} (t0:∀ s∈t,0<=s.1) (up:ds.Pairwise (·<·)) (mem:∀ d,d∈ds↔∃ s∈t,d=s.1):TabOf t (ds.map fun d=>(d,valOf t d)):=by
 have d0:∀ s∈ds.map fun d=>(d,valOf t d),0<=s.1:=fun s hs=>by
  obtain ⟨d,hd,rfl⟩:=yah.mp hs
  obtain ⟨u,hu,e⟩:=(mem d).mp hd
  show 0<=d
  rw[e]
  exact t0 u hu
 refine ⟨by rw[yby];exact up,fun d=>?_,fun d=>?_⟩
 ·refine Val.one (zc5 d0 d) ?_
  rcases zc5 t0 d with ⟨e,h⟩ | ⟨i,b,e,le,h⟩
  ·rw[e]
   refine .inl ⟨rfl,fun r hr=>?_⟩
   obtain ⟨x,hx,rfl⟩:=yah.mp hr
   obtain ⟨u,hu,e'⟩:=(mem x).mp hx
   show d<x
   rw[e']
   exact h u hu
  ·have hb:b∈ds:=(mem b).mpr ⟨_,yai e,rfl⟩
   obtain ⟨j,hj,ej⟩:=yaw.mp hb
   have vb:valOf t b=valOf t d:=Val.one (zc5 t0 b) (.inr ⟨i,b,e,yds _,fun k r hk hr=>h k r hk (by ac_rfl)⟩)
   refine .inr ⟨j,b,?_,le,fun k r hk hr=>?_⟩
   ·rw[yaf,yaa hj,ej]
    show some (b,valOf t b)=_
    rw[vb]
   ·rw[yaf] at hk
    obtain ⟨x,hx,rfl⟩:=Option.map_eq_some_iff.mp hk
    have ej':ds[j]?=some b:=by rw[yaa hj,ej]
    obtain ⟨u,hu,eu⟩:=(mem x).mp (yai hx)
    obtain ⟨n,hn,en⟩:=yaw.mp hu
    have hxb:x<=b:=by
     have:=h n u (by rw[yaa hn,en]) (by rw[<-eu];exact hr)
     rw[<-eu] at this
     ac_rfl
    rcases ydd k j with c | c | c
    ·exact .inl (zrZ up hx ej' c)
    ·subst c
     rw[ej'] at hx
     cases hx
     exact .inr ⟨rfl,ycv _⟩
    ·have:=zrZ up ej' hx c
     ac_rfl
 ·constructor
  ·rintro ⟨s,hs,rfl⟩
   obtain ⟨x,hx,rfl⟩:=yah.mp hs
   exact (mem x).mp hx
  ·intro hd
   exact ⟨(d,valOf t d),yah.mpr ⟨d,(mem d).mpr hd,rfl⟩,rfl⟩
end Stills
namespace Stills
open Spans Sums
end Stills
namespace Stills
end Stills
namespace Stills
open Spans Sums
structure JInv (P acc:Sp):Prop where
 j:Joined acc
 c:∀ d,Cov acc d↔Cov P d
 f:∀ t∈acc,∃ s∈P,t.1=s.1
theorem zlh {s:Int × Int} {d:Int}:Cov [s] d↔s.1<=d/\d<s.2:=by
 rw[zrK]
 exact ⟨fun h=>h.elim id fun z=>absurd z zoP,.inl⟩
theorem JInv.nil:JInv [] []:=⟨⟨fun s h=>(by cases h),List.Pairwise.nil⟩,fun _=>Iff.rfl,fun t h=>(by cases h)⟩
theorem JInv.begin_ {P:Sp} {s:Int × Int} (J:JInv P []) (up:s.1<s.2):JInv (P++[s]) [s]:=by
 refine ⟨⟨fun t ht=>?_,ybr _ _⟩,fun d=>?_,fun t ht=>?_⟩
 ·have:t=s:=by simpa using ht
  rw[this];exact up
 ·rw[zcp,<-J.c]
  exact ⟨.inr,fun h=>h.elim (fun z=>absurd z zoP) id⟩
 ·have:t=s:=by simpa using ht
  exact ⟨s,by simp,by rw[this]⟩
theorem JInv.add {P acc:Sp} {t s:Int × Int} (J:JInv P (acc++[t])) (up:s.1<s.2) (h:t.2<s.1):JInv (P++[s]) (acc++[t]++[s]):=by
 have jt:=J.j.up t (by simp)
 refine ⟨⟨fun u hu=>?_,ybh.mpr ⟨J.j.apart,ybr _ _,fun u hu v hv=>?_⟩⟩,fun d=>?_,fun u hu=>?_⟩
 ·rcases yag.mp hu with hu | hu
  ·exact J.j.up u hu
  ·have:u=s:=by simpa using hu
   rw[this];exact up
 ·have:v=s:=by simpa using hv
  subst this
  rcases yag.mp hu with hu' | hu'
  ·have:=(ybh.mp J.j.apart).2.2 u hu' t (by simp)
   ac_rfl
  ·have:u=t:=by simpa using hu'
   rw[this];exact h
 ·rw[zcp (a:=acc++[t]),zcp (a:=P),J.c]
 ·rcases yag.mp hu with hu | hu
  ·obtain ⟨x,hx,e⟩:=J.f u hu
   exact ⟨x,yag.mpr (.inl hx),e⟩
  ·have:u=s:=by simpa using hu
   exact ⟨s,by simp,by rw[this]⟩
theorem JInv.grow {P acc:Sp} {t s:Int × Int} {m:Int} (J:JInv P (acc++[t])) (up:s.1<s.2) (h0:t.1<=s.1) (h:s.1<=t.2) (hm:m=if s.2 > t.2 then s.2 else t.2):JInv (P++[s]) (acc++[(t.1,m)]):=by
 have jt:=J.j.up t (by simp)
 have hm':t.2<=m/\s.2<=m/\(m=t.2\/m=s.2):=by rw[hm];split <;> ac_rfl
 obtain ⟨p1,p2,p3⟩:=ybh.mp J.j.apart
 refine ⟨⟨fun u hu=>?_,ybh.mpr ⟨p1,ybr _ _,fun u hu v hv=>?_⟩⟩,fun d=>?_,fun u hu=>?_⟩
 ·rcases yag.mp hu with hu | hu
  ·exact J.j.up u (yag.mpr (.inl hu))
  ·have:u=(t.1,m):=by simpa using hu
   rw[this]
   show t.1<m
   ac_rfl
 ·have:v=(t.1,m):=by simpa using hv
  rw[this]
  exact p3 u hu t (by simp)
 ·have a:=J.c d
  rw[zcp,zlh] at a
  rw[zcp,zcp,<-a,zlh,zlh]
  show (Cov acc d\/(t.1<=d/\d<m))↔((Cov acc d\/(t.1<=d/\d<t.2))\/(s.1<=d/\d<s.2))
  constructor
  ·rintro (z | z)
   ·exact .inl (.inl z)
   ·by_cases c:d<t.2
    ·exact .inl (.inr ⟨z.1,c⟩)
    ·exact .inr (by ac_rfl)
  ·rintro ((z | z) | z)
   ·exact .inl z
   ·exact .inr (by ac_rfl)
   ·exact .inr (by ac_rfl)
 ·rcases yag.mp hu with hu | hu
  ·obtain ⟨x,hx,e⟩:=J.f u (yag.mpr (.inl hu))
   exact ⟨x,yag.mpr (.inl hx),e⟩
  ·have:u=(t.1,m):=by simpa using hu
   obtain ⟨x,hx,e⟩:=J.f t (by simp)
   exact ⟨x,yag.mpr (.inl hx),by rw[this];exact e⟩
theorem zsp {a b:Sp} (h:∀ s,s∈a↔s∈b) (d:Int):Cov a d↔Cov b d:=⟨fun ⟨s,hs,q⟩=>⟨s,(h s).mp hs,q⟩,fun ⟨s,hs,q⟩=>⟨s,(h s).mpr hs,q⟩⟩
end Stills
namespace Dct
open L2
def days (t:List (Int × Int)) (d:Int):Prop:=∃ s∈t,d=s.1
theorem ztW {d:Int} (h:-1<=d):∀ (t:List (Int × Int)) (st:Int × Int),st.1<=d->(t.foldl (Sums.vstep d) st).1<=d
 | [],st,hs=>hs
 | x::t,st,hs=>by
  rw[ybz]
  refine ztW h t _ ?_
  unfold Sums.vstep
  split
  ·rename_i q;exact q.2
  ·exact hs
theorem zpI {d:Int}:∀ (t:List (Int × Int)) (st:Int × Int),st.1=d->(t.foldl (Sums.vstep d) st).1=d
 | [],st,hs=>hs
 | x::t,st,hs=>by
  rw[ybz]
  refine zpI t _ ?_
  unfold Sums.vstep
  split
  ·rename_i q;ac_rfl
  ·exact hs
theorem zrV {d:Int} (h:0<=d):∀ (t:List (Int × Int)) (st:Int × Int),st.1<=d->days t d->(t.foldl (Sums.vstep d) st).1=d
 | [],st,_,hd=>by obtain ⟨s,hs,_⟩:=hd;cases hs
 | x::t,st,hs,hd=>by
  rw[ybz]
  by_cases e:x.1=d
  ·refine zpI t _ ?_
   unfold Sums.vstep
   rw[if_pos ⟨by ac_rfl,by ac_rfl⟩]
   exact e
  ·refine zrV h t _ ?_ ?_
   ·unfold Sums.vstep
    split
    ·rename_i q;exact q.2
    ·exact hs
   ·obtain ⟨s,m,q⟩:=hd
    rcases yak.mp m with rfl | m
    ·exact absurd q.symm e
    ·exact ⟨s,m,q⟩
theorem zqJ (t:List (Int × Int)) (x:Int × Int):zcX (t++[x])=zac (zcX t) x.1 x.2:=by
 unfold zcX
 rw[ycq]
 rfl
theorem zk6 (l:List (Int × Int)) (k:Int):l.any (fun p=>p.1=k)=true↔days l k:=by
 rw[ycg]
 constructor
 ·rintro ⟨s,m,q⟩;exact ⟨s,m,(of_decide_eq_true q).symm⟩
 ·rintro ⟨s,m,q⟩;exact ⟨s,m,decide_eq_true q.symm⟩
theorem zkE {l:List (Int × Int)} {k y:Int} {s:Int × Int} (h:s∈zac l k y):(s.1=k/\s.2=y)\/(s∈l/\s.1≠k):=by
 unfold zac at h
 split at h
 ·obtain ⟨u,m,e⟩:=yah.mp h
  by_cases q:u.1=k
  ·rw[if_pos q] at e;subst e;exact .inl ⟨q,rfl⟩
  ·rw[if_neg q] at e;subst e;exact .inr ⟨m,q⟩
 ·rename_i na
  rcases yag.mp h with m | m
  ·refine .inr ⟨m,fun q=>na ((zk6 l k).mpr ⟨s,m,q.symm⟩)⟩
  ·obtain rfl:s=(k,y):=by simpa using m
   exact .inl ⟨rfl,rfl⟩
theorem zom {l:List (Int × Int)} {k y d:Int}:days (zac l k y) d↔days l d\/d=k:=by
 constructor
 ·rintro ⟨s,m,q⟩
  rcases zkE m with ⟨a,_⟩ | ⟨a,_⟩
  ·exact .inr (q.trans a)
  ·exact .inl ⟨s,a,q⟩
 ·intro h
  unfold zac
  split
  ·rename_i a
   have hd:days l d:=by
    rcases h with h | h
    ·exact h
    ·rw[h];exact (zk6 l k).mp a
   obtain ⟨s,m,q⟩:=hd
   by_cases e:s.1=k
   ·exact ⟨(s.1,y),yah.mpr ⟨s,m,by rw[if_pos e]⟩,q⟩
   ·exact ⟨s,yah.mpr ⟨s,m,by rw[if_neg e]⟩,q⟩
  ·rcases h with ⟨s,m,q⟩ | h
   ·exact ⟨s,ybc _ m,q⟩
   ·exact ⟨(k,y),yaj _ (ybp.mpr rfl),h⟩
theorem zn1 {l:List (Int × Int)} {k y:Int} (h:(l.map (·.1)).Nodup):((zac l k y).map (·.1)).Nodup:=by
 unfold zac
 split
 ·rw[ycb]
  have e:((fun x:Int × Int=>x.1) ∘ fun p:Int × Int=>if p.1=k then (p.1,y) else p)=fun x=>x.1:=by
   funext p
   show (if p.1=k then (p.1,y) else p).1=p.1
   split <;> rfl
  rw[e]
  exact h
 ·rename_i na
  rw[yas]
  refine yck.mpr ⟨h,by simp,fun a ha b hb=>?_⟩
  have hb':b=k:=by simpa using hb
  obtain ⟨s,m,q⟩:=yah.mp ha
  rw[hb']
  intro z
  exact na ((zk6 l k).mpr ⟨s,m,by rw[<-z];exact q.symm⟩)
structure Is (t l:List (Int × Int)):Prop where
 keys:(l.map (·.1)).Nodup
 days:∀ d,days l d↔days t d
 val:∀ s∈l,s.2=Sums.valOf t s.1
theorem dct_is:∀ (n:Nat) (t:List (Int × Int)),t.length=n->(∀ s∈t,0<=s.1)->Is t (zcX t)
 | 0,t,e,_=>by
  obtain rfl:t=[]:=List.eq_nil_of_length_eq_zero e
  exact ⟨List.nodup_nil,fun d=>Iff.rfl,fun s hs=>by cases hs⟩
 | n+1,t,e,h0=>by
  have ne:t≠[]:=fun z=>by rw[z] at e;cases e
  have et:t.dropLast++[t.getLast ne]=t:=List.dropLast_concat_getLast ne
  generalize t.dropLast=u at et
  generalize t.getLast ne=x at et
  subst et
  have ul:u.length=n:=by simpa using e
  have ih:=dct_is n u ul fun s hs=>h0 s (ybc _ hs)
  rw[zqJ]
  refine ⟨zn1 ih.keys,fun d=>?_,fun s hs=>?_⟩
  ·rw[zom,ih.days]
   constructor
   ·rintro (⟨s,m,q⟩ | q)
    ·exact ⟨s,ybc _ m,q⟩
    ·exact ⟨x,yaj _ (ybp.mpr rfl),q⟩
   ·rintro ⟨s,m,q⟩
    rcases yag.mp m with m | m
    ·exact .inl ⟨s,m,q⟩
    ·obtain rfl:s=x:=by simpa using m
     exact .inr q
  ·have x0:=h0 x (yaj _ (ybp.mpr rfl))
   have ev:∀ d,Sums.valOf (u++[x]) d=(Sums.vstep d (u.foldl (Sums.vstep d) (-1,0)) x).2:=fun d=>by
    unfold Sums.valOf
    rw[ycq]
    rfl
   rcases zkE hs with ⟨a,b⟩ | ⟨a,b⟩
   ·rw[ev,b,a]
    unfold Sums.vstep
    rw[if_pos ⟨ztW (by ac_rfl) u (-1,0) (by show -1<=x.1;ac_rfl),yds _⟩]
   ·rw[ev,ih.val s a]
    have d0:0<=s.1:=by
     obtain ⟨r,m,q⟩:=(ih.days s.1).mp ⟨s,a,rfl⟩
     rw[q]
     exact h0 r (ybc _ m)
    have b1:=zrV d0 u (-1,0) (by show -1<=s.1;ac_rfl) ((ih.days s.1).mp ⟨s,a,rfl⟩)
    have st:Sums.vstep s.1 (u.foldl (Sums.vstep s.1) (-1,0)) x=u.foldl (Sums.vstep s.1) (-1,0):=if_neg (by rw[b1];ac_rfl)
    rw[st]
    rfl
theorem tab {t r:List (Int × Int)} (h0:∀ s∈t,0<=s.1) (p:r.Perm (zcX t)) (o:r.Pairwise fun s u=>s.1<=u.1):Stills.TabOf t r/\r=(r.map (·.1)).map fun d=>(d,Sums.valOf t d):=by
 have I:=dct_is t.length t rfl h0
 have nd:(r.map (·.1)).Nodup:=(p.map (·.1)).nodup_iff.mpr I.keys
 have up:(r.map (·.1)).Pairwise (·<·):=by
  have o':(r.map (·.1)).Pairwise (·<=·):=by
   rw[yby]
   exact o
  refine (o'.and nd).imp fun {a b} h=>?_
  have:=h.1
  have:=h.2
  ac_rfl
 have e:r=(r.map (·.1)).map fun d=>(d,Sums.valOf t d):=by
  rw[ycb]
  conv=>lhs;rw[<-List.map_id r]
  refine ycm fun s hs=>?_
  show s=(s.1,Sums.valOf t s.1)
  rw[<-I.val s (p.mem_iff.mp hs)]
 refine ⟨?_,e⟩
 rw[e]
 refine Stills.tab_of h0 up fun d=>?_
 constructor
 ·intro m
  obtain ⟨s,hs,rfl⟩:=yah.mp m
  exact (I.days s.1).mp ⟨s,p.mem_iff.mp hs,rfl⟩
 ·intro m
  obtain ⟨s,hs,q⟩:=(I.days d).mpr m
  exact yah.mpr ⟨s,p.mem_iff.mpr hs,q.symm⟩
end Dct
namespace L2
open PySem
noncomputable def bkF (c g e o f p t r l s d:V):List (Str × V):=[("own_count", c),("own_grace", g),("own_entries", e),("out_sums", o),("fee_sums", f),("pay_sums", p),("turn_days", t),("rate_rows", r),("late_rows", l),("spans", s),("due_sums", d)]
noncomputable def upto (l:List (Int × Int)) (d:Int):Int:=((l.filter fun s=>decide (s.1<=d)).map (·.2)).sum
structure BkT where
 (kd:Kd) (g:Int) (es:List Er) (outs fees pays:List (Int × Int)) (turns:List Int) (rates lates spans dues:List (Int × Int))
def LP (K:W.Frag) (H:Hp) (p:Addr) (l:List (Int × Int)):Prop:=∃ xs,H p=some (.lst xs)/\zx K H xs l/\l.length<=1000
theorem LP.same {K:W.Frag} {H H':Hp} {p:Addr} {l:List (Int × Int)} (h:LP K H p l) (s:Same H H'):LP K H' p l:=by
 obtain ⟨xs,e,r,n⟩:=h
 exact ⟨xs,s _ _ e,r.same s,n⟩
structure BkA where
 (dx c e o f p t r l s d:Addr)
noncomputable def BkA.fs (A:BkA) (g:Int):List (Str × V):=bkF (.ref A.c) (.int g) (.ref A.e) (.ref A.o) (.ref A.f) (.ref A.p) (.ref A.t) (.ref A.r) (.ref A.l) (.ref A.s) (.ref A.d)
structure zW (K:W.Frag) (H:Hp) (a:Addr) (A:BkA) (b:BkT):Prop where
 ins:H a=some (.ins (cA K "Book") A.dx (A.fs b.g))
 cnt:zb9 K H A.c b.kd
 ents:∃ xs,H A.e=some (.lst xs)/\EL K H xs b.es
 outs:LP K H A.o b.outs
 fees:LP K H A.f b.fees
 pays:LP K H A.p b.pays
 turns:H A.t=some (.lst (b.turns.map V.int))
 rates:LP K H A.r b.rates
 lates:LP K H A.l b.lates
 spans:LP K H A.s b.spans
 dues:LP K H A.d b.dues
theorem zW.same {K:W.Frag} {H H':Hp} {a:Addr} {A:BkA} {b:BkT} (h:zW K H a A b) (s:Same H H'):zW K H' a A b :=
 ⟨s _ _ h.ins,h.cnt.same s,(let ⟨xs,e,r⟩:=h.ents;⟨xs,s _ _ e,r.same s⟩),h.outs.same s,h.fees.same s,h.pays.same s,s _ _ h.turns,h.rates.same s,h.lates.same s,h.spans.same s,h.dues.same s⟩
noncomputable def wo (H:Hp) (a:Addr):Hp:=fun b=>if b=a then none else H b
theorem zr2 {H:Hp} {a b:Addr} (h:b≠a):wo H a b=H b:=if_neg h
theorem zb3 {H:Hp} {a:Addr}:Same (wo H a) H:=fun b o e=>by
 unfold wo at e
 split at e
 ·cases e
 ·exact e
theorem zsJ {H H':Hp} {a:Addr} (s:Same H H'):Same (wo H a) (wo H' a):=fun b o e=>by
 unfold wo at e ⊢
 split at e
 ·cases e
 ·rename_i n
  rw[if_neg n]
  exact s _ _ e
theorem zcM {H:Hp} {a:Addr} {o:HO}:wo (upd H a o) a=wo H a:=funext fun b=>by
 unfold wo
 split
 ·rfl
 ·rename_i n
  rw[zp n]
theorem zsj {K:W.Frag} {H:Hp} {a C dx:Addr} {fs:List (Str × V)} {xs:List V} {l:List (Int × Int)} (h:zx K H xs l) (e:H a=some (.ins C dx fs)):zx K (wo H a) xs l:=by
 induction h with
 | nil=>exact .nil
 | cons h _ ih=>exact .cons (by rw[zr2 (zaw h e (by intro z;cases z))];exact h) ih
theorem znb {H:Hp} {a p C dx:Addr} {fs:List (Str × V)} {xs:List V} (h:H p=some (.lst xs)) (e:H a=some (.ins C dx fs)):wo H a p=some (.lst xs):=by
 rw[zr2 (zaw h e (by intro z;cases z))];exact h
theorem LP.wo {K:W.Frag} {H:Hp} {a p C dx:Addr} {fs:List (Str × V)} {l:List (Int × Int)} (h:LP K H p l) (e:H a=some (.ins C dx fs)):LP K (L2.wo H a) p l:=by
 obtain ⟨xs,h1,h2,h3⟩:=h
 exact ⟨xs,znb h1 e,zsj h2 e,h3⟩
theorem zcu {H H2:Hp} {a:Addr} {o:HO} (s:Same H H2):Same (wo H a) (wo (upd H2 a o) a):=by
 rw[zcM]
 exact zsJ s
noncomputable def tot (q:Int->Bool) (l:List (Int × Int)):Int:=((l.filter fun s=>q s.1).map (·.2)).sum
theorem zd3 (q:Int->Bool) (s:Int × Int) (l:List (Int × Int)):tot q (s::l)=(if q s.1 then s.2 else 0)+tot q l:=by
 unfold tot
 by_cases h:q s.1=true
 ·rw[ybf (by simpa using h),if_pos h];simp
 ·rw[ybg (by simpa using h),if_neg h];simp
theorem zhh (s:Int × Int) (l:List (Int × Int)) (n:Int):Sby.sm (s::l) n=(if s.1=n then s.2 else 0)+Sby.sm l n:=by
 have:=zd3 (fun k=>decide (k=n)) s l
 simpa [tot,Sby.sm] using this
theorem zlA (q:Int->Bool) (n:Int):∀ l:List (Int × Int),tot q l=(if q n then Sby.sm l n else 0)+tot q (l.filter fun s=>decide (s.1≠n))
 | []=>by simp[tot,Sby.sm]
 | s::l=>by
  rw[zd3,zlA q n l,zhh]
  by_cases e:s.1=n
  ·rw[ybg (by simpa using e),if_pos e,e]
   split <;> ac_rfl
  ·rw[ybf (by simpa using e),if_neg e,zd3]
   split <;> split <;> ac_rfl
theorem ztr {n d:Int} (h:d≠n) (l:List (Int × Int)):Sby.sm (l.filter fun s=>decide (s.1≠n)) d=Sby.sm l d:=by
 induction l with
 | nil=>rfl
 | cons s l ih =>
  by_cases e:s.1=n
  ·rw[ybg (by simpa using e),zhh,if_neg (by ac_rfl),ih];ac_rfl
  ·rw[ybf (by simpa using e),zhh,zhh,ih]
theorem zm7 (q:Int->Bool):∀ (ns:List Int) (l:List (Int × Int)),ns.Nodup->(∀ p∈l,p.1∈ns)->tot q (ns.map fun d=>(d,Sby.sm l d))=tot q l
 | [],l,_,h=>by
  cases l with
  | nil=>rfl
  | cons s l=>exact absurd (h s yao) (by simp)
 | n::ns,l,nd,h=>by
  obtain ⟨n1,n2⟩:=ybj.mp nd
  rw[ybs,zd3,zlA q n l,<-zm7 q ns (l.filter fun s=>decide (s.1≠n)) n2 fun p hp=>?_]
  ·congr 2
   apply ycm
   intro d hd
   rw[ztr (fun (e:d=n)=>n1 (by rw[<-e];exact hd))]
  ·obtain ⟨h1,h2⟩:=yba.mp hp
   rcases yak.mp (h p h1) with e | e
   ·exact absurd e (by simpa using h2)
   ·exact e
theorem zqY {r l:List (Int × Int)} (T:Sby.Tab r l):r=(r.map (·.1)).map fun d=>(d,Sby.sm l d):=by
 rw[ycb]
 conv=>lhs;rw[<-List.map_id r]
 apply ycm
 intro p hp
 show p=(p.1,Sby.sm l p.1)
 rw[<-T.val p hp]
theorem zs4 {r l:List (Int × Int)} (T:Sby.Tab r l) (q:Int->Bool):tot q r=tot q l:=by
 rw[zqY T]
 exact zm7 q _ l (Sby.zfd T.up) fun p hp=>(T.mem p.1).mpr (yav hp)
noncomputable def mvp (f:Int->Int) (l:List (Int × Int)):List (Int × Int):=l.map fun s=>(f s.1,s.2)
theorem zpF (f:Int->Int) (l:List (Int × Int)) (k:Int):Sby.sm (mvp f l) k=tot (fun d=>decide (f d=k)) l:=by
 induction l with
 | nil=>rfl
 | cons s l ih =>
  show Sby.sm ((f s.1,s.2)::mvp f l) k=_
  rw[zhh,zd3,ih]
  by_cases e:f s.1=k
  ·rw[if_pos e,if_pos (by simpa using e)]
  ·rw[if_neg e,if_neg (by simpa using e)]
theorem zst {r r2 l:List (Int × Int)} (f:Int->Int) (T:Sby.Tab r l) (T2:Sby.Tab r2 (mvp f r)):Sby.Tab r2 (mvp f l):=by
 have k:∀ l:List (Int × Int),(mvp f l).map (·.1)=(l.map (·.1)).map f:=fun l=>by unfold mvp;rw[ycb,ycb];rfl
 refine ⟨T2.up,fun d=>(T2.mem d).trans ?_,fun p hp=>?_⟩
 ·rw[k,k]
  constructor
  ·intro h
   obtain ⟨x,hx,e⟩:=yah.mp h
   exact yah.mpr ⟨x,(T.mem x).mp hx,e⟩
  ·intro h
   obtain ⟨x,hx,e⟩:=yah.mp h
   exact yah.mpr ⟨x,(T.mem x).mpr hx,e⟩
 ·rw[T2.val p hp,zpF,zpF,zs4 T]
noncomputable def mvd (l:List (Int × Int)) (d:Int):Int:=Classical.choose (Stills.zjy (l:=l) d)
theorem zp8 (l:List (Int × Int)) (d:Int):Stills.Free l d (mvd l d):=Classical.choose_spec (Stills.zjy (l:=l) d)
theorem zqs {l:List (Int × Int)} {d m:Int} (h:Stills.Free l d m):m=mvd l d:=h.one (zp8 l d)
theorem zs2 {l r:List (Int × Int)} (h:∀ d,Spans.Cov l d↔Spans.Cov r d):mvd l=mvd r:=funext fun d=>zqs ((zp8 l d).cov h)
structure zfB (b:BkT):Prop where
 outs:Sby.Tab b.outs (prs "out" b.es)
 fees:Sby.Tab b.fees (prs "fee" b.es)
 pays:Sby.Tab b.pays (prs "pay" b.es)
 turns:Days b.turns (dys "turn" b.es)
 rates:Stills.TabOf (prs "rate" b.es) b.rates/\b.rates=(b.rates.map (·.1)).map (fun d=>(d,Sums.valOf (prs "rate" b.es) d))
 lates:Stills.TabOf (prs "late" b.es) b.lates/\b.lates=(b.lates.map (·.1)).map (fun d=>(d,Sums.valOf (prs "late" b.es) d))
 spans:Spans.Joined b.spans/\∀ d,Spans.Cov b.spans d↔Spans.Cov (prs "still" b.es) d
 dues:Sby.Tab b.dues (mvp (mvd (prs "still" b.es)) (prs "due" b.es))
def RtW (w:Str):Prop:=w = "rate" \/ w = "late"
theorem rtl {w:Str} {k:Ek} {d x:Int} (hw:RtW w) (h:isW w (k,d,x)=true):ybx ("rate" : Str) (zhu k d x)=some (V.int x):=by
 have e:k.word=w:=V.str.inj (of_decide_eq_true h)
 subst e
 rcases hw with hw | hw <;> (cases k <;> first | rfl | (exfalso;revert hw;decide))
theorem stl {k:Ek} {d x:Int} (h:isW "still" (k,d,x)=true):ybx ("until" : Str) (zhu k d x)=some (V.int x):=by
 have e:k.word = "still" := V.str.inj (of_decide_eq_true h)
 cases k <;> first | rfl | (exfalso;revert e;decide)
theorem zrl (l:List (Int × Int)) (d:Int):Spans.Cov (l.filter fun s=>decide (s.1<s.2)) d↔Spans.Cov l d:=by
 constructor
 ·rintro ⟨s,hs,h⟩
  exact ⟨s,(yba.mp hs).1,h⟩
 ·rintro ⟨s,hs,h1,h2⟩
  exact ⟨s,yba.mpr ⟨hs,by simp;ac_rfl⟩,h1,h2⟩
theorem zsk {w:Str} {es:List Er}:(prs w es).length<=es.length:=by
 unfold prs
 rw[yab]
 exact ybb _ _
theorem tyC {K:W.Frag} {H:Hp} {a:Addr} {kd:Kd} (cl:Cls K (cA K kd.cls)) (I:zre K (cA K kd.cls)) (h:zb9 K H a kd):zcd K H (.ref a) (.ref (cA K kd.cls)):=by
 obtain ⟨dx,e⟩:=h
 exact .ins e cl I.ha I.hn I.htk I.hm
theorem comp_map {α:Type} {J:It} {ix:List Nat} {te:TE} {σ:St} {l:Addr} {xs:List V} {H:Hp} {R:Hp->Prop} (Y:ziw J H xs) (hl:H l=none) (hz:xs.length<=sizeLine) (es:List α) (len:es.length=xs.length)
  (P:Hp->V->α->Prop) (mono:∀ v e H1 H2,Same H1 H2->P H1 v e->P H2 v e) (put:∀ v e H1 ys zs,H1 l=some (.lst ys)->P H1 v e->P (upd H1 l (.lst zs)) v e)
  (he:∀ (i:Nat) x e H' Q',xs[i]?=some x->es[i]?=some e->Same H H'->(∀ v H2,Same H' H2->P H2 v e->Q' v H2)->te (some x::capts σ ix) H' Q')
  (fin:∀ ys H',Same H H'->H' l=some (.lst ys)->LL (P H') ys es->R H') :
  ∃ W:Nat->Nat->List V->Hp->Prop,(∃ m,W 0 m [] (upd H l (.lst [])))/\Turns ix te σ J l R W:=by
 refine zru Y hl hz (fun i v H'=>∃ e,es[i]?=some e/\P H' v e) (fun i v H1 H2 s ⟨e,e1,e2⟩=>⟨e,e1,mono v e _ _ s e2⟩) (fun i v H1 ys zs hL ⟨e,e1,e2⟩=>⟨e,e1,put v e _ _ _ hL e2⟩) ?_ ?_
 ·intro i x H' Q' hx sH hq
  have il:i<es.length:=by rw[len];exact (yad.mp hx).1
  have eP:es[i]?=some (es[i]'il):=yaa il
  exact he i x _ H' Q' hx eP sH fun v H2 s2 pv=>hq v H2 s2 ⟨_,eP,pv⟩
 ·intro ys H' sH eL yl hp
  exact fin ys H' sH eL (LL.of (by ac_rfl) hp)
theorem zrS {K:W.Frag} {H:Hp} {f:Int->Int} {ys:List V} {l:List (Int × Int)} (h:LL (fun v s=>∃ t,v=.ref t/\H t=some (.tup [.int (f s.1),.int s.2])) ys l):zx K H ys (mvp f l):=by
 induction h with
 | nil=>exact .nil
 | cons h _ ih =>
  obtain ⟨t,rfl,e⟩:=h
  exact .cons e ih
theorem zp1 {α:Type} {J:It} {ix:List Nat} {tt:TT} {te:TE} {σ:St} {l:Addr} {xs:List V} {H:Hp} {R:Hp->Prop} (Y:ziw J H xs) (hl:H l=none) (hz:xs.length<=sizeLine) (es:List α) (len:es.length=xs.length)
  (f:α->Bool) (P:Hp->V->α->Prop) (mono:∀ v e H1 H2,Same H1 H2->P H1 v e->P H2 v e) (put:∀ v e H1 ys zs,H1 l=some (.lst ys)->P H1 v e->P (upd H1 l (.lst zs)) v e)
  (ht:∀ (i:Nat) x e H' Q',xs[i]?=some x->es[i]?=some e->Same H H'->(∀ H2,Same H' H2->Q' (f e) H2)->tt (some x::capts σ ix) H' Q')
  (he:∀ (i:Nat) x e H' Q',xs[i]?=some x->es[i]?=some e->f e=true->Same H H'->(∀ v H2,Same H' H2->P H2 v e->Q' v H2)->te (some x::capts σ ix) H' Q')
  (fin:∀ ys H',Same H H'->H' l=some (.lst ys)->LL (P H') ys (es.filter f)->R H') :
  ∃ W:Nat->Nat->List V->Hp->Prop,(∃ m,W 0 m [] (upd H l (.lst [])))/\zjb ix tt te σ J l R W:=by
 refine ⟨fun i m ys H'=>m=xs.length-i/\i<=xs.length/\LL (P H') ys ((es.take i).filter f)/\Same H H'/\H' l=some (.lst ys),⟨xs.length,by simp,ycz _,by simp;exact .nil,ze hl _,zh⟩,?_⟩
 rintro i m ys H' ⟨rfl,hi,hy,sH,hL⟩
 refine ⟨hL,?_⟩
 by_cases hlt:i<xs.length
 ·have eP:es[i]?=some (es[i]'(by ac_rfl)):=yaa (by ac_rfl)
  generalize es[i]'(by ac_rfl)=e at eP
  have tk:es.take (i+1)=es.take i++[e]:=by rw[yaz,eP];rfl
  refine .inr ⟨Y.go i H' sH hlt,by
   have:ys.length<=i:=by
    rw[hy.length]
    exact ydb (ybb _ _) (by rw[yat];ac_rfl)
   ac_rfl,fun x H2 y=>?_⟩
  obtain ⟨rfl,e2⟩:=Y.yld i H' x H2 sH y
  refine ht i x e _ _ e2 eP sH fun H4 s4=>?_
  have sH4:=sH.trans s4
  have hL4:=s4 _ _ hL
  have hy4:=hy.imp fun v e q=>mono v e _ _ s4 q
  cases b:f e with
  | true =>
   rw[if_pos rfl]
   refine he i x e _ _ e2 eP b sH4 fun v H3 s3 pv=>?_
   have hL3:=s3 _ _ hL4
   refine ⟨hL3,xs.length-(i+1),by ac_rfl,rfl,hlt,?_,zJ (sH4.trans s3) hl,zh⟩
   rw[tk,ybq,ybf b]
   exact ((hy4.imp fun v e q=>put v e H3 ys _ hL3 (mono v e _ _ s3 q)).push (put v e H3 ys _ hL3 pv))
  | false =>
   rw[if_neg Bool.false_ne_true]
   refine ⟨xs.length-(i+1),by ac_rfl,rfl,hlt,?_,sH4,hL4⟩
   rw[tk,ybq,ybg (by rw[b];decide)]
   simpa using hy4
 ·rw[yay (by ac_rfl)] at hy
  exact .inl ⟨Y.stop i H' sH (by ac_rfl),fin ys H' sH hL hy⟩
end L2
namespace L2
open PySem
structure Few (es:List Er):Prop where
 len:es.length<=500
 pr:∀ w:Str,w ≠ "turn" -> (prs w es).length<=61
 td:∃ td:List Int,td.length<=61/\∀ d∈dys "turn" es,d∈td
structure zcr (ds:List Int):Prop where
 l1:1<=ds.length
 l2:ds.length<=360
 up:ds.Pairwise (·<·)
 in_:∀ d∈ds,0<=d/\d<=999999
theorem ztL {w:Str} (h:AmW w):w ≠ "turn" := by
 rcases h with rfl | rfl | rfl | rfl <;> decide +kernel
theorem ztq {w:Str} (h:RtW w):w ≠ "turn" := by
 rcases h with rfl | rfl <;> decide +kernel
theorem znC:("still" : Str) ≠ "turn" := by decide +kernel
theorem zmK:("due" : Str) ≠ "turn" := by decide +kernel
theorem zj7:("out" : Str) ≠ "turn" := by decide +kernel
theorem znr:("fee" : Str) ≠ "turn" := by decide +kernel
theorem ztg:("pay" : Str) ≠ "turn" := by decide +kernel
noncomputable def dyB:V->Bool
 | .int i=>decide (0<=i) && decide (i<=999999)
 | _=>false
noncomputable def iv:V->Int
 | .int i=>i
 | _=>0
def rise (xs:List V) (i:Nat):Bool:=decide (iv (xs.getD i .non)<iv (xs.getD (i+1) .non))
def zbp (xs:List V):Bool:=(decide (1<=xs.length/\xs.length<=360) && (xs.map dyB).all id) && ((yaq (xs.length-1)).map (rise xs)).all id
def zdL (K:W.Frag) (H:Hp) (x:V):Prop:=(∃ T,zam K H x T/\T ≠ "list")\/∃ p xs,x=.ref p/\H p=some (.lst xs)/\xs.length<=1000/\(∀ v∈xs,∃ T,zam K H v T)/\zbp xs=false
theorem zdL.same {K:W.Frag} {H H':Hp} {x:V} (h:zdL K H x) (s:Same H H'):zdL K H' x:=by
 rcases h with ⟨T,a,b⟩ | ⟨p,xs,a,b,c,d,e⟩
 ·exact .inl ⟨T,a.same s,b⟩
 ·exact .inr ⟨p,xs,a,s _ _ b,c,fun v hv=>let ⟨T,q⟩:=d v hv;⟨T,q.same s⟩,e⟩
theorem ztw {xs:List V} {v:V} (m:v∈xs) (h:dyB v=false):zbp xs=false:=by
 unfold zbp
 rw[show (xs.map dyB).all id=false from ?_,Bool.and_false];rfl
 rw[Bool.eq_false_iff]
 intro q
 have:=ycn.mp q (dyB v) (yav m)
 rw[h] at this
 cases this
theorem zrn {xs:List V} (h:360<xs.length):zbp xs=false:=by
 unfold zbp
 rw[decide_eq_false (by ac_rfl)];rfl
theorem zrP {xs:List V} {i:Nat} {a b:Int} (h1:xs[i]?=some (.int a)) (h2:xs[i+1]?=some (.int b)) (h:b<=a):zbp xs=false:=by
 unfold zbp
 rw[show ((yaq (xs.length-1)).map (rise xs)).all id=false from ?_,Bool.and_false]
 rw[Bool.eq_false_iff]
 intro q
 have il:i+1<xs.length:=(yad.mp h2).1
 have:=ycn.mp q (rise xs i) (yav (yct.mpr (by ac_rfl)))
 have r:iv (xs.getD i .non)<iv (xs.getD (i+1) .non):=of_decide_eq_true this
 rw[yac,yac,h1,h2] at r
 have r':a<b:=r
 ac_rfl
def zhq (K:W.Frag) (H:Hp) (x y:V):Prop:=(∃ T,zam K H x T)/\(∃ T,zam K H y T)/\(dyB x=false\/dyB y=false\/∃ d z,x=.int d/\y=.int z/\z<d)
theorem zhq.same {K:W.Frag} {H H':Hp} {x y:V} (h:zhq K H x y) (s:Same H H'):zhq K H' x y:=by
 obtain ⟨⟨T,a⟩,⟨U,b⟩,c⟩:=h
 exact ⟨⟨T,a.same s⟩,⟨U,b.same s⟩,c⟩
theorem znk {ys:List V} (p:∀ (j:Nat) v,ys[j]?=some v->∃ n,v=.int n):∃ gs:List Int,ys=gs.map V.int:=⟨ys.map iv,by
 apply ybn
 intro j
 rw[yaf,yaf]
 cases e:ys[j]? with
 | none=>rfl
 | some v =>
  obtain ⟨n,rfl⟩:=p j v e
  rfl⟩
theorem zf7 {K:W.Frag} {H:Hp} (ds:List Int):∀ v∈ds.map V.int,∃ T,zam K H v T:=fun v hv=>by
 obtain ⟨d,_,rfl⟩:=yah.mp hv
 exact zfI d
end L2
namespace L2
open PySem
noncomputable abbrev T3:=Int × Int × Int
noncomputable def mn (a b:Int):Int:=if b<a then b else a
noncomputable def sum2 (l:List (Int × Int)):Int:=(l.map (·.2)).sum
noncomputable def zt5 (day paid t:Int) (s:Int × Int):List T3:=if s.1<=day/\mn s.2 (t+s.2-paid) > 0 then [(s.1,s.2,mn s.2 (t+s.2-paid))] else []
noncomputable def opn (day paid:Int):Int->List (Int × Int)->List T3
 | _,[]=>[]
 | t,s::l=>zt5 day paid t s++opn day paid (t+s.2) l
theorem zqd (l:List (Int × Int)) (s:Int × Int):sum2 (l++[s])=sum2 l+s.2:=by simp[sum2]
noncomputable def p0 (a:Int):Int:=if a > 0 then a else 0
theorem zpM (s:Int × Int) (l:List (Int × Int)) (x:Int):upto (s::l) x=(if s.1<=x then s.2 else 0)+upto l x:=by
 have:=zd3 (fun k=>decide (k<=x)) s l
 simpa [tot,upto] using this
theorem zlz {l:List (Int × Int)} {x:Int} (h:∀ s∈l,x<s.1):upto l x=0:=by
 unfold upto
 rw[ybw.mpr (fun s hs=>by have:=h s hs;simp;ac_rfl)]
 rfl
end L2
namespace L2
open PySem
theorem zkH (d x:Int):∀ r:List (Int × Int),(∀ s∈r,s.1<=x->s.1<=d)\/∃ s∈r,d<s.1/\s.1<=x/\∀ u∈r,u.1<=x->u.1<=s.1
 | []=>.inl fun s hs=>by cases hs
 | a::r=>by
  by_cases c:d<a.1/\a.1<=x
  ·right
   rcases zkH d x r with h | ⟨s,hs,h1,h2,h3⟩
   ·refine ⟨a,by simp,c.1,c.2,fun u hu z=>?_⟩
    rcases yak.mp hu with rfl | hu
    ·exact yds _
    ·have:=h u hu z;ac_rfl
   ·by_cases c2:s.1<=a.1
    ·refine ⟨a,by simp,c.1,c.2,fun u hu z=>?_⟩
     rcases yak.mp hu with rfl | hu
     ·exact yds _
     ·have:=h3 u hu z;ac_rfl
    ·refine ⟨s,yan _ hs,h1,h2,fun u hu z=>?_⟩
     rcases yak.mp hu with rfl | hu
     ·ac_rfl
     ·exact h3 u hu z
  ·rcases zkH d x r with h | ⟨s,hs,h1,h2,h3⟩
   ·left
    intro u hu z
    rcases yak.mp hu with rfl | hu
    ·ac_rfl
    ·exact h u hu z
   ·right
    refine ⟨s,yan _ hs,h1,h2,fun u hu z=>?_⟩
    rcases yak.mp hu with rfl | hu
    ·ac_rfl
    ·exact h3 u hu z
theorem zkQ {r:List (Int × Int)} {x y:Int} (h:∀ s∈r,s.1<=x↔s.1<=y):upto r x=upto r y:=by
 unfold upto
 rw[List.filter_congr (q:=fun s=>decide (s.1<=y)) fun s hs=>decide_eq_decide.mpr (h s hs)]
noncomputable def runs:Int->List (Int × Int)->List (Int × Int)
 | _,[]=>[]
 | t,s::l=>(s.1,t+s.2)::runs (t+s.2) l
theorem zlw:∀ (l:List (Int × Int)) (t:Int) (s:Int × Int),runs t (l++[s])=runs t l++[(s.1,t+sum2 l+s.2)]
 | [],t,s=>by simp[runs,sum2]
 | u::l,t,s=>by
  simp only[List.cons_append,runs,zlw l]
  have:t+u.2+sum2 l+s.2=t+sum2 (u::l)+s.2:=by simp[sum2];ac_rfl
  rw[this]
theorem zda:∀ (l:List (Int × Int)) (t:Int),(runs t l).map (·.1)=l.map (·.1)
 | [],t=>rfl
 | s::l,t=>by simp[runs,zda l]
theorem zrE (l:List (Int × Int)) (t:Int):(runs t l).length=l.length:=by
 have:=congrArg List.length (zda l t)
 rwa [yab,yab] at this
theorem znt:∀ {l:List (Int × Int)} (t:Int),((l.map (·.1)).Pairwise (·<·))->∀ s∈runs t l,s.2=t+upto l s.1
 | [],t,_,s,h=>by simp[runs] at h
 | a::l,t,up,s,h=>by
  rw[ybs,yci] at up
  simp only[runs] at h
  rw[zpM]
  rcases yak.mp h with rfl | h
  ·rw[if_pos (yds _),zlz fun u hu=>up.1 u.1 (yav hu)]
   simp
  ·have hk:s.1∈l.map (·.1):=by rw[<-zda l (t+a.2)];exact yav h
   have:=up.1 _ hk
   rw[znt (t+a.2) up.2 s h,if_pos (by ac_rfl)]
   ac_rfl
theorem zqi {l:List (Int × Int)} (h:(l.map (·.1)).Pairwise (·<·)):l.Pairwise fun s t=>s.1<t.1:=by rwa [yby] at h
theorem zmy {r:List (Int × Int)} (up:(r.map (·.1)).Pairwise (·<·)) (nn:∀ s∈r,0<=s.1) (d:Int):Sums.valOf (runs 0 r) d=upto r d:=by
 have keys:=zda r 0
 have upr:(runs 0 r).Pairwise fun s t=>s.1<t.1:=zqi (by rw[keys];exact up)
 have t0:∀ s∈runs 0 r,0<=s.1:=fun s hs=>by
  have:s.1∈r.map (·.1):=by rw[<-keys];exact yav hs
  obtain ⟨u,hu,e⟩:=yah.mp this
  rw[<-e];exact nn u hu
 refine Sums.Val.one (Sums.zc5 t0 d) ?_
 rcases zkH (-1) d r with k | ⟨s,hs,h1,h2,h3⟩
 ·have far:∀ s∈r,d<s.1:=fun s hs=>by
   have:=nn s hs
   rcases Int.lt_or_le d s.1 with c | c
   ·exact c
   ·have:=k s hs c;ac_rfl
  refine .inl ⟨zlz far,fun s hs=>?_⟩
  have:s.1∈r.map (·.1):=by rw[<-keys];exact yav hs
  obtain ⟨u,hu,e⟩:=yah.mp this
  rw[<-e];exact far u hu
 ·have:s.1∈(runs 0 r).map (·.1):=by rw[keys];exact yav hs
  obtain ⟨u,hu,e⟩:=yah.mp this
  obtain ⟨n,hn⟩:=ybe.mp hu
  have uv:=znt 0 up u hu
  rw[zkQ (y:=s.1) fun v hv=>⟨h3 v hv,fun z=>by ac_rfl⟩]
  refine .inr ⟨n,s.1,by rw[hn];rw[<-e];congr 1;exact Prod.ext rfl (by rw[uv];simp),h2,fun j v hv le=>?_⟩
  have hvk:v.1∈r.map (·.1):=by rw[<-keys];exact yav (yai hv)
  obtain ⟨w,hw,ew⟩:=yah.mp hvk
  have:=h3 w hw (by ac_rfl)
  rcases ydd j n with c | c | c
  ·have:=Stills.zm2 upr hv hn c;left;ac_rfl
  ·subst c
   rw[hn] at hv
   cases hv
   right;exact ⟨e,ycv _⟩
  ·have:=Stills.zm2 upr hn hv c;ac_rfl
end L2
namespace L2
open PySem PySem.Spec PyProof.Rows
open AutoSeq1 (wpAny_loadPart')
theorem zj4 (l:Addr) (items:Array Value) (n:Nat) (b:Addr) (items2:Array Value) (n2:Nat) (dd:Option Addr) (ss:Array (Option Value)) (hs0:¬(!items.isEmpty && Builtin.List.listTooLong (items.size+items2.size))=true) (hs1:items.size<=sizeLine) (hs2:items.size+items2.size<=sizeLine+1) :
  Meets (Builtin.«list.extend» ⟨[.ref l,.ref b],[]⟩) (fun _ R s=>s.heap.get? l=some { cls:=.type "list", dict:=none,data:=.seq items n,slots:=#[] }/\s.heap.get? b=some { cls:=.type "tuple", dict:=dd,data:=.seq items2 n2,slots:=ss }/\R (.ok (.ret Value.none)) { s with heap:=s.heap.update l (Obj.mapSeq fun x=>x++items2),toks:=s.toks }) :=
 .of_wp fun prog w A R s h=>by
  obtain ⟨hp,g,d,tk,os⟩:=s;obtain ⟨hl,hb,h⟩:=h;have f1:=AutoSeq1.idx_int;have f2:=sub_tuple_tuple;have f3:=sub_list_list;have f4:=sub_tuple_list;have f5:=sub_list_tuple;
  have hz':(items++items2).size<=sizeLine+1:=by rw[Array.size_append];exact hs2
  wp_walk using (wpAny_updateSeq hl rfl (hz:=hs1) (_hz':=hz')),wpAny_loadPart' hl,wpAny_loadPart' hb;exact ⟨_,rfl,h⟩
noncomputable def zri:V->List V->Hp->VK->Prop:=fun x vs H Q=>∃ l b xs zs,x=.ref l/\vs=[.ref b]/\H l=some (.lst xs)/\H b=some (.tup zs)/\xs.length+zs.length<=sizeLine/\Q .non (upd H l (.lst (xs++zs)))
theorem zpm {X:Cx}:MtM X "list.extend" zri:=by
 intro pins s σ H x vs v us Q I rx rv h
 obtain ⟨l,b,xs,zs,rfl,rfl,hH,hB,hz,q⟩:=h
 cases rx
 obtain ⟨u,rfl,ru⟩:=rv.one
 cases ru
 obtain ⟨z,its,n,r,hl,e⟩:=I.zjQ hH
 obtain ⟨z2,its2,r2,tp⟩:=(show zX X.prog X.w H s.heap b (.tup zs) from I.hok b _ hB)
 have hl2:=r2.length
 obtain ⟨⟨c,dd,dt,ss⟩,e2,oc,n2,od⟩:=(show s.heap.IsTuple b its2.toArray from tp)
 replace oc:c=.type "tuple" := oc
 replace od:dt=.seq its2.toArray n2:=od
 subst oc od
 have hsz:its.toArray.size+its2.toArray.size<=sizeLine:=by rw[yal,yal];ac_rfl
 have hlong:¬ (!its.toArray.isEmpty && Builtin.List.listTooLong (its.toArray.size+its2.toArray.size))=true:=by
  rw[zjR hsz,Bool.and_false]
  exact Bool.false_ne_true
 refine call_meets F.slot_list_extend ⟨_,e,rfl⟩ F.entry_list_extend (F.args_list_extend_2 _ _)
  (zj4 l its.toArray n b its2.toArray n2 dd ss hlong (by rw[yal];ac_rfl) (by ac_rfl)) ⟨e,e2,?_⟩
 refine ⟨.non,_,I.lset (its':=its++its2) hH e (by simp) (r.append r2) ?_,rfl,q⟩
 rw[yae]
 ac_rfl
end L2
namespace L2
open PySem
noncomputable def csum (U f:Int->Int) (a b:Int):Int:=Sums.sum (fun d=>(U (d+1)-U d)*f d) a b
theorem zj2 {U f:Int->Int} {a b c:Int} (h1:a<=c) (h2:c<=b):csum U f a b=csum U f a c+csum U f c b:=Sums.sum_add h1 h2
theorem zhn {U f:Int->Int} {a b:Int} (h:b<=a):csum U f a b=0:=Sums.ztp h
theorem zqA {U f:Int->Int} {x y:Int} (xy:x<=y) (h:∀ d,x<=d->d<y->f d=f x):csum U f x y=(U y-U x)*f x:=Sums.zqT xy fun d h1 h2=>by rw[h d h1 h2]
noncomputable def ze6 (b:BkT) (d:Int):Int:=if Spans.isIn b.spans d then 0 else Sums.valOf b.rates d
noncomputable def ze1 (b:BkT) (d:Int):Int:=if Spans.isIn b.spans d then 0 else Sums.valOf b.lates d
noncomputable def zd8 (b:BkT) (d:Int):Int:=if Spans.isIn b.spans d then 0 else p0 (upto b.dues (d-b.g)-upto b.pays d)
noncomputable def zaj (b:BkT) (P d:Int):Int:=ze6 b d*P+ze1 b d*mn P (zd8 b d)
def TDay (b:BkT) (t:Int):Prop:=t=0\/(∃ s∈b.rates++b.lates++b.pays,t=s.1)\/(∃ s∈b.dues,t=s.1+b.g)\/∃ s∈b.spans,t=s.1\/t=s.2
theorem stay {b:BkT} {x z:Int} (xz:x<=z) (h:∀ t,TDay b t->¬ (x<t/\t<=z)):ze6 b z=ze6 b x/\ze1 b z=ze1 b x/\zd8 b z=zd8 b x:=by
 have i1:Spans.isIn b.spans x=Spans.isIn b.spans z:=Stills.zsY (fun _=>Iff.rfl) xz fun s hs e q1 q2=>⟨fun k=>h e (.inr (.inr (.inr ⟨s,hs,.inl k⟩))) ⟨q1,q2⟩,fun k=>h e (.inr (.inr (.inr ⟨s,hs,.inr k⟩))) ⟨q1,q2⟩⟩
 have r1:Sums.valOf b.rates x=Sums.valOf b.rates z:=Stills.zmu xz fun s hs q=>h s.1 (.inr (.inl ⟨s,yag.mpr (.inl (yag.mpr (.inl hs))),rfl⟩)) q
 have l1:Sums.valOf b.lates x=Sums.valOf b.lates z:=Stills.zmu xz fun s hs q=>h s.1 (.inr (.inl ⟨s,yag.mpr (.inl (yag.mpr (.inr hs))),rfl⟩)) q
 have p1:upto b.pays z=upto b.pays x:=zkQ fun s hs=>by
  have:=h s.1 (.inr (.inl ⟨s,yag.mpr (.inr hs),rfl⟩))
  ac_rfl
 have d1:upto b.dues (z-b.g)=upto b.dues (x-b.g):=zkQ fun s hs=>by
  have:=h (s.1+b.g) (.inr (.inr (.inl ⟨s,hs,rfl⟩)))
  ac_rfl
 unfold ze6 ze1 zd8
 rw[i1,r1,l1,p1,d1]
 exact ⟨rfl,rfl,rfl⟩
theorem zp0 {b:BkT} {P x z:Int} (xz:x<=z) (h:∀ t,TDay b t->¬ (x<t/\t<=z)):zaj b P z=zaj b P x:=by
 obtain ⟨h1,h2,h3⟩:=stay xz h
 unfold zaj
 rw[h1,h2,h3]
structure BOk (b:BkT):Prop where
 ru:b.rates.Pairwise fun s t=>s.1<t.1
 rn:∀ s∈b.rates,0<=s.1/\0<=s.2/\s.2<=1000000
 lu:b.lates.Pairwise fun s t=>s.1<t.1
 ln:∀ s∈b.lates,0<=s.1/\0<=s.2/\s.2<=1000000
 pu:(b.pays.map (·.1)).Pairwise (·<·)
 pn:∀ s∈b.pays,0<=s.1
 du:(b.dues.map (·.1)).Pairwise (·<·)
 dn:∀ s∈b.dues,0<=s.1
 jn:Spans.Joined b.spans
 sn:∀ s∈b.spans,0<=s.1
 g0:0<=b.g
 sz:b.rates.length+b.lates.length+b.pays.length+b.dues.length+2*b.spans.length<63
theorem zqw {t:List (Int × Int)} (h:∀ s∈t,0<=s.1/\0<=s.2/\s.2<=1000000) (d:Int):0<=Sums.valOf t d/\Sums.valOf t d<=1000000:=by
 rcases Sums.zc5 (fun s hs=>(h s hs).1) d with ⟨e,_⟩ | ⟨i,x,e,_⟩
 ·rw[e];exact ⟨yds _,by decide⟩
 ·exact (h _ (yai e)).2
theorem BOk.rt {b:BkT} (O:BOk b) (d:Int):0<=ze6 b d/\ze6 b d<=1000000:=by
 unfold ze6
 split
 ·exact ⟨yds _,by decide⟩
 ·exact zqw O.rn d
theorem BOk.lt {b:BkT} (O:BOk b) (d:Int):0<=ze1 b d/\ze1 b d<=1000000:=by
 unfold ze1
 split
 ·exact ⟨yds _,by decide⟩
 ·exact zqw O.ln d
noncomputable def shf (g:Int) (l:List (Int × Int)):List (Int × Int):=l.map fun s=>(s.1+g,s.2)
theorem zrF (g:Int) (l:List (Int × Int)) (d:Int):upto (shf g l) d=upto l (d-g):=by
 unfold upto shf
 rw[List.filter_map,ycb]
 congr 1
 rw[List.filter_congr (q:=fun s=>decide (s.1<=d-g)) fun s hs=>by
  show decide (s.1+g<=d)=decide (s.1<=d-g)
  exact decide_eq_decide.mpr ⟨fun h=>by ac_rfl,fun h=>by ac_rfl⟩]
 rfl
theorem zql {g:Int} {l:List (Int × Int)} (h:(l.map (·.1)).Pairwise (·<·)):((shf g l).map (·.1)).Pairwise (·<·):=by
 unfold shf
 rw[ycb]
 rw[yby] at h ⊢
 exact h.imp fun {a b} z=>by show a.1+g<b.1+g;ac_rfl
noncomputable def R4 (b:BkT) (H:Hp):List V->List Int->Prop:=LL fun v d=>∃ t,v=.ref t/\H t=some (.tup [.int d,.int (ze6 b d),.int (ze1 b d),.int (zd8 b d)])
theorem R4.same {b:BkT} {H H':Hp} {xs:List V} {l:List Int} (h:R4 b H xs l) (s:Same H H'):R4 b H' xs l:=LL.imp (fun v e ⟨t,e1,e2⟩=>⟨t,e1,s _ _ e2⟩) h
theorem R4.put {b:BkT} {H:Hp} {xs ys zs:List V} {l:List Int} {p:Addr} (h:R4 b H xs l) (hp:H p=some (.lst ys)):R4 b (upd H p (.lst zs)) xs l:=LL.imp (fun v e ⟨t,e1,e2⟩=>⟨t,e1,by rw[zp (zaw e2 hp (by intro z;cases z))];exact e2⟩) h
noncomputable def RF (H:Hp):List V->List Int->Prop:=LL fun v d=>∃ t ws,v=.ref t/\H t=some (.tup (.int d::ws))
theorem R4.rf {b:BkT} {H:Hp} {xs:List V} {l:List Int} (h:R4 b H xs l):RF H xs l:=LL.imp (fun v e ⟨t,e1,e2⟩=>⟨t,_,e1,e2⟩) h
theorem zoQ {K:W.Frag} {H:Hp} {xs:List V} {l:List (Int × Int)} (h:zx K H xs l):RF H xs (l.map (·.1)):=by
 induction h with
 | nil=>exact .nil
 | cons h _ ih=>exact .cons ⟨_,_,rfl,h⟩ ih
structure zlb (ds:List Int) (d:Int) (n:Nat):Prop where
 le:n<=ds.length
 lo:∀ i x,i<n->ds[i]?=some x->x<=d
 hi:∀ i x,n<=i->ds[i]?=some x->d<x
theorem zlb.rows {l:List (Int × Int)} {d:Int} {n:Nat} (h:zlb (l.map (·.1)) d n):Stills.Begun l d n :=
 ⟨by have:=h.le;rwa [yab] at this,fun i s hi hs=>h.lo i s.1 hi (by rw[yaf,hs];rfl),fun i s hi hs=>h.hi i s.1 hi (by rw[yaf,hs];rfl)⟩
theorem zcx {ds:List Int} (up:ds.Pairwise (·<·)) {i j:Nat} {s t:Int} (hs:ds[i]?=some s) (ht:ds[j]?=some t) (ij:i<j):s<t:=by
 obtain ⟨hi,rfl⟩:=yad.mp hs
 obtain ⟨hj,rfl⟩:=yad.mp ht
 exact yar.mp up i j hi hj ij
theorem zqk {b:BkT} {P:Int} {U:Int->Int} {ds:List Int} (mem:∀ d,d∈ds↔TDay b d) (up:ds.Pairwise (·<·)) {st e x:Int} {n:Nat} (hx:ds[n]?=some x) (h1:x<=st) (h2:st<=e) (h3:∀ y,ds[n+1]?=some y->e<=y):csum U (zaj b P) st e=(U e-U st)*zaj b P x:=by
 have none:∀ z,x<=z->z<e->∀ t,TDay b t->¬ (x<t/\t<=z):=fun z h4 h5 t ht q=>by
  obtain ⟨j,hj⟩:=ybe.mp ((mem t).mpr ht)
  have jn:n<j:=by
   rcases ydd n j with c | c | c
   ·exact c
   ·subst c;rw[hx] at hj;have:=Option.some.inj hj;ac_rfl
   ·have:=zcx up hj hx c;ac_rfl
  have jl:=(yad.mp hj).1
  have hy:ds[n+1]?=some (ds[n+1]'(by ac_rfl)):=yaa (by ac_rfl)
  have hh:=h3 _ hy
  by_cases c:j=n+1
  ·subst c;rw[hj] at hy;have:=Option.some.inj hy;ac_rfl
  ·have:=zcx up hy hj (by ac_rfl);ac_rfl
 have e1:∀ z,x<=z->z<e->zaj b P z=zaj b P x:=fun z h4 h5=>zp0 h4 (none z h4 h5)
 rcases Int.lt_or_le st e with c | c
 ·rw[zqA h2 fun d d1 d2=>by rw[e1 d (by ac_rfl) d2,e1 st h1 c],e1 st h1 c]
 ·have:st=e:=by ac_rfl
  subst this
  rw[zhn (yds _),Int.sub_self,Int.zero_mul]
theorem zhY {K:W.Frag} {H:Hp} {xs ys:List V} {l r:List (Int × Int)} (h:zx K H xs l) (k:zx K H ys r):zx K H (xs++ys) (l++r):=by
 induction h with
 | nil=>exact k
 | cons h _ ih=>exact .cons h ih
end L2
namespace L2
open PySem
theorem zns:∀ {xs ys:List Int},xs.Nodup->(∀ x∈xs,x∈ys)->xs.length<=ys.length
 | [],_,_,_=>ycz _
 | x::xs,ys,nd,h=>by
  have hx:=h x yao
  obtain ⟨nx,nd'⟩:=ybj.mp nd
  have:=zns (ys:=ys.erase x) nd' fun z hz=>(List.mem_erase_of_ne (fun (q:z=x)=>nx (by rw[<-q];exact hz))).mpr (h z (yan _ hz))
  rw[List.length_erase_of_mem hx] at this
  have:=List.length_pos_of_mem hx
  rw[ybk]
  ac_rfl
end L2
namespace L2
open PySem
noncomputable abbrev Q4:=Int × Int × Int × Int
noncomputable def ddE (es:List Er) (d:Int):Q4:=(Sby.sm (prs "out" es) d,Sby.sm (prs "fee" es) d,if d∈dys "turn" es then 1 else 0,Sby.sm (prs "pay" es) d)
noncomputable def ddo (b:BkT) (d:Int):Q4:=ddE b.es d
noncomputable def doD (u:Int) (q:Q4) (s:Int × Int):Int × Int :=
 let s1:=Dbt.step u .lend q.1 s.1 s.2
 let s2:=Dbt.step u .fee q.2.1 s1.1 s1.2
 let s3:=if q.2.2.1=1 then Dbt.step u .turn 0 s2.1 s2.2 else s2
 Dbt.step u .take q.2.2.2 s3.1 s3.2
theorem zq4 {u:Int} {q:Q4} {s:Int × Int} (hu:0<u) (l0:0<=q.1) (g:Dbt.Good u s.1 s.2):Dbt.Good u (doD u q s).1 (doD u q s).2:=by
 unfold doD
 have g1:=Dbt.zdc (w:=.lend) hu (show Dbt.Okd .lend q.1 from l0) g
 have g2:=Dbt.zdc (w:=.fee) (x:=q.2.1) hu True.intro g1
 dsimp only
 split
 ·exact Dbt.zdc (w:=.take) hu True.intro (Dbt.zdc (w:=.turn) (x:=0) hu True.intro g2)
 ·exact Dbt.zdc (w:=.take) hu True.intro g2
theorem clamp {u m n:Int} (g:Dbt.Good u m n):Dbt.mn m (Dbt.mx 0 (n / u))=m:=by
 have h:=g.2
 unfold Dbt.mn
 rw[if_neg (by ac_rfl)]
theorem zq8 {u:Int} {s:Int × Int} (g:Dbt.Good u s.1 s.2):doD u (0,0,0,0) s=s:=by
 obtain ⟨m,n⟩:=s
 have c:Dbt.mn m (Dbt.mx 0 (n / u))=m:=clamp g
 simp[doD,Dbt.step,c]
section
variable (U:Int->Int) (u:Int) (b:BkT)
noncomputable def stB:Nat->Int × Int
 | 0=>(0,0)
 | k+1=>let s:=doD u (ddo b k) (stB k);(s.1,s.2+(U (k+1)-U k)*zaj b s.1 k)
noncomputable def stA (k:Nat):Int × Int:=doD u (ddo b k) (stB U u b k)
def zkW (d:Int):Prop:=ddo b d=(0,0,0,0)
end
structure AOk (U:Int->Int) (u:Int) (b:BkT):Prop where
 hu:0<u
 out0:∀ d,0<=Sby.sm (prs "out" b.es) d
 up:∀ d:Nat,U d<=U (d+1)
 ok:BOk b
section
variable {U:Int->Int} {u:Int} {b:BkT}
theorem lk0 (d:Int):0<=zd8 b d:=by
 unfold zd8 p0
 split
 ·exact yds _
 ·split <;> ac_rfl
theorem zuu (O:BOk b) {P:Int} (p:0<=P) (d:Int):0<=zaj b P d:=by
 unfold zaj
 have h1:=O.rt d
 have h2:=O.lt d
 have h3:=lk0 (b:=b) d
 have h4:0<=mn P (zd8 b d):=by unfold mn;split <;> ac_rfl
 have:=Int.mul_nonneg h1.1 p
 have:=Int.mul_nonneg h2.1 h4
 ac_rfl
theorem zmD (A:AOk U u b):∀ k,Dbt.Good u (stB U u b k).1 (stB U u b k).2
 | 0=>Dbt.good0 u
 | k+1=>by
  have g:=zq4 (q:=ddo b k) A.hu (A.out0 k) (zmD A k)
  have w:0<=(U (k+1)-U k)*zaj b (doD u (ddo b k) (stB U u b k)).1 k:=Int.mul_nonneg (by have:=A.up k;ac_rfl) (zuu A.ok g.1 k)
  exact Dbt.zdc (w:=.grow) A.hu (show Dbt.Okd .grow _ from w) g
theorem zrq (A:AOk U u b) {k:Nat} (h:zkW b k):stA U u b k=stB U u b k:=by
 unfold stA
 rw[h]
 exact zq8 (zmD A k)
theorem zm9 (k:Nat):stB U u b (k+1)=((stA U u b k).1,(stA U u b k).2+(U (k+1)-U k)*zaj b (stA U u b k).1 k):=rfl
theorem znj (f:Int->Int) (a:Int):csum U f a (a+1)=(U (a+1)-U a)*f a:=by
 unfold csum Sums.sum
 rw[show (a+1-a).toNat=1 by ac_rfl]
 simp[Sums.S]
theorem run (A:AOk U u b) (s:Nat):∀ n:Nat,(∀ k:Nat,s<=k->k<s+n->zkW b k)->stB U u b (s+n)=((stB U u b s).1,(stB U u b s).2+csum U (zaj b (stB U u b s).1) s (s+n:Nat))
 | 0,_=>by rw[zhn (by ac_rfl)];simp
 | n+1,h=>by
  have ih:=run A s n fun k h1 h2=>h k h1 (by ac_rfl)
  rw[show s+(n+1)=(s+n)+1 from rfl,zm9,zrq A (h (s+n) (by ac_rfl) (by ac_rfl)),ih]
  have e2:csum U (zaj b (stB U u b s).1) s (((s+n)+1:Nat):Int)=csum U (zaj b (stB U u b s).1) s ((s+n:Nat):Int)+(U (((s+n:Nat):Int)+1)-U ((s+n:Nat):Int))*zaj b (stB U u b s).1 ((s+n:Nat):Int):=by
   rw[show (((s+n)+1:Nat):Int)=((s+n:Nat):Int)+1 by ac_rfl,zj2 (a:=(s:Int)) (b:=((s+n:Nat):Int)+1) (c:=((s+n:Nat):Int)) (by ac_rfl) (by ac_rfl),znj]
  rw[e2]
  exact Prod.ext rfl (Int.add_assoc ..)
theorem first (A:AOk U u b) {e:Int} (e0:0<=e) (h:∀ d,0<=d->d<e->zkW b d):stB U u b e.toNat=(0,0+csum U (zaj b 0) 0 e):=by
 have r:=run A 0 e.toNat fun k _ h2=>h k (by ac_rfl) (by ac_rfl)
 rw[show ((0+e.toNat:Nat):Int)=e by ac_rfl,Nat.zero_add] at r
 exact r
theorem next (A:AOk U u b) {s e:Int} (s0:0<=s) (se:s<e) (h:∀ d,s<d->d<e->zkW b d):stB U u b e.toNat=((stA U u b s.toNat).1,(stA U u b s.toNat).2+csum U (zaj b (stA U u b s.toNat).1) s e):=by
 have r:=run A (s.toNat+1) (e-s-1).toNat fun k h1 h2=>h k (by ac_rfl) (by ac_rfl)
 rw[show s.toNat+1+(e-s-1).toNat=e.toNat by ac_rfl,zm9] at r
 have e2:csum U (zaj b (stA U u b s.toNat).1) s e=(U (s+1)-U s)*zaj b (stA U u b s.toNat).1 s+csum U (zaj b (stA U u b s.toNat).1) (s+1) e:=by
  rw[zj2 (a:=s) (b:=e) (c:=s+1) (by ac_rfl) (by ac_rfl),znj]
 rw[r,e2,show ((s.toNat:Nat):Int)=s by ac_rfl,show ((e.toNat:Nat):Int)=e by ac_rfl,show (((s.toNat+1:Nat)):Int)=s+1 by ac_rfl]
 exact Prod.ext rfl (Int.add_assoc ..)
end
theorem stored_new {l:List (Int × Int)} {k y:Int} (h:k ∉ l.map (·.1)):zac l k y=l++[(k,y)]:=by
 unfold zac
 rw[if_neg]
 intro z
 obtain ⟨p,hp,e⟩:=ycg.mp z
 exact h (yah.mpr ⟨p,hp,by simpa using e⟩)
theorem zoH:∀ (l acc:List (Int × Int)),((acc++l).map (·.1)).Nodup->l.foldl (fun acc s=>zac acc s.1 s.2) acc=acc++l
 | [],acc,_=>by simp
 | s::l,acc,h=>by
  rw[ybz,stored_new]
  ·rw[zoH l (acc++[(s.1,s.2)]) (by simpa using h)]
   simp
  ·intro z
   rw[yas,yck] at h
   exact h.2.2 s.1 z s.1 (by simp) rfl
theorem zlo {l:List (Int × Int)} (h:(l.map (·.1)).Nodup):zcX l=l:=by
 have:=zoH l [] (by simpa using h)
 simpa [zcX] using this
theorem zro {r l:List (Int × Int)} (T:Sby.Tab r l):Sby.Tot r l:=⟨Sby.zfd T.up,T.mem,T.val⟩
theorem zkU {r l:List (Int × Int)} (T:Sby.Tab r l) (k:Int):((lkI (zcX r) k).map V.int).getD (.int 0)=.int (Sby.sm l k):=by
 rw[zlo (Sby.zfd T.up)]
 exact (zro T).look k
theorem zq3 {ns:List Int} (nd:ns.Nodup) (k:Int):((lkI (zcX (ns.map fun d=>(d,1))) k).map V.int).getD (.int 0)=.int (if k∈ns then 1 else 0):=by
 rw[zlo (by rw[ycb,show ((fun x:Int × Int=>x.1) ∘ fun d:Int=>(d,(1:Int)))=id from rfl,List.map_id];exact nd)]
 unfold lkI
 by_cases c:k∈ns
 ·rw[if_pos c]
  have:(ns.map fun d=>(d,(1:Int))).find? (fun p=>decide (p.1=k))=some (k,1):=by
   clear nd
   induction ns with
   | nil=>cases c
   | cons n ns ih =>
    rw[ybs]
    by_cases e:n=k
    ·subst e;rw[ybu (by simp)]
    ·rw[ybv (by simpa using e)]
     exact ih ((yak.mp c).resolve_left fun z=>e z.symm)
  rw[this];rfl
 ·rw[if_neg c,List.find?_eq_none.mpr]
  ·rfl
  ·intro p hp e
   obtain ⟨d,hd,rfl⟩:=yah.mp hp
   have:d=k:=by simpa using e
   exact c (this ▸ hd)
noncomputable def R5 (b:BkT) (H:Hp):List V->List Int->Prop:=LL fun v d=>∃ t,v=.ref t/\H t=some (.tup [.int d,.int (ddo b d).1,.int (ddo b d).2.1,.int (ddo b d).2.2.1,.int (ddo b d).2.2.2])
theorem R5.same {b:BkT} {H H':Hp} {xs:List V} {l:List Int} (h:R5 b H xs l) (s:Same H H'):R5 b H' xs l:=LL.imp (fun v e ⟨t,e1,e2⟩=>⟨t,e1,s _ _ e2⟩) h
def DDay (b:BkT) (d:Int):Prop:=d∈(b.outs++b.fees++b.pays).map (·.1)\/d∈b.turns
theorem zqH {b:BkT} (I:zfB b) {d:Int} (h:¬ DDay b d):zkW b d:=by
 unfold DDay at h
 rw[yas,yas,yag,yag] at h
 have h1:d ∉ b.outs.map (·.1):=fun z=>h (.inl (.inl (.inl z)))
 have h2:d ∉ b.fees.map (·.1):=fun z=>h (.inl (.inl (.inr z)))
 have h3:d ∉ b.pays.map (·.1):=fun z=>h (.inl (.inr z))
 have h4:d ∉ dys "turn" b.es:=fun z=>h (.inr ((I.turns.mem d).mpr z))
 unfold zkW ddo ddE
 rw[if_neg h4,Sby.zi7 (fun z=>h1 ((I.outs.mem d).mpr z)),Sby.zi7 (fun z=>h2 ((I.fees.mem d).mpr z)),Sby.zi7 (fun z=>h3 ((I.pays.mem d).mpr z))]
noncomputable def DbL (K:W.Frag) (u:Int) (f:Int->Int × Int) (p:Addr) (G H:Hp):List V->List Int->Prop:=LL fun v d=>∃ x dx,v=.ref x/\(x≠p/\G x=none)/\Deb K H x dx u (f d).1 (f d).2
theorem DbL.same {K:W.Frag} {u:Int} {f:Int->Int × Int} {p:Addr} {G H H':Hp} {xs:List V} {l:List Int} (h:DbL K u f p G H xs l) (s:Same H H'):DbL K u f p G H' xs l:=LL.imp (fun v e ⟨x,dx,e1,e2,e3⟩=>⟨x,dx,e1,e2,s _ _ e3⟩) h
theorem DbL.old {K:W.Frag} {u:Int} {f:Int->Int × Int} {p:Addr} {G G' H:Hp} {xs:List V} {l:List Int} (h:DbL K u f p G H xs l) (s:Same G' G):DbL K u f p G' H xs l:=LL.imp (fun v e ⟨x,dx,e1,e2,e3⟩=>⟨x,dx,e1,⟨e2.1,zD s e2.2⟩,e3⟩) h
theorem DbL.put {K:W.Frag} {u:Int} {f:Int->Int × Int} {p:Addr} {G H:Hp} {o:HO} {xs:List V} {l:List Int} (h:DbL K u f p G H xs l):DbL K u f p G (upd H p o) xs l:=LL.imp (fun v e ⟨x,dx,e1,e2,e3⟩=>⟨x,dx,e1,e2,by show (upd H p o) x=_;rw[zp e2.1];exact e3⟩) h
theorem DbL.putL {K:W.Frag} {u:Int} {f:Int->Int × Int} {p q:Addr} {G H:Hp} {o:HO} {xs ys:List V} {l:List Int} (h:DbL K u f p G H xs l) (hq:H q=some (.lst ys)):DbL K u f p G (upd H q o) xs l:=LL.imp (fun v e ⟨x,dx,e1,e2,e3⟩=>⟨x,dx,e1,e2,Deb.putL e3 hq⟩) h
theorem znS {l:List (Int × V)} {k:Int} {y:V} (h:k ∉ l.map (·.1)):zd4 l k y=l++[(k,y)]:=by
 unfold zd4
 rw[if_neg]
 intro z
 obtain ⟨p,hp,e⟩:=ycg.mp z
 exact h (yah.mpr ⟨p,hp,by simpa using e⟩)
theorem zoz:∀ (l acc:List (Int × V)),((acc++l).map (·.1)).Nodup->l.foldl (fun acc s=>zd4 acc s.1 s.2) acc=acc++l
 | [],acc,_=>by simp
 | s::l,acc,h=>by
  rw[ybz,znS]
  ·rw[zoz l (acc++[(s.1,s.2)]) (by simpa using h)]
   simp
  ·intro z
   rw[yas,yck] at h
   exact h.2.2 s.1 z s.1 (by simp) rfl
theorem zqa {l:List (Int × V)} (h:(l.map (·.1)).Nodup):zo3 l=l:=by
 have:=zoz l [] (by simpa using h)
 simpa [zo3] using this
theorem zou:∀ {ds:List Int} {ws:List V},ds.length=ws.length->ds.Nodup->∀ {i:Nat} {d:Int} {v:V},ds[i]?=some d->ws[i]?=some v->lkV (ds.zip ws) d=some v
 | [],_,_,_,i,d,v,e,_=>by simp at e
 | x::ds,[],len,_,_,_,_,_,_=>by simp at len
 | x::ds,y::ws,len,nd,i,d,v,e1,e2=>by
  unfold lkV
  rw[List.zip_cons_cons]
  cases i with
  | zero =>
   cases e1;cases e2
   rw[ybu (by simp)];rfl
  | succ i =>
   have hd:d∈ds:=yai e1
   obtain ⟨n1,n2⟩:=ybj.mp nd
   rw[ybv (by simp;intro z;exact n1 (z ▸ hd))]
   exact zou (by simpa using len) n2 e1 e2
structure ztf (U:Int->Int) (u:Int) (b:BkT):Prop where
 is:zfB b
 ok:AOk U u b
 sz:b.outs.length+b.fees.length+b.pays.length+b.turns.length<=40
 d0:∀ d,DDay b d->0<=d
 u1:u<1152921504606846976
theorem zgo {α:Type} {lo:Int} {n:Nat} {ix:List Nat} {te:TE} {σ:St} {l:Addr} {H:Hp} {R:Hp->Prop} (hl:H l=none) (hz:n<=sizeLine) (es:List α) (len:es.length=n)
  (P:Hp->V->α->Prop) (mono:∀ v e H1 H2,Same H1 H2->P H1 v e->P H2 v e) (put:∀ v e H1 ys zs,H1 l=some (.lst ys)->P H1 v e->P (upd H1 l (.lst zs)) v e)
  (he:∀ (i:Nat) e H' Q',i<n->es[i]?=some e->Same H H'->(∀ v H2,Same H' H2->P H2 v e->Q' v H2)->te (some (.int (lo+i))::capts σ ix) H' Q')
  (fin:∀ ys H',Same H H'->H' l=some (.lst ys)->LL (P H') ys es->R H') :
  ∃ W:Nat->Nat->List V->Hp->Prop,(∃ m,W 0 m [] (upd H l (.lst [])))/\Turns ix te σ (Itr lo n) l R W:=by
 refine ⟨fun i m ys H'=>m=n-i/\i<=n/\LL (P H') ys (es.take i)/\Same H H'/\H' l=some (.lst ys),⟨n,by simp,ycz _,.nil,ze hl _,zh⟩,?_⟩
 rintro i m ys H' ⟨rfl,hi,hp,sH,hL⟩
 refine ⟨hL,?_⟩
 by_cases hlt:i<n
 ·have yl:=hp.length
  rw[yat] at yl
  refine .inr ⟨hlt,by ac_rfl,fun x H2 y=>?_⟩
  obtain ⟨rfl,rfl⟩:=y
  have eP:es[i]?=some (es[i]'(by ac_rfl)):=yaa (by ac_rfl)
  generalize es[i]'(by ac_rfl)=e at eP
  refine he i e _ _ hlt eP sH fun v H3 s3 hv=>⟨s3 _ _ hL,n-(i+1),by ac_rfl,rfl,hlt,?_,zJ (sH.trans s3) hl,zh⟩
  rw[yaz,eP]
  exact (hp.imp fun v e q=>put v e H3 ys _ (s3 _ _ hL) (mono v e _ _ s3 q)).push (put v e H3 ys _ (s3 _ _ hL) hv)
 ·rw[yay (by ac_rfl)] at hp
  exact .inl ⟨by show n<=i;ac_rfl,fin ys H' sH hL hp⟩
end L2
namespace L2
open PySem PySem.Spec PyProof.Rows
noncomputable def zto (es:List Er) (f:Int->Int × Int) (d:Int):List Int:=[d,(ddE es d).1,(ddE es d).2.1,(ddE es d).2.2.1,(ddE es d).2.2.2,(f d).1,(f d).2]
noncomputable def R7 (g:Int->List Int) (H:Hp):List V->List Int->Prop:=LL fun v d=>∃ t,v=.ref t/\H t=some (.tup ((g d).map V.int))
end L2
namespace L2
open PySem
noncomputable def zjO (l:List (Int × Int)):List Er:=(l.filter fun s=>decide (s.2 > 0)).map fun s=>(.pay,s.1,s.2)
theorem zrC (l:List (Int × Int)):(zjO l).length<=l.length:=by
 unfold zjO
 rw[yab]
 exact ybb _ _
end L2
namespace L2
open PySem PySem.Spec PyProof.Rows
end L2
namespace L2
open PySem
noncomputable def evn (ds:List Int) (x:Int):List (Int × Int):=ds.map fun d=>(d,x)
end L2
namespace L2
open PySem
def Kpt (es:List Er):Prop:=∀ e∈es,e.1=.pay\/e.1=.turn
theorem zng {w:Str} {es:List Er} (h:Kpt es) (h1:w ≠ "pay") (h2:w ≠ "turn"):prs w es=[]:=by
 unfold prs
 rw[ybw.mpr fun e he q=>?_]
 ·rfl
 have e1:e.1.word=w:=V.str.inj (of_decide_eq_true q)
 rcases h e he with k | k
 ·rw[k] at e1;exact h1 e1.symm
 ·rw[k] at e1;exact h2 e1.symm
structure Tb (n:Nat) (b:BkT):Prop where
 is:zfB b
 g:0<=b.g/\b.g<=366
 d0:∀ e∈b.es,0<=e.2.1
 len:b.es.length<=500
 kp:Kpt b.es
 pl:(prs "pay" b.es).length<=n
 td:∀ d∈dys "turn" b.es,d∈([0,1,2,3,4,5]:List Int)
theorem zkS {r:List (Int × Int)} (T:Sby.Tab r []):r=[]:=by
 cases r with
 | nil=>rfl
 | cons s r=>exact absurd ((T.mem s.1).mp (yav yao)) (by simp)
theorem ztu {es fs:List Er} {n:Nat} (k:Kpt (es++fs)) (len:es.length+fs.length<=500) (pl:(prs "pay" (es++fs)).length<=n) (hn:n<=10) (td:∀ d∈dys "turn" (es++fs),d∈([0,1,2,3,4,5]:List Int)):Few (es++fs):=by
 refine ⟨by rw[yae];exact len,fun w hw=>?_,_,(by decide),td⟩
 by_cases e:w = "pay"
 ·subst e;ac_rfl
 ·rw[zng k e hw];exact ycz _
section
variable {n:Nat} {b:BkT} (T:Tb n b)
include T
theorem Tb.no {w:Str} (h1:w ≠ "pay") (h2:w ≠ "turn"):prs w b.es=[]:=zng T.kp h1 h2
theorem Tb.outs:b.outs=[]:=zkS (by have:=T.is.outs;rwa [T.no (by decide +kernel) zj7] at this)
theorem Tb.fees:b.fees=[]:=zkS (by have:=T.is.fees;rwa [T.no (by decide +kernel) znr] at this)
theorem Tb.dues:b.dues=[]:=zkS (by have:=T.is.dues;rwa [T.no (w:="due") (by decide +kernel) zmK] at this)
theorem Tb.rates:b.rates=[]:=by
 have h:=T.is.rates.1
 rw[T.no (by decide +kernel) (by decide +kernel)] at h
 cases e:b.rates with
 | nil=>rfl
 | cons s r =>
  obtain ⟨u,hu,_⟩:=(h.days s.1).mp ⟨s,by rw[e];exact yao,rfl⟩
  cases hu
theorem Tb.lates:b.lates=[]:=by
 have h:=T.is.lates.1
 rw[T.no (by decide +kernel) (by decide +kernel)] at h
 cases e:b.lates with
 | nil=>rfl
 | cons s r =>
  obtain ⟨u,hu,_⟩:=(h.days s.1).mp ⟨s,by rw[e];exact yao,rfl⟩
  cases hu
theorem Tb.spans:b.spans=[]:=by
 have h:=T.is.spans
 rw[T.no (by decide +kernel) znC] at h
 cases e:b.spans with
 | nil=>rfl
 | cons s r =>
  rw[e] at h
  obtain ⟨u,hu,_⟩:=(h.2 s.1).mp ⟨s,yao,yds _,h.1.up s yao⟩
  cases hu
theorem Tb.pays:b.pays.length<=n:=by
 have:=zns (Sby.zfd T.is.pays.up) fun k hk=>(T.is.pays.mem k).mp hk
 rw[yab,yab] at this
 exact ydb this T.pl
theorem Tb.turns:b.turns.length<=6:=by
 have:=zns (Sby.zfd T.is.turns.up) (ys:=[0,1,2,3,4,5]) fun k hk=>T.td k ((T.is.turns.mem k).mp hk)
 exact this
theorem Tb.from (w:Str):∀ s∈prs w b.es,0<=s.1:=fun s hs=>by
 obtain ⟨e,he,rfl⟩:=yah.mp hs
 exact T.d0 e (yba.mp he).1
theorem Tb.bk {U:Int->Int} {u:Int} (hn:n<=10) (up:∀ d:Nat,U d<=U (d+1)) (hu:0<u) (u1:u<1152921504606846976):ztf U u b:=by
 have pl:=T.pays
 have tl:=T.turns
 have nn:∀ s∈b.pays,0<=s.1:=fun s hs=>by
  obtain ⟨v,hv,e⟩:=yah.mp ((T.is.pays.mem s.1).mp (yav hs))
  have:=T.from _ v hv
  ac_rfl
 refine ⟨T.is,⟨hu,fun d=>by rw[T.no (by decide +kernel) zj7];exact yds _,up,?_⟩,by rw[T.outs,T.fees];simp only[List.length_nil];ac_rfl,fun d hd=>?_,u1⟩
 ·exact ⟨by rw[T.rates];exact .nil,by rw[T.rates];simp,by rw[T.lates];exact .nil,by rw[T.lates];simp,T.is.pays.up,nn,T.is.dues.up,by rw[T.dues];simp,T.is.spans.1,by rw[T.spans];simp,T.g.1,by rw[T.rates,T.lates,T.dues,T.spans];simp only[List.length_nil];ac_rfl⟩
 ·rcases hd with hd | hd
  ·rw[T.outs,T.fees,List.nil_append,List.nil_append] at hd
   obtain ⟨s,hs,rfl⟩:=yah.mp hd
   exact nn s hs
  ·obtain ⟨e,he,e1⟩:=yah.mp ((T.is.turns.mem d).mp hd)
   have:=T.d0 e (yba.mp he).1
   ac_rfl
end
theorem Tb.zero {b:BkT} (T:Tb 0 b) {U:Int->Int} {u:Int} (k:Nat):stA U u b k=(0,0):=by
 have pn:prs "pay" b.es=[]:=List.eq_nil_of_length_eq_zero (by have:=T.pl;ac_rfl)
 have dz:∀ d:Int,doD u (ddo b d) (0,0)=(0,0):=fun d=>by
  unfold ddo ddE
  rw[T.no (by decide +kernel) zj7,T.no (by decide +kernel) znr,pn]
  show doD u ((0:Int),(0:Int),_,(0:Int)) (0,0)=(0,0)
  split <;> simp[doD,Dbt.step,Dbt.mn,Dbt.mx,Sby.sm]
 have bz:∀ k,stB U u b k=(0,0):=fun k=>by
  induction k with
  | zero=>rfl
  | succ k ih =>
   show ((doD u (ddo b k) (stB U u b k)).1,(doD u (ddo b k) (stB U u b k)).2+(U (k+1)-U k)*zaj b (doD u (ddo b k) (stB U u b k)).1 k)=(0,0)
   rw[ih,dz]
   have:zaj b 0 k=0:=by
    have h:=lk0 (b:=b) k
    unfold zaj
    rw[show mn 0 (zd8 b k)=0 by unfold mn;split <;> ac_rfl]
    simp
   show ((0:Int),(0:Int)+(U (k+1)-U k)*zaj b 0 k)=(0,0)
   rw[this];simp
 unfold stA
 rw[bz,dz]
end L2
namespace L2
open PySem
theorem zrp (w:Str) (a b:List Er):prs w (a++b)=prs w a++prs w b:=by unfold prs;rw[ybq,yas]
theorem zrA (w:Str) (a b:List Er):dys w (a++b)=dys w a++dys w b:=by unfold dys;rw[ybq,yas]
theorem zrI (l:List (Int × Int)):dys "turn" (zjO l)=[]:=by
 unfold dys
 rw[ybw.mpr fun e he q=>?_]
 ·rfl
 obtain ⟨s,_,rfl⟩:=yah.mp he
 exact absurd (show isW "turn" (.pay,0,0)=true from q) (by decide)
structure TbM (es:List Er) (n:Nat):Prop where
 len:es.length<=500
 kp:Kpt es
 pl:(prs "pay" es).length<=n
 td:∀ d∈dys "turn" es,d∈([0,1,2,3,4,5]:List Int)
 d0:∀ e∈es,0<=e.2.1
theorem Tb.more {b:BkT} (T:Tb 0 b) {ds:List Int} (x:Int) (dl:ds.length<=2) (el:b.es.length+ds.length<=500) (d0:∀ d∈ds,0<=d):TbM (b.es++zjO (evn ds x)) 2:=by
 have pl:=zrC (evn ds x)
 have vl:(evn ds x).length=ds.length:=yab ..
 have p0:=T.pl
 refine ⟨by rw[yae];ac_rfl,fun e he=>?_,?_,fun d hd=>?_,fun e he=>?_⟩
 ·rcases yag.mp he with he | he
  ·exact T.kp e he
  ·obtain ⟨s,_,rfl⟩:=yah.mp he
   exact .inl rfl
 ·rw[zrp,yae]
  have:=zsk (w:="pay") (es:=zjO (evn ds x))
  ac_rfl
 ·rw[zrA,zrI,ybi] at hd
  exact T.td d hd
 ·rcases yag.mp he with he | he
  ·exact T.d0 e he
  ·obtain ⟨s,hs,rfl⟩:=yah.mp he
   obtain ⟨d,hd,rfl⟩:=yah.mp (yba.mp hs).1
   exact d0 d hd
theorem TbM.few {es:List Er} {n:Nat} (T:TbM es n) (hn:n<=10):Few es:=by
 have:=ztu (es:=es) (fs:=[]) (n:=n) (by rw[ybi];exact T.kp) (by have:=T.len;simpa using this) (by rw[ybi];exact T.pl) hn (by rw[ybi];exact T.td)
 rwa [ybi] at this
theorem TbM.tb {b:BkT} {n:Nat} (T:TbM b.es n) (I:zfB b) (g:0<=b.g/\b.g<=366):Tb n b:=⟨I,g,T.d0,T.len,T.kp,T.pl,T.td⟩
theorem zcr.last {ds:List Int} (D:zcr ds):∃ ms z,ds=ms++[z]/\atI (ds.map V.int) (-1)=some (.int z)/\0<=z/\z<=999999:=by
 have l1:=D.l1
 have ne:ds≠[]:=fun z=>by rw[z] at l1;exact absurd l1 (by decide)
 obtain ⟨ms,z,rfl⟩:∃ ms z,ds=ms++[z]:=⟨_,_,(List.dropLast_concat_getLast ne).symm⟩
 exact ⟨ms,z,rfl,by rw[yas];exact zrR _ _,D.in_ z (by simp)⟩
noncomputable def trn (ds:List Int):List Er:=ds.map fun d=>(.turn,d,0)
theorem zpV {ds:List Int} (len:ds.length<=500) (h:∀ d∈ds,d∈([0,1,2,3,4,5]:List Int)):TbM (trn ds) 0:=by
 have pn:prs "pay" (trn ds)=[]:=by
  unfold prs
  rw[ybw.mpr fun e he q=>?_]
  ·rfl
  obtain ⟨d,_,rfl⟩:=yah.mp he
  exact absurd (show isW "pay" (.turn,0,0)=true from q) (by decide)
 have i0:∀ d∈ds,0<=d:=fun d hd=>by
  have:=h d hd
  simp at this
  ac_rfl
 refine ⟨by unfold trn;rw[yab];exact len,fun e he=>?_,by rw[pn];exact ycv _,fun d hd=>?_,fun e he=>?_⟩
 ·obtain ⟨d,_,rfl⟩:=yah.mp he
  exact .inr rfl
 ·obtain ⟨e,he,rfl⟩:=yah.mp hd
  obtain ⟨d',hd',rfl⟩:=yah.mp (yba.mp he).1
  exact h d' hd'
 ·obtain ⟨d,hd,rfl⟩:=yah.mp he
  exact i0 d hd
theorem zqg (n:Nat) (h:n<=3):TbM (trn ((yaq n).map fun j:Nat=>(j:Int) % 5)) 0:=zpV (by rw[yab,ybo];ac_rfl) fun d hd=>by
 obtain ⟨j,hj,rfl⟩:=yah.mp hd
 have:=yct.mp hj
 simp
 ac_rfl
theorem zrG (n:Nat) (h:n<=500):TbM (trn (yam n 5)) 0:=zpV (by rw[ycj];exact h) fun d hd=>by
 obtain ⟨_,rfl⟩:=List.mem_replicate.mp hd
 simp
end L2
namespace Cal
def leap (y:Int):Bool:=decide (y % 4=0) && (!decide (y % 100=0) || decide (y % 400=0))
noncomputable def lp (y:Int):Int:=if leap y=true then 1 else 0
noncomputable def mlen (y m:Int):Int:=if m=2 then 28+lp y else 31-(m-1) % 7 % 2
noncomputable def ny (y:Int):Int:=365*(y-2000)+(y-2000+3) / 4-(y-2000+99) / 100+(y-2000+399) / 400
noncomputable def cum (y m:Int):Int :=
 if m=1 then 0 else if m=2 then 31 else
 lp y+(if m=3 then 59 else if m=4 then 90 else if m=5 then 120 else if m=6 then 151 else if m=7 then 181 else if m=8 then 212
  else if m=9 then 243 else if m=10 then 273 else if m=11 then 304 else 334)
noncomputable def num (y m d:Int):Int:=ny y+cum y m+d-1
structure zpD (y m d:Int):Prop where
 m1:1<=m
 m2:m<=12
 d1:1<=d
 d2:d<=mlen y m
theorem st4 (y:Int):(y+1-2000+3) / 4=(y-2000+3) / 4+(if y % 4=0 then 1 else 0):=by split <;> ac_rfl
theorem zt2 (y:Int):(y+1-2000+99) / 100=(y-2000+99) / 100+(if y % 100=0 then 1 else 0):=by split <;> ac_rfl
theorem zum (y:Int):(y+1-2000+399) / 400=(y-2000+399) / 400+(if y % 400=0 then 1 else 0):=by split <;> ac_rfl
theorem zti {y b d f p q r:Int}:365*(y+1-2000)+(b+p)-(d+q)+(f+r)=365*(y-2000)+b-d+f+365+(p-q+r):=by ac_rfl
theorem zul (y:Int):lp y=(if y % 4=0 then 1 else 0)-(if y % 100=0 then 1 else 0)+(if y % 400=0 then 1 else 0):=by
 have h1:y % 100=0->y % 4=0:=by ac_rfl
 have h2:y % 400=0->y % 100=0:=by ac_rfl
 unfold lp leap
 by_cases a:y % 4=0
 ·by_cases b:y % 100=0
  ·by_cases c:y % 400=0
   ·rw[if_pos a,if_pos b,if_pos c,decide_eq_true a,decide_eq_true b,decide_eq_true c];rfl
   ·rw[if_pos a,if_pos b,if_neg c,decide_eq_true a,decide_eq_true b,decide_eq_false c];rfl
  ·rw[if_pos a,if_neg b,if_neg (fun c=>b (h2 c)),decide_eq_true a,decide_eq_false b];rfl
 ·rw[if_neg a,if_neg (fun b=>a (h1 b)),if_neg (fun c=>a (h1 (h2 c))),decide_eq_false a];rfl
theorem zs1 (y:Int):ny (y+1)=ny y+365+lp y:=by
 unfold ny
 rw[st4,zt2,zum,zul]
 exact zti
noncomputable def zk3 (l m:Int):Int :=
 if m=1 then 0 else if m=2 then 31 else
 l+(if m=3 then 59 else if m=4 then 90 else if m=5 then 120 else if m=6 then 151 else if m=7 then 181 else if m=8 then 212
  else if m=9 then 243 else if m=10 then 273 else if m=11 then 304 else 334)
noncomputable def zi2 (l m:Int):Int:=if m=2 then 28+l else 31-(m-1) % 7 % 2
theorem zqW:∀ l:Bool,∀ k:Fin 12,(28<=zi2 l.toInt (k.val+1)/\zi2 l.toInt (k.val+1)<=31) /\
  (0<=zk3 l.toInt (k.val+1)/\zk3 l.toInt (k.val+1)+zi2 l.toInt (k.val+1)<=365+l.toInt) /\
  (k.val<11->zk3 l.toInt (k.val+1+1)=zk3 l.toInt (k.val+1)+zi2 l.toInt (k.val+1))/\zk3 l.toInt 12+zi2 l.toInt 12=365+l.toInt:=by decide
theorem lpB (y:Int):lp y=(leap y).toInt:=by unfold lp;cases leap y <;> rfl
theorem ztn {m:Int} (h1:1<=m) (h2:m<=12):∃ k:Fin 12,m=k.val+1:=⟨⟨(m-1).toNat,by ac_rfl⟩,by show m=((m-1).toNat:Int)+1;ac_rfl⟩
theorem zrJ (y m:Int):cum y m=zk3 (leap y).toInt m:=by rw[<-lpB];rfl
theorem zpy (y m:Int):mlen y m=zi2 (leap y).toInt m:=by rw[<-lpB];rfl
theorem zrc {y m:Int} (h1:1<=m) (h2:m<=11):cum y (m+1)=cum y m+mlen y m:=by
 obtain ⟨k,rfl⟩:=ztn h1 (Int.le_trans h2 (by decide))
 rw[zrJ,zrJ,zpy]
 exact (zqW (leap y) k).2.2.1 (by ac_rfl)
theorem zsU {y m:Int} (h1:1<=m) (h2:m<=12):28<=mlen y m/\mlen y m<=31:=by
 obtain ⟨k,rfl⟩:=ztn h1 h2
 rw[zpy]
 exact (zqW (leap y) k).1
theorem zs9 (y:Int):cum y 12+mlen y 12=365+lp y:=by
 rw[zrJ,zpy,lpB]
 exact (zqW (leap y) 0).2.2.2
noncomputable def ms (M:Int):Int:=ny (M / 12)+cum (M / 12) (M % 12+1)
noncomputable def ml (M:Int):Int:=mlen (M / 12) (M % 12+1)
theorem zl7 (M:Int):28<=ml M/\ml M<=31:=zsU (by ac_rfl) (by ac_rfl)
theorem zow (M:Int):ms (M+1)=ms M+ml M:=by
 unfold ms ml
 by_cases h:M % 12=11
 ·have e1:(M+1) / 12=M / 12+1:=by ac_rfl
  have e2:(M+1) % 12=0:=by ac_rfl
  rw[e1,e2,h,zs1]
  have:=zs9 (M / 12)
  simp only[show (11:Int)+1=12 by rfl]
  have e3:cum (M / 12+1) (0+1)=0:=by simp[cum]
  ac_rfl
 ·have e1:(M+1) / 12=M / 12:=by ac_rfl
  have e2:(M+1) % 12=M % 12+1:=by ac_rfl
  rw[e1,e2,zrc (by ac_rfl) (by ac_rfl)]
  ac_rfl
theorem zpH (M:Int):∀ k:Nat,ms M+k<=ms (M+k)
 | 0=>by simp
 | k+1=>by
  have h:=zpH M k
  have h2:=zow (M+k)
  have h3:=zl7 (M+k)
  have e:M+((k+1:Nat):Int)=M+k+1:=by ac_rfl
  rw[e,h2];ac_rfl
theorem zsO {M N:Int} (h:M<=N):ms M+(N-M)<=ms N:=by
 have:=zpH M (N-M).toNat
 have e:M+((N-M).toNat:Int)=N:=by ac_rfl
 rw[e] at this;ac_rfl
theorem zo6 {M N:Int} (h:M<N):ms M+ml M<=ms N:=by
 have:=zsO (show M+1<=N by ac_rfl)
 rw[zow] at this;ac_rfl
theorem zny {y m d:Int} (h1:1<=m) (h2:m<=12):num y m d=ms (12*y+m-1)+d-1:=by
 unfold num ms
 rw[show (12*y+m-1) / 12=y by ac_rfl,show (12*y+m-1) % 12+1=m by ac_rfl]
theorem ztS {y m:Int} (h1:1<=m) (h2:m<=12):ml (12*y+m-1)=mlen y m:=by
 unfold ml
 rw[show (12*y+m-1) / 12=y by ac_rfl,show (12*y+m-1) % 12+1=m by ac_rfl]
theorem between {y1 m1 d1 y2 m2 d2 k:Int} (h1:zpD y1 m1 d1) (h2:zpD y2 m2 d2) (le:num y1 m1 d1<=num y2 m2 d2)
  (hk:k=if (if mlen y2 m2<d1 then mlen y2 m2 else d1) > d2 then 12*(y2-y1)+m2-m1-1 else 12*(y2-y1)+m2-m1) :
  0<=k/\∀ (P P' L L':Int),P=12*y1+m1-1+k->P'=P+1->(L=if ml P<d1 then ml P else d1)->(L'=if ml P'<d1 then ml P' else d1) ->
   ms P+L-1<=num y2 m2 d2/\num y2 m2 d2<ms P'+L'-1:=by
 obtain ⟨a1,b1,c1,e1⟩:=h1
 obtain ⟨a2,b2,c2,e2⟩:=h2
 rw[zny a1 b1,zny a2 b2] at le
 rw[zny a2 b2]
 rw[<-ztS a1 b1] at e1
 rw[<-ztS a2 b2] at e2 hk
 generalize hM1:12*y1+m1-1=M1 at *
 generalize hM2:12*y2+m2-1=M2 at *
 have hk':k=if (if ml M2<d1 then ml M2 else d1) > d2 then M2-M1-1 else M2-M1:=by
  rw[hk];split <;> ac_rfl
 have hle:M1<=M2:=by
  by_cases q:M1<=M2
  ·exact q
  ·have:=zo6 (show M2<M1 by ac_rfl);ac_rfl
 have g:M1<M2\/M1=M2:=by ac_rfl
 have b2':=zl7 M2
 constructor
 ·rcases g with g | g
  ·rw[hk'];split <;> ac_rfl
  ·subst g
   rw[hk',if_neg]
   ·ac_rfl
   ·split <;> ac_rfl
 ·intro P P' L L' hP hP' hL hL'
  have bP:=zl7 P
  have bP':=zl7 P'
  have hL1:1<=L/\L<=ml P:=by rw[hL];split <;> ac_rfl
  have hL1':1<=L'/\L'<=ml P':=by rw[hL'];split <;> ac_rfl
  by_cases q:(if ml M2<d1 then ml M2 else d1) > d2
  ·rw[if_pos q] at hk'
   have eP:P=M2-1:=by ac_rfl
   have eP':P'=M2:=by ac_rfl
   have:=zo6 (show P<M2 by ac_rfl)
   rw[eP'] at hL' ⊢
   constructor
   ·ac_rfl
   ·rw[hL'];ac_rfl
  ·rw[if_neg q] at hk'
   have eP:P=M2:=by ac_rfl
   have eP':P'=M2+1:=by ac_rfl
   have:=zo6 (show M2<P' by ac_rfl)
   rw[eP] at hL ⊢
   constructor
   ·rw[hL];ac_rfl
   ·ac_rfl
end Cal
namespace Cnt
open Cal
noncomputable def each (y:Int):Int:=if leap y=true then 365 else 366
end Cnt
namespace Cnt
open Cal
end Cnt
namespace Cnt
open Cal
end Cnt
namespace Cnt
open Cal
end Cnt
namespace Cnt
open Cal
end Cnt
theorem L2.us1 {α:Type} {P:List α->Prop} (h:∀ a,P [a]):∀ us:List α,us.length=1->P us
 | [a],_=>h a
theorem L2.us2 {α:Type} {P:List α->Prop} (h:∀ a b,P [a,b]):∀ us:List α,us.length=2->P us
 | [a,b],_=>h a b
theorem L2.us3 {α:Type} {P:List α->Prop} (h:∀ a b c,P [a,b,c]):∀ us:List α,us.length=3->P us
 | [a,b,c],_=>h a b c
theorem L2.us4 {α:Type} {P:List α->Prop} (h:∀ a b c d,P [a,b,c,d]):∀ us:List α,us.length=4->P us
 | [a,b,c,d],_=>h a b c d
theorem L2.us5 {α:Type} {P:List α->Prop} (h:∀ a b c d e,P [a,b,c,d,e]):∀ us:List α,us.length=5->P us
 | [a,b,c,d,e],_=>h a b c d e
theorem L2.qb {Q:L2.VK} {H:L2.Hp} {a b:Bool} (h:Q (.bl a) H) (e:a=b):Q (.bl b) H:=e ▸ h
local macro_rules | `(tactic| walk_at "cap")=>`(tactic| repeat (first | exact trivial | refine ⟨⟨by first | exact Or.inl rfl | exact Or.inr rfl,by first | exact Or.inl rfl | exact Or.inr rfl,rfl⟩,?_⟩))
local macro_rules | `(tactic| walk_at "sub")=>`(tactic| repeat (first | exact trivial | refine ⟨rfl,?_⟩))
local macro_rules | `(tactic| walk_at "has")=>`(tactic| repeat (first | exact trivial | refine ⟨fun _=>⟨_,rfl⟩,?_⟩ | refine ⟨(fun z=>by (rcases z with z | z <;> first | cases (show PySem.NameKind.local=PySem.NameKind.cell from z) | cases (show PySem.NameKind.local=PySem.NameKind.free from z) | cases (show PySem.NameKind.globalImplicit=PySem.NameKind.cell from z) | cases (show PySem.NameKind.globalImplicit=PySem.NameKind.free from z))),?_⟩))
local macro_rules | `(tactic| walk_at "rd1")=>`(tactic| first
 | with_reducible refine L2.ztQ ?_
 | with_reducible refine L2.ztF ?_
 | refine ⟨_,rfl,?_⟩
 | refine ⟨_,_,rfl,rfl,?_⟩
 | refine ⟨_,_,rfl,?_⟩
 | refine ⟨_,_,_,rfl,?_⟩
 | refine ⟨rfl,?_⟩
 | refine ⟨(⟨by decide,by decide⟩:L2.CDiv _ _),?_⟩
 | refine ⟨(show (0:Int)<_ by first | decide | walk_at "o"),?_⟩
 | refine ⟨(⟨by decide,by decide,by decide⟩:L2.CPow _ _),?_⟩
 | refine ⟨(Or.inl ⟨by first | decide | walk_at "o",by first | decide | walk_at "o"⟩:L2.CMul _ _),?_⟩
 | refine ⟨(Or.inr ⟨by first | decide | walk_at "o",by first | decide | walk_at "o"⟩:L2.CMul _ _),?_⟩
 | refine ⟨_,_,rfl,.inl (by assumption),?_⟩
 | refine ⟨_,_,_,_,rfl,rfl,L2.SqT.of (by assumption),rfl,?_⟩
 | (refine ⟨_,_,_,_,rfl,(by assumption),(by first | walk_at "o" | decide),(by first | walk_at "o" | decide),(by first | walk_at "o" | decide),?_⟩;intro r' r0' r1')
 | (refine ⟨_,_,_,rfl,(by assumption),(by walk_at "o"),(by walk_at "o"),?_⟩;intro r' r0' r1')
 | refine And.intro (by walk_at "o") ?_
 | refine And.intro (Nat.le_of_ble_eq_true rfl) ?_
 | with_reducible refine L2.zt9 ?_
 | with_reducible refine L2.zud ?_
 | with_reducible refine L2.ifI (fun _=>?_) (fun _=>?_)
 | with_reducible refine L2.ifNI (fun _=>?_) (fun _=>?_)
 | with_reducible refine L2.ifD (fun _=>?_) (fun _=>?_)
 | with_reducible refine L2.zuM (fun _=>?_) (fun _=>?_))
local macro_rules | `(tactic| walk_at "rd")=>`(tactic| repeat' walk_at "rd1")
seal L2.PSs L2.PS L2.PE L2.PT L2.PA L2.PI L2.PG L2.PGs L2.PW L2.PC L2.PO
local macro_rules | `(tactic| walk_at "rd1")=>`(tactic| first
 | with_reducible refine L2.ifST ?_
 | with_reducible refine L2.ifSF (by decide) ?_
 | with_reducible refine L2.ifSNT ?_
 | with_reducible refine L2.ifSNF (by decide) ?_
 | ((with_reducible refine And.intro (a:=L2.zr8 _ _) ?_ ?_);(exact ⟨by first | decide | walk_at "o",by first | decide | walk_at "o"⟩))
 | fail)
local macro_rules | `(tactic| walk_at "rd1")=>`(tactic| ((with_reducible refine L2.sqG ?_);(first | (with_reducible refine L2.zt7 ?_) | (with_reducible refine L2.zuv ?_) | (with_reducible refine L2.zuB ?_) | (with_reducible refine L2.zuA ?_) | (with_reducible refine L2.zuI ?_) | (with_reducible refine L2.zuw ?_) | (with_reducible refine L2.zuS ?_) | (with_reducible refine L2.zuO ?_) | (with_reducible refine L2.zuZ ?_));intros))
local macro_rules | `(tactic| walk_at "s1")=>`(tactic| first | exact L2.us1 fun _=>rfl | exact L2.us2 fun _ _=>rfl | exact L2.us3 fun _ _ _=>rfl | exact L2.us4 fun _ _ _ _=>rfl | exact L2.us5 fun _ _ _ _ _=>rfl | k_is | rfl)
local macro_rules | `(tactic| walk_at "lc")=>`(tactic| first | exact Or.inl rfl | exact Or.inr rfl)
local macro_rules | `(tactic| walk_at "sp")=>`(tactic| exact ⟨rfl,rfl,rfl,by decide +kernel,rfl,by decide +kernel,by decide +kernel⟩)
local macro_rules | `(tactic| nofun)=>`(tactic| walk_at "rd")
abbrev qaa:List PySem.Str:=["self"]
abbrev qab:List PySem.Str:=["book","days"]
abbrev qac:List PySem.Str:=["book","days","amount"]
abbrev qad:List PySem.Str:=["self","amount"]
abbrev qae:List PySem.Str:=["self","day"]
abbrev qaf:List PySem.Str:=["entries","word"]
abbrev qag:List PySem.Str:=["book","day"]
abbrev qah:List PySem.Str:=["book"]
abbrev qai:List PySem.Str:=["thing"]
abbrev qaj:List PySem.Str:=["book","rows"]
abbrev qak:List PySem.Str:=["book","days","amount","rows"]
abbrev qal:List PySem.Str:=["pairs"]
abbrev qam:List PySem.Str:=["rows"]
abbrev qan:List PySem.Str:=["spans","day"]
abbrev qao:List PySem.Str:=["_law_cell"]
abbrev qap:List PySem.Str:=["self","a","b"]
abbrev qaq:List PySem.Str:=["rows","day"]
abbrev qar:List PySem.Str:=["self","unit"]
abbrev qas:List PySem.Str:=["self","day","amount"]
abbrev qat:List PySem.Str:=["self","count","grace","entries"]
abbrev qau:List PySem.Str:=["self","units"]
abbrev qav:List PySem.Str:=["_law_script","_law_k"]
abbrev qaw:List PySem.Str:=["_law_cell","_law_many"]
abbrev qax:List PySem.Str:=["thing","least","most"]
abbrev qay:List PySem.Str:=["count","grace"]
abbrev qaz:List PySem.Str:=["entries","spans"]
abbrev qba:List PySem.Str:=["things"]
abbrev qbb:List PySem.Str:=["debt","deeds"]
abbrev qbc:List PySem.Str:=["self","entries"]
abbrev qbd:List PySem.Str:=["book","day","rows"]
abbrev qbe:List PySem.Str:=["book","days","last"]
abbrev qbf:List PySem.Str:=["book","day","until"]
abbrev qbg:List PySem.Str:=["book","days","paper"]
abbrev qbh:List PySem.Str:=["table","day"]
abbrev qbi:List PySem.Str:=["entries"]
abbrev qbj:List PySem.Str:=["count","rows","principal","a","b"]
abbrev qbk:List PySem.Str:=["_law_book","_law_day","_law_until"]
abbrev qbl:List PySem.Str:=["_law_way","_law_book","_law_days"]
abbrev qbm:List PySem.Str:=["_law_script"]
namespace My
open PySem L2
local macro_rules | `(tactic| exists $a:term,$b:term,$z:term)=>do
 let [v,H,Q,E,h,f,c,A,o,s,r]:=[`vs,`H,`Q,`E,`h,`f,`cdv,`A,`outer,`s,`hr].map Lean.mkIdent | unreachable!
 `(tactic| refine $a $b (fun $v $H $Q $E $h=>?_) (fun $f $c $A $o $s $H $v $Q $E $r $h=>?_))
noncomputable def top (i:Nat):Stmt:=PySem.Challenge.pw_loanroll_k67_no_days_no_room.main.body.getD i (.Pass ⟨0,0,0,0⟩)
structure Txt (K:W.Frag) (mg:Str->Option Value):Prop where
 zmb:mg "all" = none
 zmO:mg "bool" = none
 zeH:mg "dict" = none
 zpc:mg "int" = none
 zT:mg "isinstance" = none
 zbP:mg "len" = none
 zbu:mg "list" = none
 zgl:mg "max" = none
 zi1:mg "min" = none
 zaV:mg "range" = none
 zjf:mg "set" = none
 zbN:mg "sorted" = none
 cls:∀ kd:Kd,Cls K (cA K kd.cls)
 mk0:∀ kd:Kd,Mk0 K (cA K kd.cls)
 ikK:∀ kd:Kd,zre K (cA K kd.cls)
 kitK0:∀ k:Kd,PySem.W.kitOne K (.ref (cA K k.cls)) (.ref (cA K (Kd.cls .plain)))=some (zty k .plain)
 kitS:∀ k:Kd,PySem.W.kitOne K (.ref (cA K k.cls)) (.type "str")=some false
 zkq:mg "Bank" = some (.ref (cA K "Bank"))
 ziW:mg "Book" = some (.ref (cA K "Book"))
 zkI:mg "Count" = some (.ref (cA K "Count"))
 zki:mg "Debt" = some (.ref (cA K "Debt"))
 zkM:mg "Entry" = some (.ref (cA K "Entry"))
 zb1:mg "LoanError" = some (.ref (cA K "LoanError"))
 zcn:mg "NoDays" = some (.ref (cA K "NoDays"))
 zl9:mg "Pay" = some (.ref (cA K "Pay"))
 zbI:mg "TooMany" = some (.ref (cA K "TooMany"))
 zky:mg "Turn" = some (.ref (cA K "Turn"))
 zw:Cls K (cA K "Book")
 zhc:MkI K (cA K "Book")
 zB:Cls K (cA K "Debt")
 zjc:MkI K (cA K "Debt")
 clE:∀ k:Ek,Cls K (cA K k.cls)
 zcz:∀ k:Ek,zU K (cA K k.cls) "amount"
 zb6:∀ k:Ek,zU K (cA K k.cls) "day"
 zrH:∀ k:Ek,zU K (cA K k.cls) "rate"
 zly:∀ k:Ek,zU K (cA K k.cls) "until"
 zkz:MkI K (cA K "Pay")
 zi5:MkI K (cA K "Turn")
 zbM:zU K (cA K "Book") "due_sums"
 za3:zU K (cA K "Book") "fee_sums"
 zbt:zU K (cA K "Book") "late_rows"
 za5:zU K (cA K "Book") "out_sums"
 zaQ:zU K (cA K "Book") "own_count"
 zaF:zU K (cA K "Book") "own_entries"
 zaO:zU K (cA K "Book") "own_grace"
 za6:zU K (cA K "Book") "pay_sums"
 zbr:zU K (cA K "Book") "rate_rows"
 zbZ:zU K (cA K "Book") "spans"
 zaP:zU K (cA K "Book") "turn_days"
 zaB:zU K (cA K "Debt") "cent_units"
 zL:zU K (cA K "Debt") "owed_units"
 zE:zU K (cA K "Debt") "principal_cents"
 x_NoDays:XK2 K (cA K "NoDays")
 x_TooMany:XK2 K (cA K "TooMany")
 e_TooMany_TooMany:PySem.W.exmOne K (.ref (cA K "TooMany")) (.ref (cA K "TooMany"))=some true
 eF_NoDays_TooMany:PySem.W.exmOne K (.ref (cA K "NoDays")) (.ref (cA K "TooMany"))=some false
 z_NoDays:XK1 K (cA K "NoDays")
 z_TooMany:XK1 K (cA K "TooMany")
 e_NoDays_NoDays:PySem.W.exmOne K (.ref (cA K "NoDays")) (.ref (cA K "NoDays"))=some true
 eF_TooMany_NoDays:PySem.W.exmOne K (.ref (cA K "TooMany")) (.ref (cA K "NoDays"))=some false
 k_NoDays_LoanError:PySem.W.kitOne K (.ref (cA K "NoDays")) (.ref (cA K "LoanError"))=some true
 k_NoDays_TooMany:PySem.W.kitOne K (.ref (cA K "NoDays")) (.ref (cA K "TooMany"))=some false
 k_TooMany_LoanError:PySem.W.kitOne K (.ref (cA K "TooMany")) (.ref (cA K "LoanError"))=some true
 k_TooMany_NoDays:PySem.W.kitOne K (.ref (cA K "TooMany")) (.ref (cA K "NoDays"))=some false
 zeV:∃ t,mg "FIRST_GUESS" = some (.int 1000000 t)
 zhG:∃ t,mg "LAST_DAY" = some (.int 999999 t)
 zg7:∃ t,mg "MOST_DAYS" = some (.int 360 t)
 zcC:∃ t,mg "MOST_ENTRIES" = some (.int 500 t)
 zfw:∃ t,mg "MOST_GRACE" = some (.int 366 t)
 zfG:∃ t,mg "RATE_PARTS" = some (.int 10000 t)
noncomputable abbrev zfe:Stmt:=top 2
noncomputable abbrev zjj:Stmt:=top 3
noncomputable abbrev zcG:Stmt:=top 6
noncomputable abbrev zeo:Stmt:=inClass (top 9) 11
noncomputable abbrev zey:Stmt:=inClass (top 9) 0
noncomputable abbrev zeF:Stmt:=inClass (top 9) 3
noncomputable abbrev zbQ:Stmt:=inClass (top 9) 1
noncomputable abbrev zdC:Stmt:=inClass (top 9) 2
noncomputable abbrev zhJ:Stmt:=top 11
noncomputable abbrev zff:Stmt:=top 31
noncomputable abbrev zbC:Stmt:=inClass (top 35) 3
noncomputable abbrev zdA:Stmt:=inClass (top 35) 1
noncomputable abbrev zeu:Stmt:=inClass (top 36) 1
noncomputable abbrev za4:Stmt:=inClass (top 38) 0
noncomputable abbrev zdm:Stmt:=inClass (top 38) 1
noncomputable abbrev zfi:Stmt:=inClass (top 40) 0
noncomputable abbrev zem:Stmt:=inClass (top 41) 0
noncomputable abbrev zhL:Stmt:=top 43
noncomputable abbrev zds:Stmt:=inClass (top 53) 1
noncomputable abbrev zbX:Stmt:=inClass (top 53) 12
noncomputable abbrev zek:Stmt:=inClass (top 53) 11
noncomputable abbrev zcq:Stmt:=inClass (top 53) 3
noncomputable abbrev zeC:Stmt:=inClass (top 53) 5
noncomputable abbrev zdB:Stmt:=inClass (top 53) 2
noncomputable abbrev zdJ:Stmt:=inClass (top 53) 9
noncomputable abbrev zer:Stmt:=inClass (top 53) 4
noncomputable abbrev zew:Stmt:=inClass (top 53) 6
noncomputable abbrev zdH:Stmt:=inClass (top 53) 8
noncomputable abbrev zcS:Stmt:=inClass (top 53) 10
noncomputable abbrev zdF:Stmt:=inClass (top 53) 7
noncomputable abbrev zcH:Stmt:=top 78
noncomputable abbrev zdo:Stmt:=top 79
noncomputable abbrev zfl:Stmt:=top 4
noncomputable abbrev zez:Stmt:=top 7
noncomputable abbrev zbS:Stmt:=inClass (top 9) 13
noncomputable abbrev zet:Stmt:=inClass (top 9) 9
noncomputable abbrev zi4:Stmt:=top 12
noncomputable abbrev zcI:Stmt:=top 15
noncomputable abbrev zdr:Stmt:=top 18
noncomputable abbrev zht:Stmt:=top 32
noncomputable abbrev zbF:Stmt:=inClass (top 35) 2
noncomputable abbrev zaZ:Stmt:=inClass (top 35) 4
noncomputable abbrev zbk:Stmt:=inClass (top 39) 0
noncomputable abbrev zei:Stmt:=top 42
noncomputable abbrev zhT:Stmt:=top 44
noncomputable abbrev zgd:Stmt:=top 45
noncomputable abbrev zdN:Stmt:=top 50
noncomputable abbrev zcW:Stmt:=top 51
noncomputable abbrev zca:Stmt:=top 81
noncomputable abbrev zb8:Stmt:=top 83
noncomputable abbrev zeq:Stmt:=inClass (top 9) 12
noncomputable abbrev zfb:Stmt:=inClass (top 9) 8
noncomputable abbrev zeB:Stmt:=inClass (top 9) 7
noncomputable abbrev zex:Stmt:=inClass (top 9) 10
noncomputable abbrev zhz:Stmt:=top 13
noncomputable abbrev zdp:Stmt:=top 17
noncomputable abbrev zcQ:Stmt:=top 49
noncomputable abbrev zcV:Stmt:=top 52
noncomputable abbrev zfj:Stmt:=top 56
noncomputable abbrev zbU:Stmt:=top 74
noncomputable abbrev zga:Stmt:=top 16
noncomputable abbrev zfm:Stmt:=top 19
noncomputable abbrev zes:Stmt:=inClass (top 53) 0
noncomputable abbrev zdP:Stmt:=top 57
noncomputable abbrev zgb:Stmt:=top 58
noncomputable abbrev zcD:Stmt:=top 20
noncomputable abbrev zcR:Stmt:=top 21
noncomputable abbrev zbW:Stmt:=inClass (top 53) 13
noncomputable abbrev zeD:Stmt:=top 68
noncomputable abbrev zgk:Stmt:=top 22
noncomputable abbrev zge:Stmt:=top 61
noncomputable abbrev zcE:Stmt:=top 69
noncomputable abbrev zku:Stmt:=top 23
noncomputable abbrev zeE:Stmt:=top 62
noncomputable abbrev zgq:Stmt:=top 63
noncomputable abbrev zdI:Stmt:=top 64
noncomputable abbrev zej:Stmt:=top 71
noncomputable abbrev zcw:Stmt:=top 73
noncomputable abbrev zdk:Stmt:=top 65
noncomputable abbrev zdn:Stmt:=top 66
noncomputable abbrev zfc:Stmt:=top 75
noncomputable abbrev zdl:Stmt:=top 72
noncomputable abbrev zfg:Stmt:=top 76
noncomputable abbrev zel:Stmt:=top 82
noncomputable abbrev zdO:Stmt:=top 80
noncomputable abbrev zks:Stmt:=top 84
section
variable {P:Program} {w:World} {K:W.Frag} {mg:Str->Option Value} {base:Heap}
def zjr (K:W.Frag):Sp:=fun vs H Q _=>∃ (p:Addr) (xs:List V) (t:List (Int × Int)),vs=[.ref p]/\H p=some (.lst xs)/\zx K H xs t/\t.length<64/\(∀ s∈t,0<=s.1)/\∀ q H' ws (r:List (Int × Int)),H q=none->Same H H'->H' q=some (.lst ws)->zx K H' ws r->Stills.TabOf t r->r=(r.map (·.1)).map (fun d=>(d,Sums.valOf t d))->r.length<=t.length->Q (.ref q) H'
theorem znK:zi qal qal (zg zfe):=by walk_at "sp"
theorem zoW (S:Src K mg "table_of" zfe qal) (T:Txt K mg)  : Def P w K mg base 1 "table_of" qal (zjr K):=by
 exists S.ok,znK,0
 all_goals obtain ⟨p,xs,t,rfl,hp,hR,hl,t0,h⟩:=h
 ·rfl
 refine ⟨_,(zf (zj (zy (ziz rfl) rfl T.zbN PyProof.Rows.boot_sorted (za (zmE (zR (zdD rfl) rfl T.zeH PyProof.Rows.boot_dict (za (pv 0) zb))) zb)))),?_⟩
 nofun
 refine ⟨p,xs,t,rfl,hp,hR,hl,?_⟩
 intro d H1 nd s1 e1
 nofun
 refine ⟨d,_,rfl,e1,?_⟩
 intro v H2 nv s2 e2
 nofun
 have dl:=zn9 t
 refine ⟨v,d,_,rfl,e2,s2 _ _ e1,by ac_rfl,?_⟩
 intro q H3 ws r nq s3 e3 hr' pm o
 obtain ⟨T1,e⟩:=Dct.tab t0 pm o
 exact h q H3 ws r (zD (s1.trans s2) nq) (s1.trans (s2.trans s3)) e3 hr' T1 e (by rw[pm.length_eq];exact dl)
def zhr (K:W.Frag):Sp:=fun vs H Q _=>L2.Ee4 fun a xs (l:List Int) d=>L2.Aa5 (vs=[.ref a,.int d]) (SqL K H a xs) (RF H xs l) ((l.Pairwise (·<·))) (∀ n:Nat,zlb l d n->Q (.int n) H)
theorem zec:zi ["rows", "day", "low", "high", "middle"] qaq (zg zjj):=by walk_at "sp"
theorem zsN (S:Src K mg "begun" zjj qaq) (T:Txt K mg)  : Def P w K mg base 1 "begun" qaq (zhr K):=by
 exists S.ok,zec,0
 all_goals obtain ⟨a,xs,l,d,rfl,hS,hR,up,h⟩:=h
 ·rfl
 refine ⟨_,(zc (zo (i:=2) zec.nd rfl (by walk_at "lc") zd)
  (zc (zo (i:=3) zec.nd rfl (by walk_at "lc") (zy zZ rfl T.zbP PySem.boot_len (za (pv 0) zb)))
  (zc (zhS PassesOwn.never (zz zdq (pv 2) (pv 3) (nomark _))
  (zc (zo (i:=4) zec.nd rfl (by walk_at "lc") (zk zdd (zk zQ (pv 2) (pv 3)) zd))
  (zf (zaa (zz zdE (zr zP (zr zG (pv 0) (pv 4) (fun _ _=>rfl)) zd (fun _ _=>rfl)) (pv 1) (nomark _))
  (zf (zo (i:=2) zec.nd rfl (by walk_at "lc") (zk zQ (pv 4) zd)))
  (zf (zo (i:=3) zec.nd rfl (by walk_at "lc") (pv 4)))))))
  (zf (zj (pv 2)))))),?_⟩
 have xl:=hR.length
 nofun
 refine ⟨fun n σ H'=>H=H'/\∃ (lo hi:Nat) (z:Option V),σ=[some (.ref a),some (.int d),some (.int lo),some (.int hi),z]/\lo<=hi/\hi<=l.length/\(∀ i s,i<lo->l[i]?=some s->s<=d)/\(∀ i s,hi<=i->l[i]?=some s->d<s)/\n=hi-lo,⟨_,rfl,0,xs.length,_,rfl,ycz _,by ac_rfl,fun i s hi=>absurd hi (Nat.not_lt_zero _),fun i s hi e=>?_,rfl⟩,?_⟩
 ·have:=(yad.mp e).1
  ac_rfl
 rintro n σ H' ⟨rfl,lo,hi,z,rfl,lh,hl,below,above,rfl⟩
 nofun
 ·rename_i q
  refine ⟨_,fun σ' H' z=>z,?_⟩
  have em:((lo:Int)+hi) / 2=(((lo+hi) / 2:Nat):Int):=by ac_rfl
  have m1:lo<=(lo+hi) / 2:=by ac_rfl
  have m2:(lo+hi) / 2<hi:=by ac_rfl
  nofun
  generalize (lo+hi) / 2=m at m1 m2 em
  obtain ⟨s,es,p,ws,ex,hp⟩:=hR.get (yaa (by ac_rfl:m<xs.length))
  have at_:atI xs (((lo:Int)+hi) / 2)=some (.ref p):=em ▸ zak (by rw[yaa (by ac_rfl:m<xs.length),ex])
  refine ⟨a,_,_,_,rfl,rfl,hS,at_,?_⟩
  have at0:atI (V.int s::ws) (0:Int)=some (.int s):=(zak (by rfl):atI (V.int s::ws) ((0:Nat):Int)=some (.int s))
  nofun
  refine ⟨p,_,_,_,rfl,rfl,SqT.of hp,at0,?_⟩
  nofun
  ·rename_i q2
   refine ⟨hi-(m+1),by ac_rfl,rfl,m+1,hi,some (.int m),(by show [some (V.ref a),some (V.int d),some (V.int (((lo:Int)+hi) / 2+1)),some (V.int hi),some (V.int (((lo:Int)+hi) / 2))]=_;rw[em];rfl),by ac_rfl,hl,fun i t hi e=>?_,above,rfl⟩
   rcases Nat.lt_or_ge i m with c | c
   ·have:=zcx up e es c
    ac_rfl
   ·have:i=m:=by ac_rfl
    subst this
    rw[es] at e
    cases e
    exact q2
  ·rename_i q2
   refine ⟨m-lo,by ac_rfl,rfl,lo,m,some (.int m),(by show [some (V.ref a),some (V.int d),some (V.int lo),some (V.int (((lo:Int)+hi) / 2)),some (V.int (((lo:Int)+hi) / 2))]=_;rw[em]),by ac_rfl,by ac_rfl,below,fun i t hi e=>?_,rfl⟩
   rcases Nat.lt_or_ge m i with c | c
   ·have:=zcx up es e c
    ac_rfl
   ·have:i=m:=by ac_rfl
    subst this
    rw[es] at e
    cases e
    ac_rfl
 ·rename_i q
  have:lo=hi:=by ac_rfl
  subst this
  exact h lo ⟨hl,below,above⟩
def zdx (K:W.Frag):Sp:=fun vs H Q _=>∃ (q:Addr) (xs:List V) (l:List (Int × Int)),vs=[.ref q]/\H q=some (.lst xs)/\zx K H xs l/\l.length<=1000 /\
 ∀ p ws H',H p=none->Same H H'->H' p=some (.lst ws)->zx K H' ws (runs 0 l)->Q (.ref p) H'
theorem zbf:zi ["rows", "told", "total", "row"] qam (zg zcG):=by walk_at "sp"
theorem zlf (S:Src K mg "running_sums" zcG qam) (T:Txt K mg)  : Def P w K mg base 1 "running_sums" qam (zdx K):=by
 exists S.ok,zbf,0
 all_goals obtain ⟨q,xs,l,rfl,hq,hR,hl,h⟩:=h
 ·rfl
 refine ⟨_,(zc (zo (i:=1) zbf.nd rfl (by walk_at "lc") (zai zb))
  (zc (zo (i:=2) zbf.nd rfl (by walk_at "lc") zd)
  (zc (zch PassesOwn.never rfl (zV (pv 0)) (zay (i:=3) zbf.nd rfl (by walk_at "lc"))
  (zc (zo (i:=2) zbf.nd rfl (by walk_at "lc") (zk zQ (pv 2) (zr zP (pv 3) zd (fun _ _=>rfl))))
  (zf (zK (zep PySem.F.plainAttrs_list PySem.F.slot_list_append PySem.F.type_list_append zbi (pv 1) (za (zO (za (zr zP (pv 3) zd (fun _ _=>rfl)) (za (pv 2) zb))) zb))))))
  (zf (zj (pv 1)))))),?_⟩
 have sz:=sizeLine_eq
 have xl:=hR.length
 nofun
 intro p np
 have s1:=ze np (.lst [])
 have eP:=zq (.lst []) np
 generalize upd H p (.lst [])=H1 at s1 eP ⊢
 nofun
 refine ⟨⟨_,SqL.of (s1 _ _ hq)⟩,zcY (xs:=xs) (fun i σ H'=>∃ (ws:List V) (z1:Option V),(Same H H'/\H' p=some (.lst ws))/\zx K H' ws (runs 0 (l.take i))/\σ=[some (.ref q),some (.ref p),some (.int (sum2 (l.take i))),z1])
  ⟨[],_,⟨s1,eP⟩,.nil,rfl⟩ ?_ ?_ ?_⟩
 ·rintro i σ H' _ ⟨ws,z1,⟨sH,_⟩,_⟩
  exact SqL.of (sH _ _ hq)
 ·rintro i x σ H' hx ⟨ws,z1,⟨sH,eP'⟩,hW,rfl⟩
  obtain ⟨u,s,rfl,hs,hu⟩:=(hR.same sH).get hx
  have il:i<l.length:=(yad.mp hs).1
  have wl:=hW.length
  rw[zrE,yat] at wl
  have tk:l.take (i+1)=l.take i++[s]:=by rw[yaz,hs];rfl
  rw[tk,zlw,zqd,ydv]
  generalize sum2 (l.take i)=t at *
  nofun
  refine ⟨.inl ⟨rfl,_,SqL.of eP'⟩,?_⟩
  nofun
  intro v nv
  have s5:=ze nv (.tup [.int s.1,.int (t+s.2)])
  have ev:=zq (.tup [.int s.1,.int (t+s.2)]) nv
  have eP5:=s5 _ _ eP'
  refine ⟨p,_,_,rfl,rfl,eP5,by ac_rfl,?_⟩
  have ev6:(upd (upd H' v (.tup [.int s.1,.int (t+s.2)])) p (.lst (ws++[.ref v]))) v=some (.tup [.int s.1,.int (t+s.2)]):=by
   rw[zp (zaw ev eP5 (by intro z;cases z))]
   exact ev
  exact ⟨ws++[.ref v],_,⟨zJ (sH.trans s5) np,zh⟩,((hW.same s5).put eP5).push (s:=(s.1,t+s.2)) ev6,rfl⟩
 ·rintro σ H' ⟨ws,z1,⟨sH,eP'⟩,hW,rfl⟩
  rw[xl,ycf] at hW
  nofun
  exact h p ws H' np sH eP' hW
def ziy (K:W.Frag):Sp:=fun vs H Q _=>L2.Ee6 fun p dx u m n x=>L2.Aa3 (vs=[.ref p,.int x]) (Deb K H p dx u m n) (Q .non (upd H p (.ins (cA K "Debt") dx (zab u (Dbt.step u .grow x m n).1 (Dbt.step u .grow x m n).2))))
theorem znh:zi qau qau (zg zeo):=by walk_at "sp"
theorem znU (S:zv K (cA K "Debt") "grow" "Debt.grow" zeo qau) (T:Txt K mg)  : zu P w K mg base 1 (cA K "Debt") "grow" qau (ziy K):=by
 exists S.ok,znh,0
 all_goals obtain ⟨p,dx,u,m,n,x,rfl,e,h⟩:=h
 ·rfl
 refine ⟨_,(zf (zah T.zB T.zL (pv 0) (zk zQ (zI T.zB T.zL (pv 0)) (pv 1)))),?_⟩
 nofun
 refine ⟨p,dx,_,_,rfl,e,rfl,?_⟩
 nofun
 refine ⟨p,dx,_,rfl,e,zbl,?_⟩
 rw[zo9]
 exact h
def zfz (K:W.Frag):Sp:=fun vs H Q _=>∃ p dx u,vs=[.ref p,.int u]/\H p=some (.ins (cA K "Debt") dx [])/\Q .non (upd H p (.ins (cA K "Debt") dx (zab u 0 0)))
theorem znD:zi qar qar (zg zey):=by walk_at "sp"
theorem znX (S:zv K (cA K "Debt") "__init__" "Debt.__init__" zey qar) (T:Txt K mg)  : zu P w K mg base 1 (cA K "Debt") "__init__" qar (zfz K):=by
 exists S.ok,znD,0
 all_goals obtain ⟨p,dx,u,rfl,e,h⟩:=h
 ·rfl
 refine ⟨_,(zc (zah T.zB T.zaB (pv 0) (pv 1))
  (zc (zah T.zB T.zE (pv 0) zd)
  (zf (zah T.zB T.zL (pv 0) zd)))),?_⟩
 nofun
 refine ⟨p,dx,[],rfl,e,by decide,?_⟩
 nofun
 refine ⟨p,dx,_,rfl,zh,ycy (ycv 1) (by decide),?_⟩
 nofun
 refine ⟨p,dx,_,rfl,zh,ycy (ycv 2) (by decide),?_⟩
 rw[zad,zad]
 exact h
def zcj (K:W.Frag):Sp:=fun vs H Q _=>L2.Ee5 fun p dx u m n=>L2.Aa4 (vs=[.ref p]) (Deb K H p dx u m n) ((0<u/\u<1152921504606846976)) (Q (.int (n / u)) H)
theorem zm1:zi qaa qaa (zg zeF):=by walk_at "sp"
theorem znP (S:zv K (cA K "Debt") "owed" "Debt.owed" zeF qaa) (T:Txt K mg)  : zu P w K mg base 1 (cA K "Debt") "owed" qaa (zcj K):=by
 exists S.ok,zm1,0
 all_goals obtain ⟨p,dx,u,m,n,rfl,e,⟨u0,u1⟩,h⟩:=h
 ·rfl
 refine ⟨_,(zf (zj (zk zjZ (zI T.zB T.zL (pv 0)) (zI T.zB T.zaB (pv 0))))),?_⟩
 nofun
 refine ⟨p,dx,_,_,rfl,e,rfl,?_⟩
 nofun
 refine ⟨p,dx,_,_,rfl,e,rfl,?_⟩
 nofun
 exact h
def zcL (K:W.Frag):Sp:=fun vs H Q _=>L2.Ee5 fun p dx u m n=>L2.Aa3 (vs=[.ref p]) (Deb K H p dx u m n) (Q (.int m) H)
theorem zjk:zi qaa qaa (zg zbQ):=by walk_at "sp"
theorem zjW (S:zv K (cA K "Debt") "principal" "Debt.principal" zbQ qaa) (T:Txt K mg)  : zu P w K mg base 1 (cA K "Debt") "principal" qaa (zcL K):=by
 exists S.ok,zjk,0
 all_goals obtain ⟨p,dx,u,m,n,rfl,e,h⟩:=h
 ·rfl
 refine ⟨_,(zf (zj (zI T.zB T.zE (pv 0)))),?_⟩
 nofun
 refine ⟨p,dx,_,_,rfl,e,rfl,?_⟩
 exact h
def zh5 (K:W.Frag):Sp:=fun vs H Q _=>L2.Ee5 fun p dx u m n=>L2.Aa3 (vs=[.ref p]) (Deb K H p dx u m n) (Q (.int n) H)
theorem zlH:zi qaa qaa (zg zdC):=by walk_at "sp"
theorem znv (S:zv K (cA K "Debt") "units" "Debt.units" zdC qaa) (T:Txt K mg)  : zu P w K mg base 1 (cA K "Debt") "units" qaa (zh5 K):=by
 exists S.ok,zlH,0
 all_goals obtain ⟨p,dx,u,m,n,rfl,e,h⟩:=h
 ·rfl
 refine ⟨_,(zf (zj (zI T.zB T.zL (pv 0)))),?_⟩
 nofun
 refine ⟨p,dx,_,_,rfl,e,rfl,?_⟩
 exact h
def zlk (K:W.Frag):Sp:=fun vs H Q _=>∃ (a:Addr) (xs:List V) (l:List (Int × Int)),vs=[.ref a]/\SqL K H a xs/\zx K H xs l/\l.length<64/\(∀ s∈l,s.1<s.2) /\
 ∀ p ys r H',Same H H'->H p=none->H' p=some (.lst ys)->zx K H' ys r->Spans.Joined r->(∀ d,Spans.Cov r d↔Spans.Cov l d)->r.length<=l.length->Q (.ref p) H'
theorem zo4 {K:W.Frag} {H:Hp} {ys:List V} {acc:List (Int × Int)} (r:zx K H ys acc) (h:0<ys.length):∃ ys' b acc' t,ys=ys'++[.ref b]/\acc=acc'++[t]/\H b=some (.tup [.int t.1,.int t.2])/\zx K H ys' acc':=by
 induction r with
 | nil=>simp at h
 | @cons p s xs l hp rr ih =>
  cases rr with
  | nil=>exact ⟨[],p,[],s,rfl,rfl,hp,.nil⟩
  | cons h2 rr2 =>
   obtain ⟨ys',b,acc',t,e1,e2,e3,e4⟩:=ih (by simp)
   exact ⟨.ref p::ys',b,s::acc',t,by rw[e1];rfl,by rw[e2];rfl,e3,.cons hp e4⟩
theorem ziS:zi ["spans", "told", "span"] ["spans"] (zg zhJ):=by walk_at "sp"
theorem zrv (S:Src K mg "joined" zhJ ["spans"]) (T:Txt K mg)  : Def P w K mg base 1 "joined" ["spans"] (zlk K):=by
 exists S.ok,ziS,0
 all_goals obtain ⟨a,xs,l,rfl,hS,hR,hl,ok,h⟩:=h
 ·rfl
 refine ⟨_,(zc (zo (i:=1) ziS.nd rfl (by walk_at "lc") (zai zb))
  (zc (zch PassesOwn.never rfl (zV (zy zmq rfl T.zbN PyProof.Rows.boot_sorted (za (pv 0) zb))) (zay (i:=2) ziS.nd rfl (by walk_at "lc"))
  (zf (zaa (PW.pt (zil (zz zgp (zy zZ rfl T.zbP PySem.boot_len (za (pv 1) zb)) zd (nomark _)) (zi6 (zz zdE (zr zP (pv 2) zd (fun _ _=>rfl)) (zr zP (zr zG (pv 1) (zcU zbY zd) (fun _ _=>rfl)) zd (fun _ _=>rfl)) (nomark _)))))
  (zf (zpR (zO (za (zr zP (zr zG (pv 1) (zcU zbY zd) (fun _ _=>rfl)) zd (fun _ _=>rfl)) (za (zy (zc9 rfl) rfl T.zgl PyProof.Rows.boot_max (za (zr zP (zr zG (pv 1) (zcU zbY zd) (fun _ _=>rfl)) zd (fun _ _=>rfl)) (za (zr zP (pv 2) zd (fun _ _=>rfl)) zb))) zb))) (ztH (pv 1) (zcU zbY zd) set_list)))
  (zf (zK (zep PySem.F.plainAttrs_list PySem.F.slot_list_append PySem.F.type_list_append zbi (pv 1) (za (pv 2) zb)))))))
  (zf (zj (pv 1))))),?_⟩
 have sz:=sizeLine_eq
 have xl:=hR.length
 nofun
 intro p np
 have sp:=ze np (.lst [])
 nofun
 refine ⟨a,xs,l,rfl,sp.seq hS,hR.same sp,hl,?_⟩
 intro q H2 ws r nq sq eq rR pm srt
 have wl:=rR.length
 have rl:=pm.length_eq
 have s2:=sp.trans sq
 have eP2:=sq _ _ (zh (H:=H) (a:=p) (o:=.lst []))
 have npq:q≠p:=(zN (zh (H:=H) (a:=p) (o:=.lst [])) nq).symm
 refine ⟨q,rfl,⟨_,SqL.of eq⟩,zcY (xs:=ws) (fun i σ H'=>∃ (ys:List V) (acc:List (Int × Int)) (z:Option V),(Same H H'/\H' q=some (.lst ws)/\H' p=some (.lst ys))/\(zx K H' ys acc/\zx K H' ws r)/\Stills.JInv (r.take i) acc/\acc.length<=i/\σ=[some (.ref a),some (.ref p),z])
  ⟨[],[],_,⟨s2,eq,eP2⟩,⟨.nil,rR⟩,Stills.JInv.nil,ycv _,rfl⟩ ?_ ?_ ?_⟩
 ·rintro i σ H' _ ⟨ys,acc,z,⟨_,e,_⟩,_⟩
  exact SqL.of e
 ·rintro i x σ H' hx ⟨ys,acc,z,⟨sH,eQ,eP⟩,⟨rA,rW⟩,J,al,rfl⟩
  obtain ⟨u,s,rfl,hs,ht⟩:=rW.get hx
  have il:i<r.length:=(yad.mp hs).1
  have yl:=rA.length
  have up:=ok s (pm.mem_iff.mp (yai hs))
  have tk:r.take (i+1)=r.take i++[s]:=by rw[yaz,hs];rfl
  have hP:SqL K H' p ys:=SqL.of eP
  rw[tk]
  have t1':∀ t∈acc,t.1<=s.1:=fun t htt=>by
   obtain ⟨s',hs',e⟩:=J.f t htt
   obtain ⟨j,hj,ej⟩:=yaw.mp hs'
   rw[yat] at hj
   rw[List.getElem_take] at ej
   have:=yar.mp srt j i (by ac_rfl) il (by ac_rfl)
   rw[ej] at this
   have es:r[i]=s:=by
    have:=yaa il
    rw[hs] at this
    exact (Option.some.inj this).symm
   rw[es] at this
   ac_rfl
  nofun
  ·rename_i pos
   obtain ⟨ys',b,acc',t,e1,e2,hb,rA'⟩:=zo4 rA (by ac_rfl)
   subst e1 e2
   have yl':=rA'.length
   have atl:atI (ys'++[.ref b]) (-1)=some (.ref b):=zsG (by simp) (by simp)
   have le1:=t1' t (by simp)
   refine ⟨p,_,_,_,rfl,rfl,hP,atl,?_⟩
   nofun
   ·rename_i le2
    refine ⟨p,_,_,_,rfl,rfl,hP,atl,?_⟩
    nofun
    refine ⟨p,_,_,_,rfl,rfl,hP,atl,?_⟩
    nofun
    intro u2 nu2
    obtain ⟨m,hm⟩:∃ m:Int,m=if s.2 > t.2 then s.2 else t.2:=⟨_,rfl⟩
    rw[<-hm]
    have s5:=ze nu2 (.tup [.int t.1,.int m])
    have eP':=s5 _ _ eP
    have eQ':=s5 _ _ eQ
    nofun
    have ixe:ixN (ys'++[V.ref b]).length (-1)=some (ys'.length):=by
     unfold ixN
     rw[if_neg (by decide),if_pos (by rw[yae,ybm];ac_rfl),yae]
     show some ((-1:Int)+((ys'.length+1:Nat):Int)).toNat=_
     rw[show ((-1:Int)+((ys'.length+1:Nat):Int)).toNat=ys'.length by ac_rfl]
    refine ⟨p,_,_,_,rfl,rfl,eP',ixe,?_⟩
    have es:(ys'++[V.ref b]).set ys'.length (.ref u2)=ys'++[.ref u2]:=by
     rw[List.set_append_right _ _ (ycv _),ydj]
     rfl
    rw[es]
    have st2:(upd (upd H' u2 (.tup [.int t.1,.int m])) p (.lst (ys'++[.ref u2]))) u2=some (.tup [.int t.1,.int m]):=by
     rw[zp (zN eP nu2).symm]
     exact zh
    exact ⟨ys'++[.ref u2],acc'++[(t.1,m)],_,⟨zJ (sH.trans s5) np,by rw[zp npq];exact eQ',zh⟩,⟨((rA'.same s5).put eP').push (s:=(t.1,m)) st2,(rW.same s5).put eP'⟩,J.grow up le1 le2 hm,by rw[yae] at al ⊢;exact Nat.le_succ_of_le al,rfl⟩
   ·rename_i gt
    refine ⟨.inl ⟨rfl,_,SqL.of eP⟩,?_⟩
    nofun
    refine ⟨p,_,_,rfl,rfl,eP,by ac_rfl,?_⟩
    have st2:(upd H' p (.lst (ys'++[.ref b]++[.ref u]))) u=some (.tup [.int s.1,.int s.2]):=by
     rw[zp (zaw ht eP (by intro z;cases z))]
     exact ht
    exact ⟨ys'++[.ref b]++[.ref u],acc'++[t]++[s],_,⟨zJ sH np,by rw[zp npq];exact eQ,zh⟩,⟨(rA.put eP).push (s:=s) st2,rW.put eP⟩,J.add up (by ac_rfl),by rw[yae];exact Nat.succ_le_succ al,rfl⟩
  ·rename_i no
   have y0:ys=[]:=by cases ys with | nil=>rfl | cons _ _=>exact absurd (by simp) no
   subst y0
   have a0:acc=[]:=by cases acc with | nil=>rfl | cons _ _=>simp at yl
   subst a0
   refine ⟨.inl ⟨rfl,_,SqL.of eP⟩,?_⟩
   nofun
   refine ⟨p,_,_,rfl,rfl,eP,by simp;ac_rfl,?_⟩
   have st2:(upd H' p (.lst ([]++[.ref u]))) u=some (.tup [.int s.1,.int s.2]):=by
    rw[zp (zaw ht eP (by intro z;cases z))]
    exact ht
   exact ⟨[]++[.ref u],[]++[s],_,⟨zJ sH np,by rw[zp npq];exact eQ,zh⟩,⟨(zx.put .nil eP).push (s:=s) st2,rW.put eP⟩,J.begin_ up,by simp,rfl⟩
 ·rintro σ H' ⟨ys,acc,z,⟨sH,eQ,eP⟩,⟨rA,rW⟩,J,al,rfl⟩
  rw[wl,yay (ycv _)] at J
  nofun
  refine h p ys acc H' sH np eP rA J.j (fun d=>?_) (by ac_rfl)
  rw[J.c]
  exact Stills.zsp (fun s=>pm.mem_iff) d
def zgH (K:W.Frag):Sp:=fun vs H Q _=>∃ x T,vs=[x]/\zam K H x T/\Q (.bl (decide (T = "int"))) H
theorem zn7:zi qai qai (zg zff):=by walk_at "sp"
theorem zoZ (S:Src K mg "is_whole" zff qai) (T:Txt K mg)  : Def P w K mg base 1 "is_whole" qai (zgH K):=by
 exists S.ok,zn7,0
 all_goals obtain ⟨x,Tk,rfl,hk,h⟩:=h
 ·rfl
 refine ⟨_,(zf (zj (zhi (zy zgB rfl T.zT PyProof.Rows.boot_isinstance (za (pv 0) (za (zli (v:=.ty "int") rfl T.zpc PyProof.Rows.boot_int rfl) zb))) (zhg (zqR (zy zgB rfl T.zT PyProof.Rows.boot_isinstance (za (pv 0) (za (zli (v:=.ty "bool") rfl T.zmO PyProof.Rows.boot_bool rfl) zb)))))))),?_⟩
 nofun
 refine ⟨_,_,_,_,rfl,hk.1,zsC hk.2,?_⟩
 nofun
 ·refine ⟨_,_,_,_,rfl,hk.1,zrr hk.2,?_⟩
  nofun
  rename_i z
  exact qb h (by rcases z with rfl | rfl <;> decide)
 ·rename_i z
  exact qb h (decide_eq_false fun q=>z (.inl q))
noncomputable def Uk:Kd->Int->Int
 | .plain,d=>d
 | .bank,d=>d
theorem zsF {kd:Kd} {a b:Int} (h0:0<=a) (ab:a<=b):Uk kd a<=Uk kd b:=by
 cases kd with
 | plain=>exact ab
 | bank=>exact ab
theorem zo5 {kd:Kd} {d:Int} (h0:0<=d) (h1:d<=1000000):-1<=Uk kd d/\Uk kd d<=1000000000:=by
 cases kd with
 | plain=>exact ⟨by show -1<=d;omega,by show d<=1000000000;omega⟩
 | bank=>exact ⟨by show -1<=d;omega,by show d<=1000000000;omega⟩
def zi0 (kd:Kd) (K:W.Frag):Sp:=fun vs H Q _=>∃ a d,vs=[.ref a,.int d]/\zb9 K H a kd/\Q (.int (Uk kd d)) H
theorem zlF:zi qae qae (zg zbC):=by walk_at "sp"
theorem ziL (kd:Kd) (hk:kd=.plain\/kd=.bank) (S:zv K (cA K kd.cls) "upto" "Count.upto" zbC qae) (T:Txt K mg)  : zu P w K mg base 1 (cA K kd.cls) "upto" qae (zi0 kd K):=by
 exists S.ok,zlF,0
 all_goals obtain ⟨a,d,rfl,hc,h⟩:=h
 ·rfl
 refine ⟨_,(zf (zj (pv 1))),?_⟩
 rcases hk with rfl | rfl
 ·nofun
  exact h
 ·nofun
  exact h
noncomputable def yr:Kd->Int
 | .plain=>365
 | .bank=>360
def zgs (kd:Kd) (K:W.Frag):Sp:=fun vs H Q _=>∃ a,vs=[.ref a]/\Q (.int (yr kd)) H
theorem zlT:zi qaa qaa (zg zdA):=by walk_at "sp"
theorem zm0 (kd:Kd) (hk:kd=.plain) (S:zv K (cA K kd.cls) "year" "Count.year" zdA qaa) (T:Txt K mg)  : zu P w K mg base 1 (cA K kd.cls) "year" qaa (zgs kd K):=by
 subst hk
 exists S.ok,zlT,0
 all_goals obtain ⟨a,rfl,h⟩:=h
 ·rfl
 refine ⟨_,(zf (zj zd)),?_⟩
 nofun
 exact h
theorem zmp:zi qaa qaa (zg zeu):=by walk_at "sp"
theorem znQ (kd:Kd) (hk:kd=.bank) (S:zv K (cA K kd.cls) "year" "Bank.year" zeu qaa) (T:Txt K mg)  : zu P w K mg base 1 (cA K kd.cls) "year" qaa (zgs kd K):=by
 subst hk
 exists S.ok,zmp,0
 all_goals obtain ⟨a,rfl,h⟩:=h
 ·rfl
 refine ⟨_,(zf (zj zd)),?_⟩
 nofun
 exact h
def zcT (K:W.Frag):Sp:=fun vs H Q _=>L2.Ee5 fun p C dx (fs:List (Str × V)) d=>L2.Aa6 (vs=[.ref p,.int d]) (H p=some (.ins C dx fs)) (Cls K C) (zU K C "day") (fs.length<1000) (Q .non (upd H p (.ins C dx (zaq "day" (.int d) fs))))
theorem zh3:zi qae qae (zg za4):=by walk_at "sp"
theorem znH (x:Str) (S:zv K (cA K x) "__init__" "Entry.__init__" za4 qae) (T:Txt K mg)  : zu P w K mg base 1 (cA K x) "__init__" qae (zcT K):=by
 exists S.ok,zh3,0
 all_goals obtain ⟨p,C,dx,fs,d,rfl,e,hc,hn,hl,h⟩:=h
 ·rfl
 refine ⟨_,(zf (zmQ (pv 0) (pv 1) rfl)),?_⟩
 nofun
 refine ⟨p,C,dx,fs,rfl,e,hc,hn,hl,?_⟩
 exact h
theorem zlU (S:zmM K (cA K "Entry") "__init__" "Entry.__init__" za4 qae) (T:Txt K mg)  : zpd P w K mg base 1 (cA K "Entry") "__init__" qae (zcT K):=by
 exists S.ok,zh3,0
 all_goals obtain ⟨p,C,dx,fs,d,rfl,e,hc,hn,hl,h⟩:=h
 ·rfl
 refine ⟨_,(zf (zmQ (pv 0) (pv 1) rfl)),?_⟩
 nofun
 refine ⟨p,C,dx,fs,rfl,e,hc,hn,hl,?_⟩
 exact h
def zbH (k:Ek) (K:W.Frag):Sp:=fun vs H Q _=>∃ a,vs=[.ref a]/\Q (.str k.word) H
theorem zlQ:zi qaa qaa (zg zdm):=by walk_at "sp"
theorem znp (kd:Ek) (hk:kd=.base) (S:zv K (cA K kd.cls) "word" "Entry.word" zdm qaa) (T:Txt K mg)  : zu P w K mg base 1 (cA K kd.cls) "word" qaa (zbH kd K):=by
 subst hk
 exists S.ok,zlQ,0
 all_goals obtain ⟨a,rfl,h⟩:=h
 ·rfl
 refine ⟨_,(zf (zj zaf)),?_⟩
 nofun
 exact h
theorem znO:zi qaa qaa (zg zfi):=by walk_at "sp"
theorem zpr (kd:Ek) (hk:kd=.pay) (S:zv K (cA K kd.cls) "word" "Pay.word" zfi qaa) (T:Txt K mg)  : zu P w K mg base 1 (cA K kd.cls) "word" qaa (zbH kd K):=by
 subst hk
 exists S.ok,znO,0
 all_goals obtain ⟨a,rfl,h⟩:=h
 ·rfl
 refine ⟨_,(zf (zj zaf)),?_⟩
 nofun
 exact h
theorem zmW:zi qaa qaa (zg zem):=by walk_at "sp"
theorem znT (kd:Ek) (hk:kd=.turn) (S:zv K (cA K kd.cls) "word" "Turn.word" zem qaa) (T:Txt K mg)  : zu P w K mg base 1 (cA K kd.cls) "word" qaa (zbH kd K):=by
 subst hk
 exists S.ok,zmW,0
 all_goals obtain ⟨a,rfl,h⟩:=h
 ·rfl
 refine ⟨_,(zf (zj zaf)),?_⟩
 nofun
 exact h
theorem zfY:∀ {xs ys:List Int},xs.Nodup->(∀ x∈xs,x∈ys)->xs.length<=ys.length
 | [],_,_,_=>ycz _
 | x::xs,ys,nd,h=>by
  have hx:=h x yao
  obtain ⟨nx,nd'⟩:=ybj.mp nd
  have:=zfY (ys:=ys.erase x) nd' fun z hz=>(List.mem_erase_of_ne (fun (q:z=x)=>nx (by rw[<-q];exact hz))).mpr (h z (yan _ hz))
  rw[List.length_erase_of_mem hx] at this
  have:=List.length_pos_of_mem hx
  rw[ybk]
  omega
def ziU (K:W.Frag):Sp:=fun vs H Q _=>∃ (p:Addr) (xs:List V) (l:List (Int × Int)),vs=[.ref p]/\H p=some (.lst xs)/\zx K H xs l/\l.length<=61 /\
 ∀ q H' ws r,H q=none->Same H H'->H' q=some (.lst ws)->zx K H' ws r->Sby.Tab r l->Q (.ref q) H'
theorem zih:zi ["pairs", "sums", "pair"] qal (zg zhL):=by walk_at "sp"
theorem zq1 (S:Src K mg "summed" zhL qal) (T:Txt K mg)  : Def P w K mg base 1 "summed" qal (ziU K):=by
 exists S.ok,zih,0
 all_goals obtain ⟨p,xs,l,rfl,ep,hR,hl,h⟩:=h
 ·rfl
 refine ⟨_,(zc (zo (i:=1) zih.nd rfl (by walk_at "lc") zrD)
  (zc (zch PassesOwn.never rfl (zV (pv 0)) (zay (i:=2) zih.nd rfl (by walk_at "lc"))
  (zf (zsT (pv 1) (zr zP (pv 2) zd (fun _ _=>rfl)) (zk zQ (zoI (pv 1) (zr zP (pv 2) zd (fun _ _=>rfl)) zd) (zr zP (pv 2) zd (fun _ _=>rfl))))))
  (zf (zj (zy (ziz rfl) rfl T.zbN PyProof.Rows.boot_sorted (za (zmE (pv 1)) zb)))))),?_⟩
 nofun
 intro d nd
 have sd:=ze nd (zbR P w d [])
 have ed:=zq (zbR P w d []) nd
 have small:∀ {acc:List (Int × Int)} {n:Nat},Sby.Tot acc (l.take n)->acc.length<=61:=fun {acc n} t=>by
  have:=zfY t.nd fun k hk=>(t.mem k).mp hk
  rw[yab,yab,yat] at this
  ac_rfl
 nofun
 refine ⟨⟨_,SqL.of (sd _ _ ep)⟩,zcY (xs:=xs) (fun i σ H'=>∃ (acc:List (Int × Int)) (z:Option V),(Same H H'/\H' d=some (zbR P w d acc))/\Sby.Tot acc (l.take i)/\σ=[some (.ref p),some (.ref d),z]) ⟨[],_,⟨sd,ed⟩,by rw[List.take_zero];exact Sby.Tot.nil,rfl⟩ ?_ ?_ ?_⟩
 ·rintro i σ H' _ ⟨acc,z,⟨sH,_⟩,_⟩
  exact SqL.of (sH _ _ ep)
 ·rintro i x σ H' hx ⟨acc,z,⟨sH,eD⟩,tt,rfl⟩
  obtain ⟨t,s,rfl,hs,ht⟩:=(hR.same sH).get hx
  have al:=small tt
  nofun
  refine ⟨d,acc,rfl,eD,?_⟩
  nofun
  refine ⟨eD,?_⟩
  rw[tt.look]
  nofun
  refine ⟨d,acc,s.1,_,rfl,rfl,rfl,eD,ydb al (by decide),?_⟩
  refine ⟨zac acc s.1 (Sby.sm (l.take i) s.1+s.2),_,⟨zJ sH nd,zh⟩,?_,rfl⟩
  rw[yaz,hs]
  exact tt.step s.1 s.2
 ·rintro σ H' ⟨acc,z,⟨sH,eD⟩,tt,rfl⟩
  have al:=small tt
  rw[hR.length,ycf] at tt
  nofun
  refine ⟨d,acc,rfl,eD,fun v H2 nv s2 ev=>?_⟩
  nofun
  refine ⟨v,d,acc,rfl,ev,s2 _ _ eD,by ac_rfl,fun q H3 ws r nq s3 eq hr' pm up=>?_⟩
  exact h q H3 ws r (zD (sH.trans s2) nq) (sH.trans (s2.trans s3)) eq hr' (tt.tab pm up)
def zeU (K:W.Frag):Sp:=fun vs H Q _=>∃ (a:Addr) (A:BkA) (b:BkT),vs=[.ref a]/\zW K H a A b/\Q (.ref A.c) H
theorem zl3:zi qaa qaa (zg zds):=by walk_at "sp"
theorem zmA (S:zv K (cA K "Book") "count" "Book.count" zds qaa) (T:Txt K mg)  : zu P w K mg base 1 (cA K "Book") "count" qaa (zeU K):=by
 exists S.ok,zl3,0
 all_goals obtain ⟨a,A,b,rfl,B,h⟩:=h
 ·rfl
 refine ⟨_,(zf (zj (zI T.zw T.zaQ (pv 0)))),?_⟩
 nofun
 refine ⟨a,A.dx,_,_,rfl,B.ins,rfl,?_⟩
 exact h
def ze8 (K:W.Frag):Sp:=fun vs H Q _=>∃ (a:Addr) (A:BkA) (b:BkT),vs=[.ref a]/\zW K H a A b/\b.outs.length+b.fees.length+b.pays.length+b.turns.length<63 /\
 ∀ p (ns:List Int) H',H p=none->Same H H'->H' p=some (.lst (ns.map V.int))->ns.Pairwise (·<·)->(∀ d,d∈ns↔DDay b d)->ns.length<=b.outs.length+b.fees.length+b.pays.length+b.turns.length->Q (.ref p) H'
theorem ze9:zi ["self", "days"] qaa (zg zbX):=by walk_at "sp"
theorem zjT (S:zv K (cA K "Book") "deed_days" "Book.deed_days" zbX qaa) (T:Txt K mg)  : zu P w K mg base 1 (cA K "Book") "deed_days" qaa (ze8 K):=by
 exists S.ok,ze9,0
 all_goals obtain ⟨a,A,b,rfl,B,osz,h⟩:=h
 ·rfl
 refine ⟨_,(zc (zkJ (i:=1) ze9.nd rfl rfl (ix:=[]) ⟨rfl,by decide +kernel,rfl,by decide +kernel,rfl,(show (["row"]:List Str).Nodup by decide +kernel),by walk_at "cap", by walk_at "sub", by walk_at "has"⟩ (zV (zk zcc (zk zcc (zI T.zw T.za5 (pv 0)) (zI T.zw T.za3 (pv 0))) (zI T.zw T.za6 (pv 0)))) (fun b=>(zr (zbz K) (pv 0) zd (fun _ _=>rfl))))
  (zf (zj (zy (zdw rfl) rfl T.zbN PyProof.Rows.boot_sorted (za (zR (zgr rfl) rfl T.zjf PyProof.Rows.boot_set (za (zk zcc (pv 1) (zI T.zw T.zaP (pv 0))) zb)) zb))))),?_⟩
 have sz:=sizeLine_eq
 obtain ⟨x1,e1,r1,l1⟩:=B.outs
 obtain ⟨x2,e2,r2,l2⟩:=B.fees
 obtain ⟨x3,e3,r3,l3⟩:=B.pays
 have c1:=r1.length
 have c2:=r2.length
 have c3:=r3.length
 nofun
 refine ⟨a,A.dx,_,_,rfl,B.ins,rfl,?_⟩
 nofun
 refine ⟨a,A.dx,_,_,rfl,B.ins,rfl,?_⟩
 nofun
 refine ⟨A.o,A.f,x1,x2,rfl,rfl,e1,e2,by ac_rfl,fun q3 n3=>?_⟩
 have t3:=ze n3 (.lst (x1++x2))
 have f3:=zq (.lst (x1++x2)) n3
 have B3:=B.same t3
 nofun
 refine ⟨a,A.dx,_,_,rfl,B3.ins,rfl,?_⟩
 nofun
 refine ⟨q3,A.p,x1++x2,x3,rfl,rfl,f3,t3 _ _ e3,by rw[yae];ac_rfl,fun q5 n5=>?_⟩
 have t5:=ze n5 (.lst (x1++x2++x3))
 have f5:=zq (.lst (x1++x2++x3)) n5
 have s5:=t3.trans t5
 have rX:zx K _ (x1++x2++x3) (b.outs++b.fees++b.pays):=zhY (zhY (r1.same s5) (r2.same s5)) (r3.same s5)
 have B5:=B.same s5
 generalize upd (upd H q3 (.lst (x1++x2))) q5 (.lst (x1++x2++x3))=H5 at rX s5 f5 B5 ⊢
 have xl:=rX.length
 nofun
 refine ⟨⟨_,SqL.of f5⟩,fun l6 n6=>?_⟩
 have gd:∀ (u:List (Int × Int)) (f:Int × Int->Int) (i:Nat) (s:Int × Int),u[i]?=some s->(u.map f).getD i 0=f s:=fun u f i s e=>by
  rw[yac,yaf,e];rfl
 have xl2:(x1++x2++x3).length<=63:=by rw[yae,yae];ac_rfl
 refine zgt (fun i v=>v=.int (((b.outs++b.fees++b.pays).map (·.1)).getD i 0)) (SqL.of f5) n6 (by ac_rfl) ?_ ?_
 ·intro i x H' Q' hx sH hq
  obtain ⟨p,s,rfl,e,ht⟩:=rX.get hx
  nofun
  exact ⟨p,_,_,_,rfl,rfl,SqT.of (sH _ _ ht),rfl,hq _ (by rw[gd _ _ i s e])⟩
 intro ys1 len1 hp1
 obtain rfl:=zk7 (ns:=(b.outs++b.fees++b.pays).map (·.1)) (by rw[len1,yab,xl]) hp1
 have s6:=ze n6 (.lst (((b.outs++b.fees++b.pays).map (·.1)).map V.int))
 have e6:=zq (.lst (((b.outs++b.fees++b.pays).map (·.1)).map V.int)) n6
 have kl:((b.outs++b.fees++b.pays).map (·.1)).length=b.outs.length+b.fees.length+b.pays.length:=by rw[yab,yae,yae]
 have B6:=B5.same s6
 generalize hD1:(b.outs++b.fees++b.pays).map (·.1)=D1 at *
 nofun
 refine ⟨a,A.dx,_,_,rfl,B6.ins,rfl,?_⟩
 nofun
 refine ⟨l6,A.t,_,_,rfl,rfl,e6,B6.turns,by rw[yab,yab];ac_rfl,fun q7 n7=>?_⟩
 have cat:D1.map V.int++b.turns.map V.int=(D1++b.turns).map V.int:=by rw[yas]
 rw[cat]
 have s7:=ze n7 (.lst ((D1++b.turns).map V.int))
 have e7:=zq (.lst ((D1++b.turns).map V.int)) n7
 have s07:=s5.trans (s6.trans s7)
 generalize upd (upd H5 l6 (.lst (D1.map V.int))) q7 (.lst ((D1++b.turns).map V.int))=H7 at s07 e7 ⊢
 have dl:(D1++b.turns).length=b.outs.length+b.fees.length+b.pays.length+b.turns.length:=by rw[yae];ac_rfl
 nofun
 refine ⟨q7,_,rfl,SqL.of e7,by ac_rfl,fun pS HS ms nPS sPS ePS2 nd mm lm=>?_⟩
 nofun
 refine ⟨pS,ms,rfl,ePS2,by ac_rfl,fun pR HR ns nPR sPR ePR pm up=>?_⟩
 refine h pR ns HR (zD (s07.trans sPS) nPR) (s07.trans (sPS.trans sPR)) ePR (ziM pm nd up) (fun d=>?_) (by rw[pm.length_eq];ac_rfl)
 rw[pm.mem_iff,mm,yag,<-hD1]
 exact Iff.rfl
def zfM (K:W.Frag):Sp:=fun vs H Q _=>∃ (a:Addr) (A:BkA) (b:BkT),vs=[.ref a]/\zW K H a A b/\∀ q xs,H q=none->zx K H xs b.dues->b.dues.length<=1000->Q (.ref q) (upd H q (.lst xs))
theorem zmH:zi qaa qaa (zg zek):=by walk_at "sp"
theorem zoh (S:zv K (cA K "Book") "dues" "Book.dues" zek qaa) (T:Txt K mg)  : zu P w K mg base 1 (cA K "Book") "dues" qaa (zfM K):=by
 exists S.ok,zmH,0
 all_goals obtain ⟨a,A,b,rfl,B,h⟩:=h
 ·rfl
 refine ⟨_,(zf (zj (zR zas rfl T.zbu PyProof.Rows.boot_list (za (zI T.zw T.zbM (pv 0)) zb)))),?_⟩
 obtain ⟨xs,e,hR,hl⟩:=B.dues
 nofun
 refine ⟨a,A.dx,_,_,rfl,B.ins,rfl,?_⟩
 nofun
 exact ⟨A.d,xs,rfl,.inl (SqL.of e),fun q nq=>h q xs nq hR hl⟩
def zf9 (K:W.Frag):Sp:=fun vs H Q _=>∃ (a:Addr) (A:BkA) (b:BkT),vs=[.ref a]/\zW K H a A b/\∀ q xs,H q=none->EL K H xs b.es->Q (.ref q) (upd H q (.lst xs))
theorem zkD:zi qaa qaa (zg zcq):=by walk_at "sp"
theorem zkP (S:zv K (cA K "Book") "entries" "Book.entries" zcq qaa) (T:Txt K mg)  : zu P w K mg base 1 (cA K "Book") "entries" qaa (zf9 K):=by
 exists S.ok,zkD,0
 all_goals obtain ⟨a,A,b,rfl,B,h⟩:=h
 ·rfl
 refine ⟨_,(zf (zj (zR zas rfl T.zbu PyProof.Rows.boot_list (za (zI T.zw T.zaF (pv 0)) zb)))),?_⟩
 obtain ⟨xs,e,hE⟩:=B.ents
 nofun
 refine ⟨a,A.dx,_,_,rfl,B.ins,rfl,?_⟩
 nofun
 exact ⟨A.e,xs,rfl,.inl (SqL.of e),fun q nq=>h q xs nq hE⟩
def zim (K:W.Frag):Sp:=fun vs H Q _=>∃ (a:Addr) (A:BkA) (b:BkT),vs=[.ref a]/\zW K H a A b/\∀ q xs,H q=none->zx K H xs b.fees->b.fees.length<=1000->Q (.ref q) (upd H q (.lst xs))
theorem znl:zi qaa qaa (zg zeC):=by walk_at "sp"
theorem zog (S:zv K (cA K "Book") "fees" "Book.fees" zeC qaa) (T:Txt K mg)  : zu P w K mg base 1 (cA K "Book") "fees" qaa (zim K):=by
 exists S.ok,znl,0
 all_goals obtain ⟨a,A,b,rfl,B,h⟩:=h
 ·rfl
 refine ⟨_,(zf (zj (zR zas rfl T.zbu PyProof.Rows.boot_list (za (zI T.zw T.za3 (pv 0)) zb)))),?_⟩
 obtain ⟨xs,e,hR,hl⟩:=B.fees
 nofun
 refine ⟨a,A.dx,_,_,rfl,B.ins,rfl,?_⟩
 nofun
 exact ⟨A.f,xs,rfl,.inl (SqL.of e),fun q nq=>h q xs nq hR hl⟩
def zeO (K:W.Frag):Sp:=fun vs H Q _=>∃ (a:Addr) (A:BkA) (b:BkT),vs=[.ref a]/\zW K H a A b/\Q (.int b.g) H
theorem zl2:zi qaa qaa (zg zdB):=by walk_at "sp"
theorem znc (S:zv K (cA K "Book") "grace" "Book.grace" zdB qaa) (T:Txt K mg)  : zu P w K mg base 1 (cA K "Book") "grace" qaa (zeO K):=by
 exists S.ok,zl2,0
 all_goals obtain ⟨a,A,b,rfl,B,h⟩:=h
 ·rfl
 refine ⟨_,(zf (zj (zI T.zw T.zaO (pv 0)))),?_⟩
 nofun
 refine ⟨a,A.dx,_,_,rfl,B.ins,rfl,?_⟩
 exact h
def ze3 (K:W.Frag):Sp:=fun vs H Q _=>∃ (a:Addr) (A:BkA) (b:BkT),vs=[.ref a]/\zW K H a A b/\∀ q xs,H q=none->zx K H xs b.lates->b.lates.length<=1000->Q (.ref q) (upd H q (.lst xs))
theorem zlX:zi qaa qaa (zg zdJ):=by walk_at "sp"
theorem zmr (S:zv K (cA K "Book") "lates" "Book.lates" zdJ qaa) (T:Txt K mg)  : zu P w K mg base 1 (cA K "Book") "lates" qaa (ze3 K):=by
 exists S.ok,zlX,0
 all_goals obtain ⟨a,A,b,rfl,B,h⟩:=h
 ·rfl
 refine ⟨_,(zf (zj (zR zas rfl T.zbu PyProof.Rows.boot_list (za (zI T.zw T.zbt (pv 0)) zb)))),?_⟩
 obtain ⟨xs,e,hR,hl⟩:=B.lates
 nofun
 refine ⟨a,A.dx,_,_,rfl,B.ins,rfl,?_⟩
 nofun
 exact ⟨A.l,xs,rfl,.inl (SqL.of e),fun q nq=>h q xs nq hR hl⟩
def ziE (K:W.Frag):Sp:=fun vs H Q _=>∃ (a:Addr) (A:BkA) (b:BkT),vs=[.ref a]/\zW K H a A b/\∀ q xs,H q=none->zx K H xs b.outs->b.outs.length<=1000->Q (.ref q) (upd H q (.lst xs))
theorem znm:zi qaa qaa (zg zer):=by walk_at "sp"
theorem zol (S:zv K (cA K "Book") "outs" "Book.outs" zer qaa) (T:Txt K mg)  : zu P w K mg base 1 (cA K "Book") "outs" qaa (ziE K):=by
 exists S.ok,znm,0
 all_goals obtain ⟨a,A,b,rfl,B,h⟩:=h
 ·rfl
 refine ⟨_,(zf (zj (zR zas rfl T.zbu PyProof.Rows.boot_list (za (zI T.zw T.za5 (pv 0)) zb)))),?_⟩
 obtain ⟨xs,e,hR,hl⟩:=B.outs
 nofun
 refine ⟨a,A.dx,_,_,rfl,B.ins,rfl,?_⟩
 nofun
 exact ⟨A.o,xs,rfl,.inl (SqL.of e),fun q nq=>h q xs nq hR hl⟩
def zdv (K:W.Frag):Sp:=fun vs H Q _=>∃ (a:Addr) (A:BkA) (b:BkT),vs=[.ref a]/\zW K H a A b/\∀ q xs,H q=none->zx K H xs b.pays->b.pays.length<=1000->Q (.ref q) (upd H q (.lst xs))
theorem zmL:zi qaa qaa (zg zew):=by walk_at "sp"
theorem zoo (S:zv K (cA K "Book") "pays" "Book.pays" zew qaa) (T:Txt K mg)  : zu P w K mg base 1 (cA K "Book") "pays" qaa (zdv K):=by
 exists S.ok,zmL,0
 all_goals obtain ⟨a,A,b,rfl,B,h⟩:=h
 ·rfl
 refine ⟨_,(zf (zj (zR zas rfl T.zbu PyProof.Rows.boot_list (za (zI T.zw T.za6 (pv 0)) zb)))),?_⟩
 obtain ⟨xs,e,hR,hl⟩:=B.pays
 nofun
 refine ⟨a,A.dx,_,_,rfl,B.ins,rfl,?_⟩
 nofun
 exact ⟨A.p,xs,rfl,.inl (SqL.of e),fun q nq=>h q xs nq hR hl⟩
def zeR (K:W.Frag):Sp:=fun vs H Q _=>∃ (a:Addr) (A:BkA) (b:BkT),vs=[.ref a]/\zW K H a A b/\∀ q xs,H q=none->zx K H xs b.rates->b.rates.length<=1000->Q (.ref q) (upd H q (.lst xs))
theorem zl0:zi qaa qaa (zg zdH):=by walk_at "sp"
theorem zm5 (S:zv K (cA K "Book") "rates" "Book.rates" zdH qaa) (T:Txt K mg)  : zu P w K mg base 1 (cA K "Book") "rates" qaa (zeR K):=by
 exists S.ok,zl0,0
 all_goals obtain ⟨a,A,b,rfl,B,h⟩:=h
 ·rfl
 refine ⟨_,(zf (zj (zR zas rfl T.zbu PyProof.Rows.boot_list (za (zI T.zw T.zbr (pv 0)) zb)))),?_⟩
 obtain ⟨xs,e,hR,hl⟩:=B.rates
 nofun
 refine ⟨a,A.dx,_,_,rfl,B.ins,rfl,?_⟩
 nofun
 exact ⟨A.r,xs,rfl,.inl (SqL.of e),fun q nq=>h q xs nq hR hl⟩
def zdY (K:W.Frag):Sp:=fun vs H Q _=>∃ (a:Addr) (A:BkA) (b:BkT),vs=[.ref a]/\zW K H a A b/\∀ q xs,H q=none->zx K H xs b.spans->b.spans.length<=1000->Q (.ref q) (upd H q (.lst xs))
theorem zkL:zi qaa qaa (zg zcS):=by walk_at "sp"
theorem zlR (S:zv K (cA K "Book") "stills" "Book.stills" zcS qaa) (T:Txt K mg)  : zu P w K mg base 1 (cA K "Book") "stills" qaa (zdY K):=by
 exists S.ok,zkL,0
 all_goals obtain ⟨a,A,b,rfl,B,h⟩:=h
 ·rfl
 refine ⟨_,(zf (zj (zR zas rfl T.zbu PyProof.Rows.boot_list (za (zI T.zw T.zbZ (pv 0)) zb)))),?_⟩
 obtain ⟨xs,e,hR,hl⟩:=B.spans
 nofun
 refine ⟨a,A.dx,_,_,rfl,B.ins,rfl,?_⟩
 nofun
 exact ⟨A.s,xs,rfl,.inl (SqL.of e),fun q nq=>h q xs nq hR hl⟩
def zh6 (K:W.Frag):Sp:=fun vs H Q _=>∃ (a:Addr) (A:BkA) (b:BkT),vs=[.ref a]/\zW K H a A b/\∀ q,H q=none->Q (.ref q) (upd H q (.lst (b.turns.map V.int)))
theorem zlM:zi qaa qaa (zg zdF):=by walk_at "sp"
theorem zmn (S:zv K (cA K "Book") "turns" "Book.turns" zdF qaa) (T:Txt K mg)  : zu P w K mg base 1 (cA K "Book") "turns" qaa (zh6 K):=by
 exists S.ok,zlM,0
 all_goals obtain ⟨a,A,b,rfl,B,h⟩:=h
 ·rfl
 refine ⟨_,(zf (zj (zR zas rfl T.zbu PyProof.Rows.boot_list (za (zI T.zw T.zaP (pv 0)) zb)))),?_⟩
 nofun
 refine ⟨a,A.dx,_,_,rfl,B.ins,rfl,?_⟩
 nofun
 exact ⟨A.t,_,rfl,.inl (SqL.of B.turns),fun q nq=>h q nq⟩
noncomputable def cellAt (ns:List Int) (k:Nat):Int:=ns.getD k 0
def zgv (K:W.Frag):Sp:=fun vs H Q _=>∃ (p:Addr) (ns:List Int) (k:Nat),vs=[.ref p,.int k]/\SqL K H p (ns.map V.int)/\Q (.int (cellAt ns k)) H
theorem zkp:zi qav qav (zg zcH):=by walk_at "sp"
theorem zk4 (S:Src K mg "_law_cell_at" zcH qav) (T:Txt K mg)  : Def P w K mg base 1 "_law_cell_at" qav (zgv K):=by
 exists S.ok,zkp,0
 all_goals obtain ⟨p,ns,k,rfl,hp,h⟩:=h
 ·rfl
 refine ⟨_,(zc (zaa (zz zdq (pv 1) (zy zZ rfl T.zbP PySem.boot_len (za (pv 0) zb)) (nomark _))
  (zf (zj (zr zG (pv 0) (pv 1) (fun _ _=>rfl))))
   zY)
  (zf (zj zd))),?_⟩
 nofun
 ·rename_i q
  rw[yab] at q
  have kl:k<ns.length:=by ac_rfl
  refine ⟨p,_,_,_,rfl,rfl,hp,zak (by rw[yaf,yaa kl];rfl),?_⟩
  unfold cellAt at h
  rw[yac,yaa kl] at h
  exact h
 ·rename_i q
  rw[yab] at q
  unfold cellAt at h
  rw[yac,yap (by ac_rfl)] at h
  nofun
  exact h
def zeT (K:W.Frag):Sp:=fun vs H Q _=>∃ c k,vs=[.int c,.int k]/\0<=k/\k<=20/\∀ p (ns:List Int) H',Same H H'->H p=none->H' p=some (.lst (ns.map V.int))->(ns.length:Int)=k->(∀ x∈ns,(0:Int)<=x/\x<10000000000000)->Q (.ref p) H'
theorem zav:zi ["_law_cell", "_law_many", "_law_found", "_law_number", "_law_one", "_law_other", "_law_k"] qaw (zg zdo):=by walk_at "sp"
theorem zna (S:Src K mg "_law_draws" zdo qaw) (T:Txt K mg)  : Def P w K mg base 1 "_law_draws" qaw (zeT K):=by
 exists S.ok,zav,0
 all_goals obtain ⟨c,k,rfl,k0,k1,h⟩:=h
 ·rfl
 refine ⟨_,(zc (zo (i:=2) zav.nd rfl (by walk_at "lc") (zai zb))
  (zc (zo (i:=3) zav.nd rfl (by walk_at "lc") (zk zdd (pv 0) zd))
  (zc (zo (i:=4) zav.nd rfl (by walk_at "lc") (zk zQ (zk zal (pv 0) zd) zd))
  (zc (zo (i:=5) zav.nd rfl (by walk_at "lc") (zk zQ (zk zal (pv 0) zd) zd))
  (zc (zch PassesOwn.never rfl (zaU rfl T.zaV (za (pv 1) zb)) (zay (i:=6) zav.nd rfl (by walk_at "lc"))
  (zc (zo (i:=4) zav.nd rfl (by walk_at "lc") (zk zal (zk zcN (pv 4) zd) zd))
  (zc (zo (i:=5) zav.nd rfl (by walk_at "lc") (zk zal (zk zQ (zk zcN (pv 5) (pv 5)) (pv 4)) zd))
  (zf (zaa (PW.pt (zil (zz zgp (pv 0) (zea (v:=1000000000000000000) (by decide +kernel) ⟨by decide,by decide,by decide⟩) (nomark _)) (zil (zz za9 (zk zal (pv 0) zd) zd (nomark _)) (zi6 (zz zgp (pv 3) zd (nomark _))))))
  (zc (zK (zep PySem.F.plainAttrs_list PySem.F.slot_list_append PySem.F.type_list_append zbi (pv 2) (za (zk zal (pv 3) (zea (v:=10000000000000) (by decide +kernel) ⟨by decide,by decide,by decide⟩)) zb)))
  (zf (zo (i:=3) zav.nd rfl (by walk_at "lc") (zk zjZ (pv 3) (zea (v:=10000000000000) (by decide +kernel) ⟨by decide,by decide,by decide⟩)))))
  (zf (zK (zep PySem.F.plainAttrs_list PySem.F.slot_list_append PySem.F.type_list_append zbi (pv 2) (za (zk zdd (zk zal (zk zQ (pv 4) (zk zcN (pv 5) zd)) zd) zd) zb)))))))))
  (zf (zj (pv 2)))))))),?_⟩
 have sz:=sizeLine_eq
 nofun
 intro p np
 have sp:=ze np (.lst [])
 nofun
 have o0:0<=c % 2147483647:=ydu _ (by decide)
 have o1:c % 2147483647<2147483647:=ydt _ (by decide)
 have p0:0<=c % 998244353:=ydu _ (by decide)
 have p1:c % 998244353<998244353:=ydt _ (by decide)
 refine zgc (fun i σ H'=>L2.Ee5 fun (ns:List Int) (a b e:Int) (z:Option V)=>L2.Aa5 ((Same H H'/\H' p=some (.lst (ns.map V.int)))) (ns.length=i) ((∀ x∈ns,(0:Int)<=x/\x<10000000000000)) ((0<=a/\a<4294967296/\0<=b/\b<4294967296)) (σ=[some (.int c),some (.int k),some (.ref p),some (.int e),some (.int a),some (.int b),z]))
  ⟨[],_,_,_,_,⟨sp,zh⟩,rfl,fun x hx=>(by cases hx),⟨by ac_rfl,by ac_rfl,by ac_rfl,by ac_rfl⟩,rfl⟩ ?_ ?_
 ·rintro i σ H' hi ⟨ns,a,b,e,z,⟨sH,eP⟩,nl,nn,⟨a0,a1,b0,b1⟩,rfl⟩
  have ab:=ydu (a*48271) (show (2147483647:Int)≠0 by decide)
  have ab1:=ydt (a*48271) (show (0:Int)<2147483647 by decide)
  have bb:=ydu (b*b+a*48271 % 2147483647) (show (998244353:Int)≠0 by decide)
  have bb1:=ydt (b*b+a*48271 % 2147483647) (show (0:Int)<998244353 by decide)
  have snoc:∀ y:Int,(0<=y/\y<10000000000000)->∀ x∈ns++[y],(0:Int)<=x/\x<10000000000000:=fun y hy x hx=>by
   rcases yag.mp hx with hx | hx
   ·exact nn x hx
   ·obtain rfl:x=y:=by simpa using hx
    exact hy
  have eP':∀ y:Int,(upd H' p (.lst (ns.map V.int++[.int y]))) p=some (.lst ((ns++[y]).map V.int)):=fun y=>by rw[yas];exact zh
  have small:∀ z:Int,(0:Int)<=z % 2147483647 / 7/\z % 2147483647 / 7<10000000000000:=fun z=>by
   have:=ydu z (show (2147483647:Int)≠0 by decide)
   have:=ydt z (show (0:Int)<2147483647 by decide)
   ac_rfl
  have i20:i<20:=by ac_rfl
  nofun
  ·refine ⟨.inl ⟨rfl,_,SqL.of eP⟩,?_⟩
   nofun
   refine ⟨p,_,_,rfl,rfl,eP,by rw[yab];ac_rfl,?_⟩
   nofun
   exact ⟨ns++[_],_,_,_,_,⟨zJ sH np,eP' _⟩,by rw[yae,nl];rfl,snoc _ ⟨ydu _ (by decide),ydt _ (by decide)⟩,⟨ab,by ac_rfl,bb,by ac_rfl⟩,rfl⟩
  all_goals
   refine ⟨.inl ⟨rfl,_,SqL.of eP⟩,?_⟩
   nofun
   refine ⟨p,_,_,rfl,rfl,eP,by rw[yab];ac_rfl,?_⟩
   exact ⟨ns++[_],_,_,_,_,⟨zJ sH np,eP' _⟩,by rw[yae,nl];rfl,snoc _ (small _),⟨ab,by ac_rfl,bb,by ac_rfl⟩,rfl⟩
 ·rintro σ H' ⟨ns,a,b,e,z,⟨sH,eP⟩,nl,nn,_,rfl⟩
  nofun
  exact h p ns H' sH np eP (by ac_rfl) nn
def zjs (K:W.Frag):Sp:=fun vs H Q _=>L2.Ee4 fun a xs (t:List (Int × Int)) d=>L2.Aa6 (vs=[.ref a,.int d]) (SqL K H a xs) (zx K H xs t) ((t.Pairwise fun s u=>s.1<u.1)) ((∀ s∈t,0<=s.1)) (Q (.int (Sums.valOf t d)) H)
theorem zjB:zi ["table", "day", "many"] qbh (zg zfl):=by walk_at "sp"
theorem zpa (S:Src K mg "value_at" zfl qbh) (T:Txt K mg) (zcJ:Def P w K mg base 1 "begun" qaq (zhr K)):Def P w K mg base 2 "value_at" qbh (zjs K):=by
 exists S.ok,zjB,0
 all_goals obtain ⟨a,xs,t,d,rfl,hS,hR,up,t0,h⟩:=h
 ·rfl
 refine ⟨_,(zc (zo (i:=2) zjB.nd rfl (by walk_at "lc") (zt zcJ hr (za (pv 0) (za (pv 1) zb))))
  (zc (zaa (zz za9 (pv 2) zd (nomark _))
  (zf (zj zd))
   zY)
  (zf (zj (zr zP (zr zG (pv 0) (zk zce (pv 2) zd) (fun _ _=>rfl)) zd (fun _ _=>rfl)))))),?_⟩
 have xl:=hR.length
 nofun
 refine ⟨a,xs,t.map (·.1),d,rfl,hS,zoQ hR,by rw[yby];exact up,?_⟩
 intro n B'
 have B:=B'.rows
 nofun
 ·rename_i q
  have:n=0:=by ac_rfl
  subst this
  rw[Stills.zrt t0 B] at h
  exact h
 ·rename_i q
  obtain ⟨k,rfl⟩:∃ k,n=k+1:=⟨n-1,by ac_rfl⟩
  have kl:=B.le
  obtain ⟨p,s,ex,es,hp⟩:=hR.get (yaa (by ac_rfl:k<xs.length))
  have ek:((k+1:Nat):Int)-1=(k:Int):=by ac_rfl
  have at_:atI xs (((k+1:Nat):Int)-1)=some (.ref p):=by
   rw[ek]
   exact zak (by rw[yaa (by ac_rfl:k<xs.length),ex])
  refine ⟨a,_,_,_,rfl,rfl,hS,at_,?_⟩
  nofun
  rw[Stills.zq2 t0 up B es] at h
  exact h
def ziY (K:W.Frag):Sp:=fun vs H Q _=>∃ (a:Addr) (A:BkA) (b:BkT),vs=[.ref a]/\zW K H a A b /\
 ∀ p ws H',H p=none->Same H H'->H' p=some (.lst ws)->zx K H' ws (runs 0 (shf b.g b.dues))->Q (.ref p) H'
theorem zmF:zi qah qah (zg zez):=by walk_at "sp"
theorem zn5 (S:Src K mg "late_sums" zez qah) (T:Txt K mg) (zaY:Def P w K mg base 1 "running_sums" qam (zdx K)) (zb4:zu P w K mg base 1 (cA K "Book") "dues" qaa (zfM K)) (zbA:zu P w K mg base 1 (cA K "Book") "grace" qaa (zeO K)):Def P w K mg base 2 "late_sums" qah (ziY K):=by
 exists S.ok,zmF,0
 all_goals obtain ⟨a,A,b,rfl,B,h⟩:=h
 ·rfl
 refine ⟨_,(zf (zj (zt zaY hr (za (zaM (ix:=[0]) ⟨rfl,by decide +kernel,rfl,by decide +kernel,rfl,(show (["due", "book"]:List Str).Nodup by decide +kernel),by walk_at "cap", by walk_at "sub", by walk_at "has"⟩ (zV (zC zb4 T.zw hr (pv 0))) (fun b=>(zO (za (zk zQ (zr (zbz K) (pv 0) zd (fun _ _=>rfl)) (zC zbA T.zw hr (pv 1))) (za (zr (zbz K) (pv 0) zd (fun _ _=>rfl)) zb))))) zb)))),?_⟩
 have sz:=sizeLine_eq
 nofun
 refine ⟨a,A.dx,_,rfl,B.ins,rfl,a,A,b,rfl,B,fun q xs nq hR hl=>?_⟩
 have s1:=ze nq (.lst xs)
 have eQ:=zq (.lst xs) nq
 have hR1:=hR.same s1
 have xl:=hR.length
 generalize upd H q (.lst xs)=H1 at s1 eQ hR1 ⊢
 have B1:=B.same s1
 nofun
 refine ⟨⟨_,SqL.of eQ⟩,fun l nl=>?_⟩
 refine comp_map (zaz (SqL.of eQ)) nl (by ac_rfl) b.dues xl.symm (fun H' v s=>∃ t,v=.ref t/\H' t=some (.tup [.int (s.1+b.g),.int s.2])) (fun v e H1 H2 s ⟨t,e1,e2⟩=>⟨t,e1,s _ _ e2⟩) (fun v e H1 ys zs hL ⟨t,e1,e2⟩=>⟨t,e1,by rw[zp (zaw e2 hL (by intro z;cases z))];exact e2⟩) ?_ ?_
 ·rintro i x s H' Q' hx hs sH hq
  obtain ⟨u,s',rfl,hs',hu⟩:=(hR1.same sH).get hx
  obtain rfl:s'=s:=Option.some.inj (hs'.symm.trans hs)
  have B':=B1.same sH
  nofun
  refine ⟨a,A.dx,_,rfl,B'.ins,rfl,a,A,b,rfl,B',?_⟩
  nofun
  intro t nt
  exact hq _ _ (ze nt _) ⟨t,rfl,zh⟩
 rintro ys H2 s2 eL hL
 have hS:zx K H2 ys (shf b.g b.dues):=by
  unfold shf
  clear eL
  revert hL
  generalize b.dues=l
  intro hL
  induction hL with
  | nil=>exact .nil
  | cons h _ ih =>
   obtain ⟨t,rfl,e⟩:=h
   exact .cons e ih
 have sl:(shf b.g b.dues).length<=1000:=by unfold shf;rw[yab];exact hl
 nofun
 rename_i p ws H3
 intro np s3 eP rP
 exact h p ws H3 (zD (s1.trans s2) np) (s1.trans (s2.trans s3)) eP rP
def zbq (K:W.Frag):Sp:=fun vs H Q _=>L2.Ee6 fun p dx u m n x=>L2.Aa4 (vs=[.ref p,.int x]) (Deb K H p dx u m n) ((0<u/\u<1152921504606846976)) (Q .non (upd H p (.ins (cA K "Debt") dx (zab u (Dbt.mn m (Dbt.mx 0 ((n+u*x) / u))) (n+u*x)))))
theorem zjm:zi qad qad (zg zbS):=by walk_at "sp"
theorem zjF (S:zv K (cA K "Debt") "add_cents" "Debt.add_cents" zbS qad) (T:Txt K mg) (zap:zu P w K mg base 1 (cA K "Debt") "owed" qaa (zcj K)):zu P w K mg base 2 (cA K "Debt") "add_cents" qad (zbq K):=by
 exists S.ok,zjm,0
 all_goals obtain ⟨p,dx,u,m,n,x,rfl,e,⟨u0,u1⟩,h⟩:=h
 ·rfl
 refine ⟨_,(zc (zah T.zB T.zL (pv 0) (zk zQ (zI T.zB T.zL (pv 0)) (zk zcN (zI T.zB T.zaB (pv 0)) (pv 1))))
  (zf (zah T.zB T.zE (pv 0) (zy (zf8 rfl) rfl T.zi1 PyProof.Rows.boot_min (za (zI T.zB T.zE (pv 0)) (za (zy (zc9 rfl) rfl T.zgl PyProof.Rows.boot_max (za zd (za (zC zap T.zB hr (pv 0)) zb))) zb)))))),?_⟩
 nofun
 refine ⟨p,dx,_,_,rfl,e,rfl,?_⟩
 nofun
 refine ⟨p,dx,_,_,rfl,e,rfl,?_⟩
 nofun
 refine ⟨p,dx,_,rfl,e,zbl,?_⟩
 rw[zo9]
 have e1:Deb K (upd H p (.ins (cA K "Debt") dx (zab u m (n+u*x)))) p dx u m (n+u*x):=zh
 nofun
 refine ⟨p,dx,_,_,rfl,e1,rfl,?_⟩
 nofun
 refine ⟨p,dx,_,rfl,e1,rfl,p,dx,u,m,_,rfl,e1,⟨u0,u1⟩,?_⟩
 nofun
 refine ⟨p,dx,_,rfl,e1,zbl,?_⟩
 rw[zmf,zad]
 exact h
def ziv (K:W.Frag):Sp:=fun vs H Q _=>L2.Ee5 fun p dx u m n=>L2.Aa4 (vs=[.ref p]) (Deb K H p dx u m n) ((0<u/\u<1152921504606846976)) (Q .non (upd H p (.ins (cA K "Debt") dx (zab u (Dbt.step u .turn 0 m n).1 (Dbt.step u .turn 0 m n).2))))
theorem zmk:zi qaa qaa (zg zet):=by walk_at "sp"
theorem znN (S:zv K (cA K "Debt") "turn" "Debt.turn" zet qaa) (T:Txt K mg) (zap:zu P w K mg base 1 (cA K "Debt") "owed" qaa (zcj K)):zu P w K mg base 2 (cA K "Debt") "turn" qaa (ziv K):=by
 exists S.ok,zmk,0
 all_goals obtain ⟨p,dx,u,m,n,rfl,e,hu,h⟩:=h
 ·rfl
 refine ⟨_,(zf (zah T.zB T.zE (pv 0) (zy (zc9 rfl) rfl T.zgl PyProof.Rows.boot_max (za zd (za (zC zap T.zB hr (pv 0)) zb))))),?_⟩
 nofun
 refine ⟨p,dx,_,rfl,e,rfl,p,dx,u,m,n,rfl,e,hu,?_⟩
 nofun
 refine ⟨p,dx,_,rfl,e,zbl,?_⟩
 rw[zmf]
 exact h
def zjJ (K:W.Frag):Sp:=fun vs H Q _=>L2.Ee4 fun a xs l d=>L2.Aa5 (vs=[.ref a,.int d]) (SqL K H a xs) (zx K H xs l) (Spans.Joined l) (∀ m,Stills.Free l d m->Q (.int m) H)
theorem znq:zi ["spans", "day", "many"] qan (zg zi4):=by walk_at "sp"
theorem zsD (S:Src K mg "moved" zi4 qan) (T:Txt K mg) (zcJ:Def P w K mg base 1 "begun" qaq (zhr K)):Def P w K mg base 2 "moved" qan (zjJ K):=by
 exists S.ok,znq,0
 all_goals obtain ⟨a,xs,l,d,rfl,hS,hR,J,h⟩:=h
 ·rfl
 refine ⟨_,(zc (zo (i:=2) znq.nd rfl (by walk_at "lc") (zt zcJ hr (za (pv 0) (za (pv 1) zb))))
  (zc (zaa (zz za9 (pv 2) zd (nomark _))
  (zf (zj (pv 1)))
   zY)
  (zf (zj (zy (zc9 rfl) rfl T.zgl PyProof.Rows.boot_max (za (pv 1) (za (zr zP (zr zG (pv 0) (zk zce (pv 2) zd) (fun _ _=>rfl)) zd (fun _ _=>rfl)) zb))))))),?_⟩
 have xl:=hR.length
 nofun
 refine ⟨a,xs,l.map (·.1),d,rfl,hS,zoQ hR,yby.mpr (Stills.zqF J),?_⟩
 intro n B0
 have B:=B0.rows
 nofun
 ·rename_i q
  have:n=0:=by ac_rfl
  subst this
  exact h _ (Stills.zo7 B)
 ·rename_i q
  obtain ⟨k,rfl⟩:∃ k,n=k+1:=⟨n-1,by ac_rfl⟩
  have kl:=B.le
  obtain ⟨p,s,ex,es,hp⟩:=hR.get (yaa (by ac_rfl:k<xs.length))
  have ek:((k+1:Nat):Int)-1=(k:Int):=by ac_rfl
  have at_:atI xs (((k+1:Nat):Int)-1)=some (.ref p):=by
   rw[ek]
   exact zak (by rw[yaa (by ac_rfl:k<xs.length),ex])
  refine ⟨a,_,_,_,rfl,rfl,hS,at_,?_⟩
  nofun
  exact h _ (Stills.zpg J B es)
def zgm (K:W.Frag):Sp:=fun vs H Q _=>∃ a A b,vs=[.ref a]/\zW K H a A b/\BOk b /\
 ∀ p (ns:List Int) H',H p=none->Same H H'->H' p=some (.lst (ns.map V.int))->ns.Pairwise (·<·)->(∀ d,d∈ns↔TDay b d)->ns.length<64->Q (.ref p) H'
theorem zdh:zi ["book", "days", "span"] qah (zg zcI):=by walk_at "sp"
theorem zle (S:Src K mg "turning_days" zcI qah) (T:Txt K mg) (zbD:zu P w K mg base 1 (cA K "Book") "rates" qaa (zeR K)) (zbG:zu P w K mg base 1 (cA K "Book") "lates" qaa (ze3 K)) (zaK:zu P w K mg base 1 (cA K "Book") "pays" qaa (zdv K)) (zb4:zu P w K mg base 1 (cA K "Book") "dues" qaa (zfM K)) (zbA:zu P w K mg base 1 (cA K "Book") "grace" qaa (zeO K)) (zbd:zu P w K mg base 1 (cA K "Book") "stills" qaa (zdY K)):Def P w K mg base 2 "turning_days" qah (zgm K):=by
 exists S.ok,zdh,0
 all_goals obtain ⟨a,A,b,rfl,B,O,h⟩:=h
 ·rfl
 refine ⟨_,(zc (zo (i:=1) zdh.nd rfl (by walk_at "lc") (zai (za zd zb)))
  (zc (zK (zep PySem.F.plainAttrs_list PySem.F.slot_list_extend PySem.F.type_list_extend zll (pv 1) (za (zaM (ix:=[]) ⟨rfl,by decide +kernel,rfl,by decide +kernel,rfl,(show (["row"]:List Str).Nodup by decide +kernel),by walk_at "cap", by walk_at "sub", by walk_at "has"⟩ (zV (zk zcc (zk zcc (zC zbD T.zw hr (pv 0)) (zC zbG T.zw hr (pv 0))) (zC zaK T.zw hr (pv 0)))) (fun b=>(zr (zbz K) (pv 0) zd (fun _ _=>rfl)))) zb)))
  (zc (zK (zep PySem.F.plainAttrs_list PySem.F.slot_list_extend PySem.F.type_list_extend zll (pv 1) (za (zaM (ix:=[0]) ⟨rfl,by decide +kernel,rfl,by decide +kernel,rfl,(show (["row", "book"]:List Str).Nodup by decide +kernel),by walk_at "cap", by walk_at "sub", by walk_at "has"⟩ (zV (zC zb4 T.zw hr (pv 0))) (fun b=>(zk zQ (zr (zbz K) (pv 0) zd (fun _ _=>rfl)) (zC zbA T.zw hr (pv 1))))) zb)))
  (zc (zch PassesOwn.never rfl (zV (zC zbd T.zw hr (pv 0))) (zay (i:=2) zdh.nd rfl (by walk_at "lc"))
  (zf (zK (zep PySem.F.plainAttrs_list PySem.F.slot_list_extend PySem.F.type_list_extend zpm (pv 1) (za (pv 2) zb)))))
  (zf (zj (zy (zdw rfl) rfl T.zbN PyProof.Rows.boot_sorted (za (zR (zgr rfl) rfl T.zjf PyProof.Rows.boot_set (za (pv 1) zb)) zb)))))))),?_⟩
 have sz:=sizeLine_eq
 have osz:=O.sz
 nofun
 intro p np
 have s1:=ze np (.lst [.int 0])
 have eP:=zq (.lst [.int 0]) np
 generalize upd H p (.lst [.int 0])=H1 at s1 eP ⊢
 have B1:=B.same s1
 nofun
 refine ⟨.inl ⟨rfl,_,SqL.of eP⟩,?_⟩
 nofun
 refine ⟨a,A.dx,_,rfl,B1.ins,rfl,a,A,b,rfl,B1,fun q1 x1 n1 r1 l1=>?_⟩
 have t1:=ze n1 (.lst x1)
 have e1:=zq (.lst x1) n1
 have B2:=B1.same t1
 nofun
 refine ⟨a,A.dx,_,rfl,B2.ins,rfl,a,A,b,rfl,B2,fun q2 x2 n2 r2 l2=>?_⟩
 have t2:=ze n2 (.lst x2)
 have e2:=zq (.lst x2) n2
 have c1:=r1.length
 have c2:=r2.length
 refine ⟨q1,q2,x1,x2,rfl,rfl,t2 _ _ e1,e2,by ac_rfl,fun q3 n3=>?_⟩
 have t3:=ze n3 (.lst (x1++x2))
 have e3:=zq (.lst (x1++x2)) n3
 have B4:=B2.same (t2.trans t3)
 nofun
 refine ⟨a,A.dx,_,rfl,B4.ins,rfl,a,A,b,rfl,B4,fun q4 x4 n4 r4 l4=>?_⟩
 have t4:=ze n4 (.lst x4)
 have e4:=zq (.lst x4) n4
 have c4:=r4.length
 refine ⟨q3,q4,x1++x2,x4,rfl,rfl,t4 _ _ e3,e4,by rw[yae];ac_rfl,fun q5 n5=>?_⟩
 have t5:=ze n5 (.lst (x1++x2++x4))
 have e5:=zq (.lst (x1++x2++x4)) n5
 have t15:=t1.trans (t2.trans (t3.trans (t4.trans t5)))
 have rX:zx K _ (x1++x2++x4) (b.rates++b.lates++b.pays):=zhY (zhY (r1.same t15) (r2.same (t2.trans (t3.trans (t4.trans t5))))) (r4.same (t4.trans t5))
 have eP5:=t15 _ _ eP
 have s15:=s1.trans t15
 generalize upd (upd (upd (upd (upd H1 q1 (.lst x1)) q2 (.lst x2)) q3 (.lst (x1++x2))) q4 (.lst x4)) q5 (.lst (x1++x2++x4))=H5 at rX eP5 s15 e5 ⊢
 have xl:=rX.length
 clear t15 t1 t2 t3 t4 t5 e1 e2 e3 e4 B2 B4 r1 r2 r4
 nofun
 refine ⟨⟨_,SqL.of e5⟩,fun l6 n6=>?_⟩
 have gd:∀ (u:List (Int × Int)) (f:Int × Int->Int) (i:Nat) (s:Int × Int),u[i]?=some s->(u.map f).getD i 0=f s:=fun u f i s e=>by
  rw[yac,yaf,e];rfl
 have xl2:(x1++x2++x4).length<=63:=by rw[yae,yae];ac_rfl
 refine zgt (fun i v=>v=.int (((b.rates++b.lates++b.pays).map (·.1)).getD i 0)) (SqL.of e5) n6 (by ac_rfl) ?_ ?_
 ·intro i x H' Q' hx sH hq
  obtain ⟨p,s,rfl,e,ht⟩:=rX.get hx
  nofun
  exact ⟨p,_,_,_,rfl,rfl,SqT.of (sH _ _ ht),rfl,hq _ (by rw[gd _ _ i s e])⟩
 intro ys1 len1 hp1
 obtain rfl:=zk7 (ns:=(b.rates++b.lates++b.pays).map (·.1)) (by rw[len1,yab,xl]) hp1
 have s6:=ze n6 (.lst (((b.rates++b.lates++b.pays).map (·.1)).map V.int))
 have e6:=zq (.lst (((b.rates++b.lates++b.pays).map (·.1)).map V.int)) n6
 have eP6:=s6 _ _ eP5
 have kl:((b.rates++b.lates++b.pays).map (·.1)).length=b.rates.length+b.lates.length+b.pays.length:=by rw[yab,yae,yae]
 nofun
 refine ⟨p,l6,_,_,rfl,rfl,eP6,e6,by rw[yab];show 1+_<=_;ac_rfl,?_⟩
 generalize hD1:(b.rates++b.lates++b.pays).map (·.1)=D1 at *
 have s7:Same H (upd (upd H5 l6 (.lst (D1.map V.int))) p (.lst ([.int 0]++D1.map V.int))):=zJ (s15.trans s6) np
 have eP7:(upd (upd H5 l6 (.lst (D1.map V.int))) p (.lst ([.int 0]++D1.map V.int))) p=some (.lst ((0::D1).map V.int)):=zh
 generalize upd (upd H5 l6 (.lst (D1.map V.int))) p (.lst ([.int 0]++D1.map V.int))=H7 at s7 eP7 ⊢
 have B7:=B.same s7
 nofun
 refine ⟨.inl ⟨rfl,_,SqL.of eP7⟩,?_⟩
 nofun
 refine ⟨a,A.dx,_,rfl,B7.ins,rfl,a,A,b,rfl,B7,fun q8 x8 n8 r8 l8=>?_⟩
 have s8:=ze n8 (.lst x8)
 have e8:=zq (.lst x8) n8
 have r8':=r8.same s8
 have c8:=r8.length
 have eP8:=s8 _ _ eP7
 have s78:=s7.trans s8
 generalize upd H7 q8 (.lst x8)=H8 at s8 e8 r8' eP8 s78 ⊢
 have B8:=B.same s78
 nofun
 refine ⟨⟨_,SqL.of e8⟩,fun l9 n9=>?_⟩
 refine zgt (fun i v=>v=.int ((b.dues.map fun s=>s.1+b.g).getD i 0)) (SqL.of e8) n9 (by ac_rfl) ?_ ?_
 ·intro i x H' Q' hx sH hq
  obtain ⟨u,s,rfl,e,ht⟩:=r8'.get hx
  have hu:=sH _ _ ht
  nofun
  refine ⟨a,A.dx,_,rfl,(B8.same sH).ins,rfl,a,A,b,rfl,B8.same sH,?_⟩
  nofun
  exact hq _ (by rw[gd _ _ i s e])
 intro ys2 len2 hp2
 obtain rfl:=zk7 (ns:=b.dues.map fun s=>s.1+b.g) (by rw[len2,yab,c8]) hp2
 have s9:=ze n9 (.lst ((b.dues.map fun s=>s.1+b.g).map V.int))
 have e9:=zq (.lst ((b.dues.map fun s=>s.1+b.g).map V.int)) n9
 have eP9:=s9 _ _ eP8
 have kl2:(b.dues.map fun s=>s.1+b.g).length=b.dues.length:=yab ..
 nofun
 refine ⟨p,l9,_,_,rfl,rfl,eP9,e9,by rw[yab,yab];show D1.length+1+_<=_;ac_rfl,?_⟩
 generalize hD2:(b.dues.map fun s=>s.1+b.g)=D2 at *
 have cat:(0::D1).map V.int++D2.map V.int=(0::D1++D2).map V.int:=by rw[yas]
 rw[cat]
 have sA:Same H (upd (upd H8 l9 (.lst (D2.map V.int))) p (.lst ((0::D1++D2).map V.int))):=zJ (s78.trans s9) np
 have ePA:(upd (upd H8 l9 (.lst (D2.map V.int))) p (.lst ((0::D1++D2).map V.int))) p=some (.lst ((0::D1++D2).map V.int)):=zh
 generalize upd (upd H8 l9 (.lst (D2.map V.int))) p (.lst ((0::D1++D2).map V.int))=HA at sA ePA ⊢
 have BA:=B.same sA
 nofun
 refine ⟨a,A.dx,_,rfl,BA.ins,rfl,a,A,b,rfl,BA,fun qS xS nS rS lS=>?_⟩
 have sS:=ze nS (.lst xS)
 have eS:=zq (.lst xS) nS
 have rS':=rS.same sS
 have cS:=rS.length
 have ePS:=sS _ _ ePA
 have sB:=sA.trans sS
 have nqp:qS≠p:=(zN ePA nS).symm
 generalize upd HA qS (.lst xS)=HB at sS eS rS' ePS sB ⊢
 nofun
 refine ⟨⟨_,SqL.of eS⟩,zcY (xs:=xS) (fun i σ H'=>∃ (D3:List Int) (z:Option V),(Same H H'/\H' p=some (.lst ((0::D1++D2++D3).map V.int))/\H' qS=some (.lst xS)/\zx K H' xS b.spans)/\D3.length=2*i/\(∀ d,d∈D3↔∃ s∈b.spans.take i,d=s.1\/d=s.2)/\σ=[some (.ref a),some (.ref p),z])
  ⟨[],_,⟨sB,by rw[ybi];exact ePS,eS,rS'⟩,rfl,fun d=>by simp,rfl⟩ ?_ ?_ ?_⟩
 ·rintro i σ H' _ ⟨D3,z,⟨_,_,e,_⟩,_⟩
  exact SqL.of e
 ·rintro i x σ H' hx ⟨D3,z,⟨sH,eP',eS',rS''⟩,dl,mem,rfl⟩
  obtain ⟨u,s,rfl,hs,hu⟩:=rS''.get hx
  have il:i<b.spans.length:=(yad.mp hs).1
  have tk:b.spans.take (i+1)=b.spans.take i++[s]:=by rw[yaz,hs];rfl
  nofun
  refine ⟨.inl ⟨rfl,_,SqL.of eP'⟩,?_⟩
  nofun
  refine ⟨p,u,_,_,rfl,rfl,eP',hu,by simp;ac_rfl,?_⟩
  refine ⟨D3++[s.1,s.2],_,⟨zJ sH np,by rw[<-ycc,yas (l₂:=[s.1,s.2])];exact zh,by rw[zp nqp];exact eS',rS''.put eP'⟩,by rw[yae];show D3.length+2=_;ac_rfl,fun d=>?_,rfl⟩
  rw[yag,mem,tk]
  constructor
  ·rintro (⟨u,hu,e⟩ | e)
   ·exact ⟨u,yag.mpr (.inl hu),e⟩
   ·exact ⟨s,yag.mpr (.inr (by simp)),by simpa using e⟩
  ·rintro ⟨u,hu,e⟩
   rcases yag.mp hu with hu | hu
   ·exact .inl ⟨u,hu,e⟩
   ·obtain rfl:u=s:=by simpa using hu
    exact .inr (by simpa using e)
 ·rintro σ H' ⟨D3,z,⟨sH,eP',eS',rS''⟩,dl,mem,rfl⟩
  rw[cS,ycf] at mem
  rw[cS] at dl
  nofun
  refine ⟨p,_,rfl,SqL.of eP',by simp;ac_rfl,fun pS HS ms nPS sPS ePS2 nd mm lm=>?_⟩
  nofun
  refine ⟨pS,ms,rfl,ePS2,ycy lm (by simp;ac_rfl),fun pR HR ns nPR sPR ePR pm up=>?_⟩
  refine h pR ns HR (zD (sH.trans sPS) nPR) (sH.trans (sPS.trans sPR)) ePR (ziM pm nd up) (fun d=>?_) (by rw[pm.length_eq];exact ycy lm (by simp;ac_rfl))
  rw[pm.mem_iff,mm,yag,yag,yak,mem,<-hD1,<-hD2]
  unfold TDay
  constructor
  ·rintro (((h1 | h1) | h1) | h1)
   ·exact .inl h1
   ·obtain ⟨s,hs,e⟩:=yah.mp h1
    exact .inr (.inl ⟨s,hs,e.symm⟩)
   ·obtain ⟨s,hs,e⟩:=yah.mp h1
    exact .inr (.inr (.inl ⟨s,hs,e.symm⟩))
   ·exact .inr (.inr (.inr h1))
  ·rintro (h1 | ⟨s,hs,e⟩ | ⟨s,hs,e⟩ | h1)
   ·exact .inl (.inl (.inl h1))
   ·exact .inl (.inl (.inr (yah.mpr ⟨s,hs,e.symm⟩)))
   ·exact .inl (.inr (yah.mpr ⟨s,hs,e.symm⟩))
   ·exact .inr h1
def zeM (P:Program) (w:World) (K:W.Frag):Sp:=fun vs H Q _=>L2.Ee6 fun a p A (b:BkT) (ms:List Int) z=>L2.Aa6 (vs=[.ref a,.ref p]) (zW K H a A b) (zfB b) (H p=some (.lst ((ms++[z]).map V.int))) (b.outs.length+b.fees.length+b.pays.length+b.turns.length+ms.length<=60) (∀ q ws (ds:List Int) H',H q=none->Same H H'->H' q=some (.lst ws)->R5 b H' ws ds->ds.Pairwise (·<·)->(∀ d,d∈ds↔(DDay b d/\d<z)\/d∈ms++[z])->ds.length<=62->Q (.ref q) H')
theorem zbc:zi ["book", "days", "outs", "fees", "turns", "pays", "all_days"] qab (zg zdr):=by walk_at "sp"
theorem zmV (S:Src K mg "deeds_upto" zdr qab) (T:Txt K mg) (zgE:zu P w K mg base 1 (cA K "Book") "outs" qaa (ziE K)) (zgX:zu P w K mg base 1 (cA K "Book") "fees" qaa (zim K)) (zf5:zu P w K mg base 1 (cA K "Book") "turns" qaa (zh6 K)) (zaK:zu P w K mg base 1 (cA K "Book") "pays" qaa (zdv K)) (zc8:zu P w K mg base 1 (cA K "Book") "deed_days" qaa (ze8 K)):Def P w K mg base 2 "deeds_upto" qab (zeM P w K):=by
 exists S.ok,zbc,0
 all_goals obtain ⟨a,p,A,b,ms,z,rfl,B,I,hp,osz,h⟩:=h
 ·rfl
 refine ⟨_,(zc (zo (i:=2) zbc.nd rfl (by walk_at "lc") (zR (zdD rfl) rfl T.zeH PyProof.Rows.boot_dict (za (zC zgE T.zw hr (pv 0)) zb)))
  (zc (zo (i:=3) zbc.nd rfl (by walk_at "lc") (zR (zdD rfl) rfl T.zeH PyProof.Rows.boot_dict (za (zC zgX T.zw hr (pv 0)) zb)))
  (zc (zo (i:=4) zbc.nd rfl (by walk_at "lc") (zR (zdD rfl) rfl T.zeH PyProof.Rows.boot_dict (za (zaM (ix:=[]) ⟨rfl,by decide +kernel,rfl,by decide +kernel,rfl,(show (["turn"]:List Str).Nodup by decide +kernel),by walk_at "cap", by walk_at "sub", by walk_at "has"⟩ (zV (zC zf5 T.zw hr (pv 0))) (fun b=>(zO (za (pv 0) (za zd zb))))) zb)))
  (zc (zo (i:=5) zbc.nd rfl (by walk_at "lc") (zR (zdD rfl) rfl T.zeH PyProof.Rows.boot_dict (za (zC zaK T.zw hr (pv 0)) zb)))
  (zc (zo (i:=6) zbc.nd rfl (by walk_at "lc") (zy (zdw rfl) rfl T.zbN PyProof.Rows.boot_sorted (za (zR (zgr rfl) rfl T.zjf PyProof.Rows.boot_set (za (zk zcc (zdb (ix:=[1]) ⟨rfl,by decide +kernel,rfl,by decide +kernel,rfl,(show (["deed", "days"]:List Str).Nodup by decide +kernel),by walk_at "cap", by walk_at "sub", by walk_at "has"⟩ (zV (zC zc8 T.zw hr (pv 0))) (fun b=>(zz zdq (pv 0) (zr (zbK K) (pv 1) (zcU zbY zd) (fun _ _=>rfl)) (nomark _))) (fun b=>(pv 0))) (pv 1)) zb)) zb)))
  (zf (zj (zaM (ix:=[3,2,5,4]) ⟨rfl,by decide +kernel,rfl,by decide +kernel,rfl,(show (["deed", "fees", "outs", "pays", "turns"]:List Str).Nodup by decide +kernel),by walk_at "cap", by walk_at "sub", by walk_at "has"⟩ (zV (pv 6)) (fun b=>(zO (za (pv 0) (za (zhA P w (pv 2) (pv 0) zd) (za (zhA P w (pv 1) (pv 0) zd) (za (zhA P w (pv 4) (pv 0) zd) (za (zhA P w (pv 3) (pv 0) zd) zb))))))))))))))),?_⟩
 have sz:=sizeLine_eq
 nofun
 refine ⟨a,A.dx,_,rfl,B.ins,rfl,a,A,b,rfl,B,fun q1 x1 n1 r1 l1=>?_⟩
 have s1:=ze n1 (.lst x1)
 have e1:=zq (.lst x1) n1
 have r1':=r1.same s1
 generalize upd H q1 (.lst x1)=G1 at s1 e1 r1' ⊢
 nofun
 refine ⟨q1,x1,b.outs,rfl,e1,r1',by ac_rfl,fun d1 H1 nd1 t1 ed1=>?_⟩
 have u1:=s1.trans t1
 have B1:=B.same u1
 nofun
 refine ⟨a,A.dx,_,rfl,B1.ins,rfl,a,A,b,rfl,B1,fun q2 x2 n2 r2 l2=>?_⟩
 have s2:=ze n2 (.lst x2)
 have e2:=zq (.lst x2) n2
 have r2':=r2.same s2
 generalize upd H1 q2 (.lst x2)=G2 at s2 e2 r2' ⊢
 nofun
 refine ⟨q2,x2,b.fees,rfl,e2,r2',by ac_rfl,fun d2 H2 nd2 t2 ed2=>?_⟩
 have u2:=s2.trans t2
 have u12:=u1.trans u2
 have B2:=B.same u12
 have tnd:b.turns.Nodup:=Sby.zfd I.turns.up
 nofun
 refine ⟨a,A.dx,_,rfl,B2.ins,rfl,a,A,b,rfl,B2,fun q3 n3=>?_⟩
 have s3:=ze n3 (.lst (b.turns.map V.int))
 have e3:=zq (.lst (b.turns.map V.int)) n3
 generalize upd H2 q3 (.lst (b.turns.map V.int))=G3 at s3 e3 ⊢
 nofun
 refine ⟨⟨_,SqL.of e3⟩,fun l4 nl4=>?_⟩
 refine comp_map (zaz (SqL.of e3)) nl4 (by rw[yab];ac_rfl) b.turns (by rw[yab]) (fun H' v d=>∃ t,v=.ref t/\H' t=some (.tup [.int d,.int 1])) (fun v e H1 H2 s ⟨t,e1,e2⟩=>⟨t,e1,s _ _ e2⟩) (fun v e H1 ys zs hL ⟨t,e1,e2⟩=>⟨t,e1,by rw[zp (zaw e2 hL (by intro z;cases z))];exact e2⟩) ?_ ?_
 ·rintro i x d H' Q' hx hd sH hq
  rw[yaf,hd] at hx
  cases hx
  nofun
  intro t nt
  exact hq _ _ (ze nt _) ⟨t,rfl,zh⟩
 rintro y4 H4 t4 e4 hL4
 have r4:zx K H4 y4 (b.turns.map fun d=>(d,1)):=by
  clear e4 tnd
  revert hL4
  generalize b.turns=l
  intro hL
  induction hL with
  | nil=>exact .nil
  | cons h _ ih =>
   obtain ⟨t,rfl,e⟩:=h
   exact .cons e ih
 have u34:=s3.trans t4
 nofun
 refine ⟨l4,y4,b.turns.map fun d=>(d,1),rfl,e4,r4,by rw[yab];ac_rfl,fun d3 H5 nd3 t5 ed3=>?_⟩
 have u35:=u34.trans t5
 have u15:=u12.trans u35
 have B5:=B.same u15
 nofun
 refine ⟨a,A.dx,_,rfl,B5.ins,rfl,a,A,b,rfl,B5,fun q6 x6 n6 r6 l6=>?_⟩
 have s6:=ze n6 (.lst x6)
 have e6:=zq (.lst x6) n6
 have r6':=r6.same s6
 generalize upd H5 q6 (.lst x6)=G6 at s6 e6 r6' ⊢
 nofun
 refine ⟨q6,x6,b.pays,rfl,e6,r6',by ac_rfl,fun d6 H6 nd6 t6 ed6=>?_⟩
 have u6:=s6.trans t6
 have u16:=u15.trans u6
 have B6:=B.same u16
 nofun
 refine ⟨a,A.dx,_,rfl,B6.ins,rfl,a,A,b,rfl,B6,by ac_rfl,fun q7 ns H7 n7 t7 e7 up7 mem7 len7=>?_⟩
 have hp7:=(u16.trans t7) _ _ hp
 have atz:∀ xs:List Int,atI ((xs++[z]).map V.int) (-1)=some (.int z):=fun xs=>by
  unfold atI ixN
  simp
  rw[if_pos (by ac_rfl),Option.bind_some,show (-1+((xs.length:Int)+1)).toNat=xs.length by ac_rfl,yau (by simp)]
  simp
 nofun
 refine ⟨⟨_,SqL.of e7⟩,fun l8 nl8=>?_⟩
 refine zp1 (zaz (SqL.of e7)) nl8 (by rw[yab];ac_rfl) ns (by rw[yab]) (fun d=>decide (d<z)) (fun H' v d=>v=.int d) (fun v e H1 H2 s e1=>e1) (fun v e H1 ys zs hL e1=>e1) ?_ ?_ ?_
 ·rintro i x d H' Q' hx hd sH hq
  rw[yaf,hd] at hx
  cases hx
  nofun
  refine ⟨p,_,_,_,rfl,rfl,SqL.of (sH _ _ hp7),atz ms,?_⟩
  nofun
  exact hq _ (Same.refl _)
 ·rintro i x d H' Q' hx hd fd sH hq
  rw[yaf,hd] at hx
  cases hx
  nofun
  exact hq _ _ (Same.refl _) rfl
 rintro y8 H8 t8 e8 hL8
 obtain rfl:y8=(ns.filter fun d=>decide (d<z)).map V.int:=by
  clear e8
  revert hL8
  generalize ns.filter (fun d=>decide (d<z))=l
  intro hL
  induction hL with
  | nil=>rfl
  | cons h _ ih=>rw[h,ih];rfl
 have fl:=ybb (fun d=>decide (d<z)) ns
 have hp8:=t8 _ _ hp7
 have ml:(ms++[z]).length=ms.length+1:=by simp
 nofun
 refine ⟨l8,p,_,_,rfl,rfl,e8,hp8,by rw[yab,yab];ac_rfl,fun q9 n9=>?_⟩
 rw[<-yas]
 have s9:=ze n9 (.lst (((ns.filter fun d=>decide (d<z))++(ms++[z])).map V.int))
 have e9:=zq (.lst (((ns.filter fun d=>decide (d<z))++(ms++[z])).map V.int)) n9
 have u19:=u16.trans (t7.trans (t8.trans s9))
 have u29:=u2.trans (u35.trans (u6.trans (t7.trans (t8.trans s9))))
 have u39:=u35.trans (u6.trans (t7.trans (t8.trans s9)))
 have u59:=u6.trans (t7.trans (t8.trans s9))
 have u69:=t7.trans (t8.trans s9)
 generalize upd H8 q9 (.lst (((ns.filter fun d=>decide (d<z))++(ms++[z])).map V.int))=H9 at s9 e9 u19 u29 u39 u59 u69 ⊢
 have dl:((ns.filter fun d=>decide (d<z))++(ms++[z])).length<=61:=by rw[yae];ac_rfl
 nofun
 refine ⟨q9,_,rfl,SqL.of e9,by ac_rfl,fun pS HS ks nPS sPS ePS nd mm lm=>?_⟩
 nofun
 refine ⟨pS,ks,rfl,ePS,by ac_rfl,fun pR HR ds nPR sPR ePR pm up=>?_⟩
 have v1:=(u29.trans (sPS.trans sPR)) _ _ ed1
 have v2:=(u39.trans (sPS.trans sPR)) _ _ ed2
 have v3:=(u59.trans (sPS.trans sPR)) _ _ ed3
 have v4:=(u69.trans (sPS.trans sPR)) _ _ ed6
 have vH:=u19.trans (sPS.trans sPR)
 have dsl:ds.length<=62:=by rw[pm.length_eq];ac_rfl
 nofun
 refine ⟨⟨_,SqL.of ePR⟩,fun lZ nlZ=>?_⟩
 refine comp_map (zaz (SqL.of ePR)) nlZ (by rw[yab];ac_rfl) ds (by rw[yab]) (fun H' v d=>∃ t,v=.ref t/\H' t=some (.tup [.int d,.int (ddo b d).1,.int (ddo b d).2.1,.int (ddo b d).2.2.1,.int (ddo b d).2.2.2])) (fun v e H1 H2 s ⟨t,e1,e2⟩=>⟨t,e1,s _ _ e2⟩) (fun v e H1 ys zs hL ⟨t,e1,e2⟩=>⟨t,e1,by rw[zp (zaw e2 hL (by intro z;cases z))];exact e2⟩) ?_ ?_
 ·rintro i x d H' Q' hx hd sH hq
  rw[yaf,hd] at hx
  cases hx
  have w1:=sH _ _ v1
  have w2:=sH _ _ v2
  have w3:=sH _ _ v3
  have w4:=sH _ _ v4
  have tE:(if d∈b.turns then (1:Int) else 0)=if d∈dys "turn" b.es then 1 else 0:=by
   by_cases c:d∈b.turns
   ·rw[if_pos c,if_pos ((I.turns.mem d).mp c)]
   ·rw[if_neg c,if_neg fun z=>c ((I.turns.mem d).mpr z)]
  nofun
  refine ⟨d1,_,rfl,w1,?_⟩
  nofun
  refine ⟨w1,?_⟩
  rw[zkU I.outs]
  nofun
  refine ⟨d2,_,rfl,w2,?_⟩
  nofun
  refine ⟨w2,?_⟩
  rw[zkU I.fees]
  nofun
  refine ⟨d3,_,rfl,w3,?_⟩
  nofun
  refine ⟨w3,?_⟩
  rw[zq3 tnd,tE]
  nofun
  refine ⟨d6,_,rfl,w4,?_⟩
  nofun
  refine ⟨w4,?_⟩
  rw[zkU I.pays]
  nofun
  intro t nt
  exact hq _ _ (ze nt _) ⟨t,rfl,zh⟩
 rintro yZ HZ tZ eZ hZ
 refine h lZ yZ ds HZ (zD vH nlZ) (vH.trans tZ) eZ hZ (ziM pm nd up) (fun d=>?_) dsl
 rw[pm.mem_iff,mm,yag,yba,mem7]
 simp
noncomputable abbrev zbm:V->Bool:=dyB
def ziR (K:W.Frag):Sp:=fun vs H Q _=>∃ x T,vs=[x]/\zam K H x T/\Q (.bl (zbm x)) H
theorem zpZ:zi qai qai (zg zht):=by walk_at "sp"
theorem zqU (S:Src K mg "is_day" zht qai) (T:Txt K mg) (zct:Def P w K mg base 1 "is_whole" qai (zgH K)):Def P w K mg base 2 "is_day" qai (ziR K):=by
 exists S.ok,zpZ,0
 all_goals obtain ⟨x,Tk,rfl,hk,h⟩:=h
 ·rfl
 refine ⟨_,(zf (zj (zhi (zt zct hr (za (pv 0) zb)) (zhg (znu zdE zdE zd (pv 0) (zd0 T.zhG)))))),?_⟩
 nofun
 refine ⟨_,_,rfl,hk,?_⟩
 nofun
 ·rename_i z
  subst z
  obtain ⟨i,rfl⟩:=ty_int hk.1
  nofun
  ·exact qb h (by simp[zbm,dyB, *])
  ·exact qb h (by simp[zbm,dyB, *])
 ·rename_i z
  refine qb h ?_
  cases x with
  | int i=>exact absurd (zs8 hk.1) z
  | _=>rfl
def zgw (kd:Kd) (K:W.Frag):Sp:=fun vs H Q _=>∃ a,vs=[.ref a]/\zb9 K H a kd/\Q (.int (10000*yr kd)) H
theorem zlI:zi qaa qaa (zg zbF):=by walk_at "sp"
theorem zis (kd:Kd) (hk:kd=.plain\/kd=.bank) (S:zv K (cA K kd.cls) "unit" "Count.unit" zbF qaa) (T:Txt K mg) (zhV:∀ kd:Kd,zu P w K mg base 1 (cA K kd.cls) "year" qaa (zgs kd K)):zu P w K mg base 2 (cA K kd.cls) "unit" qaa (zgw kd K):=by
 exists S.ok,zlI,0
 all_goals obtain ⟨a,rfl,hc,h⟩:=h
 ·rfl
 refine ⟨_,(zf (zj (zk zcN (zd0 T.zfG) (ziN zhV T.cls hr (pv 0))))),?_⟩
 nofun
 refine ⟨kd,a,rfl,hc,?_⟩
 nofun
 exact h
noncomputable def uB (b:BkT):Int:=10000*yr b.kd
abbrev AB (b:BkT):Prop:=ztf (Uk b.kd) (uB b) b
noncomputable abbrev zS (b:BkT) (d:Int):Int × Int:=stA (Uk b.kd) (uB b) b d.toNat
def zgS (kd:Kd) (K:W.Frag):Sp:=fun vs H Q _=>∃ a x y,vs=[.ref a,.int x,.int y]/\zb9 K H a kd/\Q (.int (Uk kd y-Uk kd x)) H
theorem zkt:zi qap qap (zg zaZ):=by walk_at "sp"
theorem zhf (kd:Kd) (hk:kd=.plain\/kd=.bank) (S:zv K (cA K kd.cls) "weight" "Count.weight" zaZ qap) (T:Txt K mg) (zfF:∀ kd:Kd,zu P w K mg base 1 (cA K kd.cls) "upto" qae (zi0 kd K)):zu P w K mg base 2 (cA K kd.cls) "weight" qap (zgS kd K):=by
 exists S.ok,zkt,0
 all_goals obtain ⟨a,x,y,rfl,hc,h⟩:=h
 ·rfl
 refine ⟨_,(zf (zj (zk zce (zjM zfF T.cls hr (pv 0) (za (pv 2) zb)) (zjM zfF T.cls hr (pv 0) (za (pv 1) zb))))),?_⟩
 nofun
 refine ⟨kd,a,rfl,hc,?_⟩
 nofun
 refine ⟨kd,a,rfl,hc,?_⟩
 nofun
 exact h
def zb7 (K:W.Frag):Sp:=fun vs H Q _=>L2.Ee5 fun p C dx d x=>L2.Aa6 (vs=[.ref p,.int d,.int x]) (H p=some (.ins C dx [])) (Cls K C) (zU K C "day") (zU K C "amount") (Q .non (upd H p (.ins C dx [("day", .int d),("amount", .int x)])))
theorem zia:zi qas qas (zg zbk):=by walk_at "sp"
theorem zib (x:Str) (S:zv K (cA K x) "__init__" "AmountEntry.__init__" zbk qas) (T:Txt K mg) (zd5:zpd P w K mg base 1 (cA K "Entry") "__init__" qae (zcT K)):zu P w K mg base 2 (cA K x) "__init__" qas (zb7 K):=by
 exists S.ok,zia,0
 all_goals obtain ⟨p,C,dx,d,x,rfl,e,hc,n1,n2,h⟩:=h
 ·rfl
 refine ⟨_,(zc (zK (ztj zd5 (zbE (v:=.ref (cA K "Entry")) rfl T.zkM rfl) hr (za (pv 0) (za (pv 1) zb))))
  (zf (zmQ (pv 0) (pv 2) rfl))),?_⟩
 nofun
 refine ⟨p,C,dx,[],d,rfl,e,hc,n1,by decide,?_⟩
 nofun
 refine ⟨p,C,dx,_,rfl,zh,hc,n2,ycy (ycv 1) (by decide),?_⟩
 rw[zad]
 exact h
def ziT (K:W.Frag):Sp:=fun vs H Q _=>∃ i a b,vs=[.int i,.int a,.int b]/\(a<=i/\i<=b)/\Q (.bl true) H
theorem zmP:zi qax qax (zg zei):=by walk_at "sp"
theorem zoc (S:Src K mg "is_within" zei qax) (T:Txt K mg) (zct:Def P w K mg base 1 "is_whole" qai (zgH K)):Def P w K mg base 2 "is_within" qax (ziT K):=by
 exists S.ok,zmP,0
 all_goals obtain ⟨i,a,b,rfl,⟨h1,h2⟩,h⟩:=h
 ·rfl
 refine ⟨_,(zf (zj (zhi (zt zct hr (za (pv 0) zb)) (zhg (znu zdE zdE (pv 1) (pv 0) (pv 2)))))),?_⟩
 nofun
 refine ⟨_, "int", rfl,⟨.int i,by simp[kinds]⟩,?_⟩
 nofun
 all_goals first
  | exact absurd rfl (by assumption)
  | (exfalso;ac_rfl)
  | (refine qb h ?_;simp[h1,h2])
def ziu (K:W.Frag):Sp:=fun vs H Q _=>L2.Ee4 fun p xs es w=>L2.Aa6 (vs=[.ref p,.str w]) (SqL K H p xs) (EL K H xs es) (Few es) (AmW w) (∀ q H' ws r,H q=none->Same H H'->H' q=some (.lst ws)->zx K H' ws r->Sby.Tab r (prs w es)->Q (.ref q) H')
theorem zqb:zi qaf qaf (zg zhT):=by walk_at "sp"
theorem zq6 (S:Src K mg "sum_by" zhT qaf) (T:Txt K mg) (zdZ:Def P w K mg base 1 "summed" qal (ziU K)) (zaN:∀ k:Ek,zu P w K mg base 1 (cA K k.cls) "word" qaa (zbH k K)):Def P w K mg base 2 "sum_by" qaf (ziu K):=by
 exists S.ok,zqb,0
 all_goals obtain ⟨p,xs,es,ww,rfl,ep,hE,hl,hw,h⟩:=h
 ·rfl
 refine ⟨_,(zf (zj (zt zdZ hr (za (zdb (ix:=[1]) ⟨rfl,by decide +kernel,rfl,by decide +kernel,rfl,(show (["entry", "word"]:List Str).Nodup by decide +kernel),by walk_at "cap", by walk_at "sub", by walk_at "has"⟩ (zV (pv 0)) (fun b=>(zz za9 (zfh K zaN T.clE hr (pv 0)) (pv 1) (nomark _))) (fun b=>(zO (za (zco K (pv 0) rfl) (za (zco K (pv 0) rfl) zb))))) zb)))),?_⟩
 have sz:=sizeLine_eq
 have el:=hl.len
 nofun
 have xl:=hE.length
 refine ⟨⟨_,ep⟩,fun l nl=>?_⟩
 refine zdX (zaz ep) nl (by ac_rfl) es xl.symm (isW ww) (fun H' v e=>∃ t,v=.ref t/\H' t=some (.tup [.int e.2.1,.int e.2.2])) (fun v e H1 H2 s ⟨t,e1,e2⟩=>⟨t,e1,s _ _ e2⟩) (fun v e H1 ys zs hL ⟨t,e1,e2⟩=>⟨t,e1,by rw[zp (zaw e2 hL (by intro z;cases z))];exact e2⟩) ?_ ?_ ?_
 ·rintro i x e H' Q' hx he sH hq
  obtain ⟨e',he',a,dx,rfl,hi⟩:=(hE.same sH).get hx
  obtain rfl:e'=e:=Option.some.inj (he'.symm.trans he)
  nofun
  refine ⟨e'.1,a,dx,_,rfl,hi,zgg _ _ _,a,rfl,?_⟩
  nofun
  exact hq
 ·rintro i x e H' Q' hx he fe sH hq
  obtain ⟨e',he',a,dx,rfl,hi⟩:=(hE.same sH).get hx
  obtain rfl:e'=e:=Option.some.inj (he'.symm.trans he)
  nofun
  refine ⟨a,_,dx,_,_,rfl,hi,T.clE _,T.zb6 _,zfU _ _ _,?_⟩
  nofun
  refine ⟨a,_,dx,_,_,rfl,hi,T.clE _,T.zcz _,(amt hw fe).1,?_⟩
  nofun
  intro t nt
  exact hq _ _ (ze nt _) ⟨t,rfl,zh⟩
 ·rintro ys H' sH eL hL
  have hR:zx K H' ys (prs ww es):=zk9 hL
  nofun
  refine ⟨l,ys,prs ww es,rfl,eL,hR,?_,fun q H2 ws r nq s2 eq hr' tb=>?_⟩
  ·exact hl.pr ww (ztL hw)
  ·exact h q H2 ws r (zD sH nq) (sH.trans s2) eq hr' tb
def zkj (K:W.Frag):Sp:=fun vs H Q _=>L2.Ee4 fun p xs (es:List Er) w=>L2.Aa6 (vs=[.ref p,.str w]) (SqL K H p xs) (EL K H xs es) (es.length<=500) ((∃ td:List Int,td.length<=61/\∀ d∈dys w es,d∈td)) (∀ q H' (ns:List Int),H q=none->Same H H'->H' q=some (.lst (ns.map V.int))->Days ns (dys w es)->Q (.ref q) H')
theorem zpj:zi qaf qaf (zg zgd):=by walk_at "sp"
theorem zqz (S:Src K mg "days_of" zgd qaf) (T:Txt K mg) (zaN:∀ k:Ek,zu P w K mg base 1 (cA K k.cls) "word" qaa (zbH k K)):Def P w K mg base 2 "days_of" qaf (zkj K):=by
 exists S.ok,zpj,0
 all_goals obtain ⟨p,xs,es,ww,rfl,ep,hE,hl,⟨td,tl,tm⟩,h⟩:=h
 ·rfl
 refine ⟨_,(zf (zj (zy (zdw rfl) rfl T.zbN PyProof.Rows.boot_sorted (za (zR (zgr rfl) rfl T.zjf PyProof.Rows.boot_set (za (zdb (ix:=[1]) ⟨rfl,by decide +kernel,rfl,by decide +kernel,rfl,(show (["entry", "word"]:List Str).Nodup by decide +kernel),by walk_at "cap", by walk_at "sub", by walk_at "has"⟩ (zV (pv 0)) (fun b=>(zz za9 (zfh K zaN T.clE hr (pv 0)) (pv 1) (nomark _))) (fun b=>(zco K (pv 0) rfl))) zb)) zb)))),?_⟩
 have sz:=sizeLine_eq
 have xl:=hE.length
 nofun
 refine ⟨⟨_,ep⟩,fun l nl=>?_⟩
 refine zdX (zaz ep) nl (by ac_rfl) es xl.symm (isW ww) (fun _ v e=>v=.int e.2.1) (fun v e H1 H2 s q=>q) (fun v e H1 ys zs hL q=>q) ?_ ?_ ?_
 ·rintro i x e H' Q' hx he sH hq
  obtain ⟨e',he',a,dx,rfl,hi⟩:=(hE.same sH).get hx
  obtain rfl:e'=e:=Option.some.inj (he'.symm.trans he)
  nofun
  refine ⟨e'.1,a,dx,_,rfl,hi,zgg _ _ _,a,rfl,?_⟩
  nofun
  exact hq
 ·rintro i x e H' Q' hx he fe sH hq
  obtain ⟨e',he',a,dx,rfl,hi⟩:=(hE.same sH).get hx
  obtain rfl:e'=e:=Option.some.inj (he'.symm.trans he)
  nofun
  refine ⟨a,_,dx,_,_,rfl,hi,T.clE _,T.zb6 _,zfU _ _ _,?_⟩
  exact hq _ _ (Same.refl _) rfl
 ·rintro ys H' sH eL hL
  have ey:ys=(dys ww es).map V.int:=by
   have:=hL.eqm (g:=fun e:Er=>V.int e.2.1)
   rw[this]
   unfold dys
   rw[ycb]
   rfl
  subst ey
  nofun
  refine ⟨l,dys ww es,rfl,SqL.of eL,ycy zsH (by ac_rfl),fun p1 H1 ms np1 s1 e1 nd mm ml=>?_⟩
  nofun
  refine ⟨p1,ms,rfl,e1,?_,fun q H2 ns nq s2 eq pm up=>?_⟩
  ·exact ycy (zfY nd fun d hd=>tm d ((mm d).mp hd)) (by ac_rfl)
  ·exact h q H2 ns (zD (sH.trans s1) nq) (sH.trans (s1.trans s2)) eq (Days.of nd mm pm up)
def zh1 (K:W.Frag):Sp:=fun vs H Q _=>L2.Ee4 fun p xs es w=>L2.Aa7 (vs=[.ref p,.str w]) (SqL K H p xs) (EL K H xs es) (Few es) (RtW w) ((∀ e∈es,0<=e.2.1)) (∀ q H' ws (r:List (Int × Int)),H q=none->Same H H'->H' q=some (.lst ws)->zx K H' ws r->Stills.TabOf (prs w es) r->r=(r.map (·.1)).map (fun d=>(d,Sums.valOf (prs w es) d))->r.length<=61->Q (.ref q) H')
theorem zlJ:zi qaf qaf (zg zdN):=by walk_at "sp"
theorem zmI (S:Src K mg "rate_table" zdN qaf) (T:Txt K mg) (zhX:Def P w K mg base 1 "table_of" qal (zjr K)) (zaN:∀ k:Ek,zu P w K mg base 1 (cA K k.cls) "word" qaa (zbH k K)):Def P w K mg base 2 "rate_table" qaf (zh1 K):=by
 exists S.ok,zlJ,0
 all_goals obtain ⟨p,xs,es,ww,rfl,ep,hE,hl,hw,e0,h⟩:=h
 ·rfl
 refine ⟨_,(zf (zj (zt zhX hr (za (zdb (ix:=[1]) ⟨rfl,by decide +kernel,rfl,by decide +kernel,rfl,(show (["entry", "word"]:List Str).Nodup by decide +kernel),by walk_at "cap", by walk_at "sub", by walk_at "has"⟩ (zV (pv 0)) (fun b=>(zz za9 (zfh K zaN T.clE hr (pv 0)) (pv 1) (nomark _))) (fun b=>(zO (za (zco K (pv 0) rfl) (za (zco K (pv 0) rfl) zb))))) zb)))),?_⟩
 have sz:=sizeLine_eq
 nofun
 have xl:=hE.length
 have pl:=hl.pr ww (ztq hw)
 have el:=hl.len
 refine ⟨⟨_,ep⟩,fun l nl=>?_⟩
 refine zdX (zaz ep) nl (by ac_rfl) es xl.symm (isW ww) (fun H' v e=>∃ t,v=.ref t/\H' t=some (.tup [.int e.2.1,.int e.2.2])) (fun v e H1 H2 s ⟨t,e1,e2⟩=>⟨t,e1,s _ _ e2⟩) (fun v e H1 ys zs hL ⟨t,e1,e2⟩=>⟨t,e1,by rw[zp (zaw e2 hL (by intro z;cases z))];exact e2⟩) ?_ ?_ ?_
 ·rintro i x e H' Q' hx he sH hq
  obtain ⟨e',he',a,dx,rfl,hi⟩:=(hE.same sH).get hx
  obtain rfl:e'=e:=Option.some.inj (he'.symm.trans he)
  nofun
  refine ⟨e'.1,a,dx,_,rfl,hi,zgg _ _ _,a,rfl,?_⟩
  nofun
  exact hq
 ·rintro i x e H' Q' hx he fe sH hq
  obtain ⟨e',he',a,dx,rfl,hi⟩:=(hE.same sH).get hx
  obtain rfl:e'=e:=Option.some.inj (he'.symm.trans he)
  nofun
  refine ⟨a,_,dx,_,_,rfl,hi,T.clE _,T.zb6 _,zfU _ _ _,?_⟩
  nofun
  refine ⟨a,_,dx,_,_,rfl,hi,T.clE _,T.zrH _,rtl hw fe,?_⟩
  nofun
  intro t nt
  exact hq _ _ (ze nt _) ⟨t,rfl,zh⟩
 ·rintro ys H' sH eL hL
  have hR:zx K H' ys (prs ww es):=zk9 hL
  nofun
  refine ⟨l,ys,prs ww es,rfl,eL,hR,by ac_rfl,?_,fun q H2 ws r nq s2 eq hr' tb er rl=>?_⟩
  ·intro s hs
   obtain ⟨e,he,rfl⟩:=yah.mp hs
   exact e0 e (yba.mp he).1
  ·exact h q H2 ws r (zD sH nq) (sH.trans s2) eq hr' tb er (by ac_rfl)
def zhp (K:W.Frag):Sp:=fun vs H Q _=>∃ p xs es,vs=[.ref p]/\SqL K H p xs/\EL K H xs es/\Few es /\
 ∀ q H' ws (r:List (Int × Int)),H q=none->Same H H'->H' q=some (.lst ws)->zx K H' ws r->Spans.Joined r->(∀ d,Spans.Cov r d↔Spans.Cov (prs "still" es) d)->r.length<=61->Q (.ref q) H'
theorem zhb:zi ["entries", "stills"] qbi (zg zcW):=by walk_at "sp"
theorem zlY (S:Src K mg "still_spans" zcW qbi) (T:Txt K mg) (zaN:∀ k:Ek,zu P w K mg base 1 (cA K k.cls) "word" qaa (zbH k K)) (zjN:Def P w K mg base 1 "joined" ["spans"] (zlk K)):Def P w K mg base 2 "still_spans" qbi (zhp K):=by
 exists S.ok,zhb,0
 all_goals obtain ⟨p,xs,es,rfl,ep,hE,hl,h⟩:=h
 ·rfl
 refine ⟨_,(zc (zqM (i:=1) zhb.nd rfl rfl (ix:=[]) ⟨rfl,by decide +kernel,rfl,by decide +kernel,rfl,(show (["entry"]:List Str).Nodup by decide +kernel),by walk_at "cap", by walk_at "sub", by walk_at "has"⟩ (zV (pv 0)) (fun b=>(zz za9 (zfh K zaN T.clE hr (pv 0)) zaf (nomark _))) (fun b=>(pv 0)))
  (zf (zj (zt zjN hr (za (zdb (ix:=[]) ⟨rfl,by decide +kernel,rfl,by decide +kernel,rfl,(show (["entry"]:List Str).Nodup by decide +kernel),by walk_at "cap", by walk_at "sub", by walk_at "has"⟩ (zV (pv 1)) (fun b=>(zz zdq (zco K (pv 0) rfl) (zco K (pv 0) rfl) (nomark _))) (fun b=>(zO (za (zco K (pv 0) rfl) (za (zco K (pv 0) rfl) zb))))) zb))))),?_⟩
 have sz:=sizeLine_eq
 have el:=hl.len
 nofun
 have xl:=hE.length
 refine ⟨⟨_,ep⟩,fun l nl=>?_⟩
 refine zdX (zaz ep) nl (by ac_rfl) es xl.symm (isW "still") (fun H' v e=>∃ a dx,v=.ref a/\zfa K H' a dx e.1 e.2.1 e.2.2) (fun v e H1 H2 s ⟨t,dx,e1,e2⟩=>⟨t,dx,e1,s _ _ e2⟩) (fun v e H1 ys zs hL ⟨t,dx,e1,e2⟩=>⟨t,dx,e1,by rw[zfa,zp (zaw e2 hL (by intro z;cases z))];exact e2⟩) ?_ ?_ ?_
 ·rintro i x e H' Q' hx he sH hq
  obtain ⟨e',he',a,dx,rfl,hi⟩:=(hE.same sH).get hx
  obtain rfl:e'=e:=Option.some.inj (he'.symm.trans he)
  nofun
  refine ⟨e'.1,a,dx,_,rfl,hi,zgg _ _ _,a,rfl,?_⟩
  nofun
  exact hq
 ·rintro i x e H' Q' hx he fe sH hq
  obtain ⟨e',he',a,dx,rfl,hi⟩:=(hE.same sH).get hx
  obtain rfl:e'=e:=Option.some.inj (he'.symm.trans he)
  nofun
  exact hq _ _ (Same.refl _) ⟨a,dx,rfl,hi⟩
 ·rintro ys H1 s1 eL hL
  have hE1:EL K H1 ys (es.filter (isW "still")):=hL
  have yl:=hE1.length
  have fl:=ybb (isW "still") es
  nofun
  refine ⟨⟨_,SqL.of eL⟩,fun l2 nl2=>?_⟩
  have isS:∀ {i:Nat} {e:Er},(es.filter (isW "still"))[i]?=some e->isW "still" e=true:=fun {i e} he=>(yba.mp (yai he)).2
  refine zdX (zaz (SqL.of eL)) nl2 (by ac_rfl) (es.filter (isW "still")) yl.symm (fun e:Er=>decide (e.2.1<e.2.2)) (fun H' v e=>∃ t,v=.ref t/\H' t=some (.tup [.int e.2.1,.int e.2.2])) (fun v e H1 H2 s ⟨t,e1,e2⟩=>⟨t,e1,s _ _ e2⟩) (fun v e H1 ys zs hL ⟨t,e1,e2⟩=>⟨t,e1,by rw[zp (zaw e2 hL (by intro z;cases z))];exact e2⟩) ?_ ?_ ?_
  ·rintro i x e H' Q' hx he sH hq
   obtain ⟨e',he',a,dx,rfl,hi⟩:=(hE1.same sH).get hx
   obtain rfl:e'=e:=Option.some.inj (he'.symm.trans he)
   nofun
   refine ⟨a,_,dx,_,_,rfl,hi,T.clE _,T.zb6 _,zfU _ _ _,?_⟩
   nofun
   refine ⟨a,_,dx,_,_,rfl,hi,T.clE _,T.zly _,stl (isS he),?_⟩
   nofun
   exact hq
  ·rintro i x e H' Q' hx he fe sH hq
   obtain ⟨e',he',a,dx,rfl,hi⟩:=(hE1.same sH).get hx
   obtain rfl:e'=e:=Option.some.inj (he'.symm.trans he)
   nofun
   refine ⟨a,_,dx,_,_,rfl,hi,T.clE _,T.zb6 _,zfU _ _ _,?_⟩
   nofun
   refine ⟨a,_,dx,_,_,rfl,hi,T.clE _,T.zly _,stl (isS he),?_⟩
   nofun
   intro t nt
   exact hq _ _ (ze nt _) ⟨t,rfl,zh⟩
  ·rintro zs H2 s2 eL2 hL2
   have hR:zx K H2 zs (((es.filter (isW "still")).filter fun e:Er=>decide (e.2.1<e.2.2)).map (·.2)):=zk9 hL2
   have em:((es.filter (isW "still")).filter fun e:Er=>decide (e.2.1<e.2.2)).map (·.2)=(prs "still" es).filter fun s=>decide (s.1<s.2):=by
    unfold prs
    rw[List.filter_map]
    rfl
   rw[em] at hR
   have pl:=ybb (fun s:Int × Int=>decide (s.1<s.2)) (prs "still" es)
   have pl2:=hl.pr "still" znC
   nofun
   refine ⟨l2,zs,_,rfl,SqL.of eL2,hR,by ac_rfl,fun s hs=>?_,fun q ws r H3 s3 nq eq rR J cv rl=>?_⟩
   ·simpa using (yba.mp hs).2
   ·exact h q H3 ws r (zD (s1.trans s2) nq) (s1.trans (s2.trans s3)) eq rR J (fun d=>(cv d).trans (zrl _ d)) (by ac_rfl)
def zfQ (K:W.Frag):Sp:=fun vs H Q _=>∃ c,vs=[.int c]/\∀ x H',Same H H'->zdL K H' x->Q x H'
theorem za0:zi ["_law_cell", "_law_xs", "_law_good", "_law_at", "_law_way"] qao (zg zca):=by walk_at "sp"
theorem zkn (S:Src K mg "_law_bad_days" zca qao) (T:Txt K mg) (zbx:Def P w K mg base 1 "_law_draws" qaw (zeT K)):Def P w K mg base 2 "_law_bad_days" qao (zfQ K):=by
 exists S.ok,za0,0
 all_goals obtain ⟨c,rfl,h⟩:=h
 ·rfl
 refine ⟨_,(zc (zo (i:=1) za0.nd rfl (by walk_at "lc") (zt zbx hr (za (pv 0) (za zd zb))))
  (zc (zkJ (i:=2) za0.nd rfl rfl (ix:=[1]) ⟨rfl,by decide +kernel,rfl,by decide +kernel,rfl,(show (["_law_k", "_law_xs"]:List Str).Nodup by decide +kernel),by walk_at "cap", by walk_at "sub", by walk_at "has"⟩ (zaU rfl T.zaV (za (zk zQ zd (zk zal (zr zG (pv 1) zd (fun _ _=>rfl)) zd)) zb)) (fun b=>(zk zQ (zk zal (zr (zbK K) (pv 1) zd (fun _ _=>rfl)) zd) (zk zcN zd (pv 0)))))
  (zc (zo (i:=3) za0.nd rfl (by walk_at "lc") (zk zal (zr zG (pv 1) zd (fun _ _=>rfl)) (zy zZ rfl T.zbP PySem.boot_len (za (pv 2) zb))))
  (zc (zo (i:=4) za0.nd rfl (by walk_at "lc") (zk zal (zr zG (pv 1) zd (fun _ _=>rfl)) zd))
  (zc (zaa (zz za9 (pv 4) zd (nomark _))
  (zf (zj (zr zG (zai (za zdy (za (zO (za zd (za zd zb))) (za zd (za zaf (za ztx zb)))))) (zk zal (zr zG (pv 1) zd (fun _ _=>rfl)) zd) (fun _ _=>rfl))))
   zY)
  (zc (zaa (zz za9 (pv 4) zd (nomark _))
  (zf (zj (zai zb)))
   zY)
  (zc (zaa (zz za9 (pv 4) zd (nomark _))
  (zf (zj (zaM (ix:=[]) ⟨rfl,by decide +kernel,rfl,by decide +kernel,rfl,(show (["_law_k"]:List Str).Nodup by decide +kernel),by walk_at "cap", by walk_at "sub", by walk_at "has"⟩ (zaU rfl T.zaV (za zd zb)) (fun b=>(pv 0)))))
   zY)
  (zc (zaa (zz za9 (pv 4) zd (nomark _))
  (zf (zj (zk zcc (zk zcc (zfS zhj (pv 2) zha (zhl (zk zQ (pv 3) zd))) (zai (za (zk zce (zr zG (pv 2) (pv 3) (fun _ _=>rfl)) (zk zcN (zk zal (zr zG (pv 1) zd (fun _ _=>rfl)) zd) zd)) zb))) (zfS zhj (pv 2) (zhl (zk zQ (pv 3) zd)) zha))))
   zY)
  (zf (zj (zk zcc (zk zcc (zfS zhj (pv 2) zha (zhl (pv 3))) (zai (za (zr zG (zai (za (zcU zbY zd) (za (zea (v:=1000000) (by decide +kernel) ⟨by decide,by decide,by decide⟩) (za zdy (za zaT (za zaf (za (zO (za zd zb)) (za (zea (v:=10000000000000000000000000000000000000000) (by decide +kernel) ⟨by decide,by decide,by decide⟩) zb)))))))) (zk zal (zr zG (pv 1) zd (fun _ _=>rfl)) zd) (fun _ _=>rfl)) zb))) (zfS zhj (pv 2) (zhl (zk zQ (pv 3) zd)) zha)))))))))))),?_⟩
 have sz:=sizeLine_eq
 nofun
 intro px xs H1 s1 n1 e1 xl xi
 have m5:∀ k:Nat,k<5->∃ n,atI (xs.map V.int) (k:Int)=some (.int n)/\0<=n:=fun k hk=>by
  have hk':k<xs.length:=by ac_rfl
  exact ⟨xs[k],zak (by rw[yaf,yaa hk'];rfl),(xi _ (yca hk')).1⟩
 obtain ⟨x0,a0,p0⟩:=m5 0 (by decide)
 obtain ⟨x1,a1,p1⟩:=m5 1 (by decide)
 obtain ⟨x2,a2,p2⟩:=m5 2 (by decide)
 obtain ⟨x3,a3,p3⟩:=m5 3 (by decide)
 obtain ⟨x4,a4,p4⟩:=m5 4 (by decide)
 clear m5 xi xl
 nofun
 refine ⟨px,_,_,_,rfl,rfl,SqL.of e1,a1,?_⟩
 nofun
 intro l nl
 refine zhH (fun i v=>∃ n,v=.int n) nl (by ac_rfl) ?_ ?_
 ·intro i G Q' hi sG hq
  nofun
  refine ⟨px,_,_,_,rfl,rfl,SqL.of (sG _ _ e1),a0,?_⟩
  nofun
  exact hq _ ⟨_,rfl⟩
 intro ys yl yp
 obtain ⟨gs,rfl⟩:=znk yp
 rw[yab] at yl
 have s2:=s1.trans (ze nl (.lst (gs.map V.int)))
 have e2:=zq (.lst (gs.map V.int)) nl
 have e1':=ze nl (.lst (gs.map V.int)) _ _ e1
 generalize upd H1 l (.lst (gs.map V.int))=H2 at s2 e2 e1' ⊢
 have gl:0<gs.length/\gs.length<=6:=by ac_rfl
 have lm:(gs.map V.int).length=gs.length:=yab ..
 nofun
 refine ⟨px,_,_,_,rfl,rfl,SqL.of e1',a2,?_⟩
 nofun
 refine ⟨l,_,rfl,.inl (SqL.of e2),?_⟩
 nofun
 obtain ⟨k,kl,ek⟩:∃ k:Nat,k<gs.length/\x2 % ((gs.map V.int).length:Int)=(k:Int):=by
  have h1:=ydu x2 (show ((gs.map V.int).length:Int)≠0 by ac_rfl)
  have h2:=ydt x2 (show 0<((gs.map V.int).length:Int) by ac_rfl)
  exact ⟨(x2 % ((gs.map V.int).length:Int)).toNat,by ac_rfl,by ac_rfl⟩
 dsimp only
 rw[ek]
 refine ⟨px,_,_,_,rfl,rfl,SqL.of e1',a3,?_⟩
 nofun
 ·intro p1 n1'
  have s3:=ze n1' (.tup [.int 5,.int 6])
  have e3:=zq (.tup [.int 5,.int 6]) n1'
  generalize upd H2 p1 (.tup [.int 5,.int 6])=H3 at s3 e3 ⊢
  have e31:=s3 _ _ e1'
  nofun
  refine fun p2 n2=>?_
  have s4:=ze n2 (.dK [(.inl 5,.bl true)])
  have e4:=zq (.dK [(.inl 5,.bl true)]) n2
  generalize upd H3 p2 (.dK [(.inl 5,.bl true)])=H4 at s4 e4 ⊢
  nofun
  intro p3 n3
  have s5:=ze n3 (.lst [.non,.ref p1,.int 5,.str "5", .ref p2])
  have e5:=zq (.lst [.non,.ref p1,.int 5,.str "5", .ref p2]) n3
  generalize upd H4 p3 (.lst [.non,.ref p1,.int 5,.str "5", .ref p2])=H5 at s5 e5 ⊢
  have all:∀ v∈([.non,.ref p1,.int 5,.str "5", .ref p2]:List V),∃ T,zam K H5 v T/\T ≠ "list" := zau ⟨"NoneType", ⟨.non,by decide⟩,by decide⟩ (zau ⟨"tuple", ⟨.tup ((s4.trans s5) _ _ e3),by decide⟩,by decide⟩ (zau ⟨"int", ⟨.int _,by decide⟩,by decide⟩ (zau ⟨"str", ⟨.str _,by decide⟩,by decide⟩ (zau ⟨"dict", ⟨.dK (s5 _ _ e4),by decide⟩,by decide⟩ zoY))))
  nofun
  refine ⟨px,_,_,_,rfl,rfl,SqL.of ((s4.trans s5) _ _ e31),a4,?_⟩
  nofun
  obtain ⟨v,hv,hm⟩:=zkg (xs:=[.non,.ref p1,.int 5,.str "5", .ref p2]) (k:=x4 % 5) (by ac_rfl) (by simp;ac_rfl)
  refine ⟨p3,_,_,_,rfl,rfl,SqL.of e5,hv,?_⟩
  obtain ⟨Tk,kn,nT⟩:=all v hm
  exact h v H5 (s2.trans (s3.trans (s4.trans s5))) (.inl ⟨Tk,kn,nT⟩)
 ·intro q nq
  exact h _ _ (s2.trans (ze nq _)) (.inr ⟨q,[],rfl,zh,ycz _,(fun v hv=>by cases hv),rfl⟩)
 ·intro q nq
  refine zhH (fun i v=>∃ n,v=.int n) nq (by ac_rfl) ?_ ?_
  ·intro i G Q' hi sG hq
   nofun
   exact hq _ ⟨_,rfl⟩
  intro ys yl yp
  obtain ⟨gs2,rfl⟩:=znk yp
  refine h _ _ (s2.trans (ze nq _)) (.inr ⟨q,_,rfl,zh,?_,zf7 gs2,zrn ?_⟩)
  ·rw[yl];decide
  ·rw[yl];decide
 ·have gk:atI (gs.map V.int) (k:Int)=some (.int gs[k]):=zak (by rw[yaf,yaa kl];rfl)
  refine ⟨l,_,rfl,SqL.of e2,fun q1 nq1=>?_⟩
  rw[show zdQ (gs.map V.int) none (some ((k:Int)+1))=(gs.take (k+1)).map V.int by rw[List.map_take];exact zoJ _ (k+1)]
  have s3:=ze nq1 (.lst ((gs.take (k+1)).map V.int))
  have e3:=zq (.lst ((gs.take (k+1)).map V.int)) nq1
  generalize upd H2 q1 (.lst ((gs.take (k+1)).map V.int))=H3 at s3 e3 ⊢
  nofun
  refine ⟨l,_,_,_,rfl,rfl,SqL.of (s3 _ _ e2),gk,?_⟩
  nofun
  refine ⟨px,_,_,_,rfl,rfl,SqL.of (s3 _ _ e1'),a4,?_⟩
  nofun
  obtain ⟨y,ey,y0⟩:∃ y,y=x4 % 2*3/\0<=y:=⟨_,rfl,by ac_rfl⟩
  rw[<-ey]
  intro q2 nq2
  have s4:=ze nq2 (.lst [.int (gs[k]-y)])
  have e4:=zq (.lst [.int (gs[k]-y)]) nq2
  generalize upd H3 q2 (.lst [.int (gs[k]-y)])=H4 at s4 e4 ⊢
  nofun
  refine ⟨q1,q2,_,_,rfl,rfl,s4 _ _ e3,e4,by simp;ac_rfl,fun q3 nq3=>?_⟩
  have s5:=ze nq3 (.lst ((gs.take (k+1)).map V.int++[.int (gs[k]-y)]))
  have e5:=zq (.lst ((gs.take (k+1)).map V.int++[.int (gs[k]-y)])) nq3
  generalize upd H4 q3 (.lst ((gs.take (k+1)).map V.int++[.int (gs[k]-y)]))=H5 at s5 e5 ⊢
  have s25:=s3.trans (s4.trans s5)
  nofun
  refine ⟨l,_,rfl,SqL.of (s25 _ _ e2),fun q4 nq4=>?_⟩
  rw[show zdQ (gs.map V.int) (some ((k:Int)+1)) none=(gs.drop (k+1)).map V.int by rw[List.map_drop];exact zoB _ (k+1)]
  have s6:=ze nq4 (.lst ((gs.drop (k+1)).map V.int))
  have e6:=zq (.lst ((gs.drop (k+1)).map V.int)) nq4
  generalize upd H5 q4 (.lst ((gs.drop (k+1)).map V.int))=H6 at s6 e6 ⊢
  nofun
  refine ⟨q3,q4,_,_,rfl,rfl,s6 _ _ e5,e6,by simp;ac_rfl,fun q7 nq7=>?_⟩
  have em:(gs.take (k+1)).map V.int++[V.int (gs[k]-y)]++(gs.drop (k+1)).map V.int=(gs.take (k+1)++[gs[k]-y]++gs.drop (k+1)).map V.int:=by simp
  refine h _ _ (s2.trans (s25.trans (s6.trans (ze nq7 _)))) (.inr ⟨q7,_,rfl,zh,by simp;ac_rfl,by rw[em];exact zf7 _,zrP (i:=k) (a:=gs[k]) (b:=gs[k]-y) ?_ ?_ (by ac_rfl)⟩)
  ·rw[em,yaf,ycc,yax (by rw[yat];ac_rfl),List.getElem?_take_of_lt (by ac_rfl),yaa kl];rfl
  ·rw[em,yaf,ycc,yau (by rw[yat];ac_rfl),yat,show k+1-min (k+1) gs.length=0 by ac_rfl];rfl
 ·refine ⟨l,_,rfl,SqL.of e2,fun q1 nq1=>?_⟩
  rw[zoJ (gs.map V.int) k]
  have s3:=ze nq1 (.lst ((gs.map V.int).take k))
  have e3:=zq (.lst ((gs.map V.int).take k)) nq1
  generalize upd H2 q1 (.lst ((gs.map V.int).take k))=H3 at s3 e3 ⊢
  nofun
  intro p1 n1'
  have s4:=ze n1' (.tup [.int 5])
  have e4:=zq (.tup [.int 5]) n1'
  generalize upd H3 p1 (.tup [.int 5])=H4 at s4 e4 ⊢
  nofun
  intro p2 n2
  have s5:=ze n2 (.lst [.int (-1),.int 1000000,.non,.bl true,.str "5", .ref p1,.int 10000000000000000000000000000000000000000])
  have e5:=zq (.lst [.int (-1),.int 1000000,.non,.bl true,.str "5", .ref p1,.int 10000000000000000000000000000000000000000]) n2
  generalize upd H4 p2 (.lst [.int (-1),.int 1000000,.non,.bl true,.str "5", .ref p1,.int 10000000000000000000000000000000000000000])=H5 at s5 e5 ⊢
  have s35:=s3.trans (s4.trans s5)
  have all:∀ v∈([.int (-1),.int 1000000,.non,.bl true,.str "5", .ref p1,.int 10000000000000000000000000000000000000000]:List V),(∃ T,zam K H5 v T)/\dyB v=false:=zau ⟨zfI _,rfl⟩ (zau ⟨zfI _,rfl⟩ (zau ⟨ztG,rfl⟩ (zau ⟨kBl _,rfl⟩ (zau ⟨ztR _,rfl⟩ (zau ⟨ztT (s5 _ _ e4),rfl⟩ (zau ⟨zfI _,rfl⟩ zoY))))))
  nofun
  refine ⟨px,_,_,_,rfl,rfl,SqL.of (s35 _ _ e1'),a4,?_⟩
  nofun
  obtain ⟨v,hv,hm⟩:=zkg (xs:=[.int (-1),.int 1000000,.non,.bl true,.str "5", .ref p1,.int 10000000000000000000000000000000000000000]) (k:=x4 % 7) (by ac_rfl) (by simp;ac_rfl)
  refine ⟨p2,_,_,_,rfl,rfl,SqL.of e5,hv,?_⟩
  obtain ⟨⟨Tk,kn⟩,dn⟩:=all v hm
  clear all hm hv
  nofun
  intro q2 nq2
  have s6:=ze nq2 (.lst [v])
  have e6:=zq (.lst [v]) nq2
  generalize upd H5 q2 (.lst [v])=H6 at s6 e6 ⊢
  have e36:=(s4.trans (s5.trans s6)) _ _ e3
  refine ⟨q1,q2,_,_,rfl,rfl,e36,e6,by simp;ac_rfl,fun q3 nq3=>?_⟩
  have s7:=ze nq3 (.lst ((gs.map V.int).take k++[v]))
  have e7:=zq (.lst ((gs.map V.int).take k++[v])) nq3
  generalize upd H6 q3 (.lst ((gs.map V.int).take k++[v]))=H7 at s7 e7 ⊢
  have s37:=s35.trans (s6.trans s7)
  nofun
  refine ⟨l,_,rfl,SqL.of (s37 _ _ e2),fun q4 nq4=>?_⟩
  rw[show zdQ (gs.map V.int) (some ((k:Int)+1)) none=(gs.map V.int).drop (k+1) from zoB _ (k+1)]
  have s8:=ze nq4 (.lst ((gs.map V.int).drop (k+1)))
  have e8:=zq (.lst ((gs.map V.int).drop (k+1))) nq4
  generalize upd H7 q4 (.lst ((gs.map V.int).drop (k+1)))=H8 at s8 e8 ⊢
  nofun
  refine ⟨q3,q4,_,_,rfl,rfl,s8 _ _ e7,e8,by simp;ac_rfl,fun q5 nq5=>?_⟩
  have s58:=s6.trans (s7.trans (s8.trans (ze nq5 (.lst ((gs.map V.int).take k++[v]++(gs.map V.int).drop (k+1))))))
  refine h _ _ (s2.trans (s37.trans (s8.trans (ze nq5 _)))) (.inr ⟨q5,_,rfl,zh,by simp;ac_rfl,fun u hu=>?_,ztw (v:=v) (by simp) dn⟩)
  rcases yag.mp hu with hu | hu
  ·rcases yag.mp hu with hu | hu
   ·exact zf7 gs u (List.mem_of_mem_take hu)
   ·obtain rfl:=ybp.mp hu
    exact ⟨Tk,kn.same s58⟩
  ·exact zf7 gs u (List.mem_of_mem_drop hu)
def zf6 (K:W.Frag):Sp:=fun vs H Q _=>∃ c,vs=[.int c]/\∀ q x y H',Same H H'->H' q=some (.tup [x,y])->zhq K H' x y->Q (.ref q) H'
theorem zbO:zi ["_law_cell", "_law_xs", "_law_bad", "_law_day"] qao (zg zb8):=by walk_at "sp"
theorem zko (S:Src K mg "_law_bad_pair" zb8 qao) (T:Txt K mg) (zbx:Def P w K mg base 1 "_law_draws" qaw (zeT K)):Def P w K mg base 2 "_law_bad_pair" qao (zf6 K):=by
 exists S.ok,zbO,0
 all_goals obtain ⟨c,rfl,h⟩:=h
 ·rfl
 refine ⟨_,(zc (zo (i:=1) zbO.nd rfl (by walk_at "lc") (zt zbx hr (za (pv 0) (za zd zb))))
  (zc (zo (i:=2) zbO.nd rfl (by walk_at "lc") (zr zG (zai (za (zcU zbY zd) (za (zea (v:=1000000) (by decide +kernel) ⟨by decide,by decide,by decide⟩) (za zdy (za zaT (za zaf (za (zO (za zd zb)) (za (zai (za zd zb)) zb)))))))) (zk zal (zr zG (pv 1) zd (fun _ _=>rfl)) zd) (fun _ _=>rfl)))
  (zc (zo (i:=3) zbO.nd rfl (by walk_at "lc") (zk zal (zr zG (pv 1) zd (fun _ _=>rfl)) (zea (v:=1000000) (by decide +kernel) ⟨by decide,by decide,by decide⟩)))
  (zf (zj (zr zG (zai (za (zO (za (pv 2) (za (pv 3) zb))) (za (zO (za (pv 3) (za (pv 2) zb))) (za (zO (za (pv 2) (za (pv 2) zb))) (za (zO (za (zk zce (zk zQ (pv 3) zd) (zk zdd (pv 3) zd)) (za (zk zce (pv 3) (zk zdd (pv 3) zd)) zb))) zb))))) (zk zal (zr zG (pv 1) zd (fun _ _=>rfl)) zd) (fun _ _=>rfl))))))),?_⟩
 have sz:=sizeLine_eq
 nofun
 intro px xs H1 s1 n1 e1 xl xi
 have m5:∀ k:Nat,k<4->∃ n,atI (xs.map V.int) (k:Int)=some (.int n)/\0<=n:=fun k hk=>by
  have hk':k<xs.length:=by ac_rfl
  exact ⟨xs[k],zak (by rw[yaf,yaa hk'];rfl),(xi _ (yca hk')).1⟩
 obtain ⟨x0,a0,p0⟩:=m5 0 (by decide)
 obtain ⟨x1,a1,p1⟩:=m5 1 (by decide)
 obtain ⟨x2,a2,p2⟩:=m5 2 (by decide)
 clear m5 xi xl
 nofun
 intro t1 nt1
 have s2:=s1.trans (ze nt1 (.tup [.int 5]))
 have f1:=zq (.tup [.int 5]) nt1
 have e2:=ze nt1 (.tup [.int 5]) _ _ e1
 generalize upd H1 t1 (.tup [.int 5])=H2 at s2 f1 e2 ⊢
 nofun
 intro t2 nt2
 have s3:=s2.trans (ze nt2 (.lst [.int 5]))
 have f2:=zq (.lst [.int 5]) nt2
 have f1':=ze nt2 (.lst [.int 5]) _ _ f1
 have e3:=ze nt2 (.lst [.int 5]) _ _ e2
 generalize upd H2 t2 (.lst [.int 5])=H3 at s3 f2 f1' e3 ⊢
 nofun
 intro t3 nt3
 have r4:=ze nt3 (.lst [.int (-1),.int 1000000,.non,.bl true,.str "5", .ref t1,.ref t2])
 have e4:=zq (.lst [.int (-1),.int 1000000,.non,.bl true,.str "5", .ref t1,.ref t2]) nt3
 generalize upd H3 t3 (.lst [.int (-1),.int 1000000,.non,.bl true,.str "5", .ref t1,.ref t2])=H4 at r4 e4 ⊢
 have all:∀ v∈([.int (-1),.int 1000000,.non,.bl true,.str "5", .ref t1,.ref t2]:List V),(∃ T,zam K H4 v T)/\dyB v=false:=zau ⟨zfI _,rfl⟩ (zau ⟨zfI _,rfl⟩ (zau ⟨ztG,rfl⟩ (zau ⟨kBl _,rfl⟩ (zau ⟨ztR _,rfl⟩ (zau ⟨ztT (r4 _ _ f1'),rfl⟩ (zau ⟨zuW (r4 _ _ f2),rfl⟩ zoY))))))
 nofun
 refine ⟨px,_,_,_,rfl,rfl,SqL.of (r4 _ _ e3),a0,?_⟩
 nofun
 obtain ⟨v,hv,hm⟩:=zkg (xs:=[.int (-1),.int 1000000,.non,.bl true,.str "5", .ref t1,.ref t2]) (k:=x0 % 7) (by ac_rfl) (by simp;ac_rfl)
 refine ⟨t3,_,_,_,rfl,rfl,SqL.of e4,hv,?_⟩
 obtain ⟨⟨Tk,kn⟩,dn⟩:=all v hm
 clear all hm hv e4
 have s4:=s3.trans r4
 have e4:=r4 _ _ e3
 nofun
 refine ⟨px,_,_,_,rfl,rfl,SqL.of e4,a1,?_⟩
 nofun
 obtain ⟨d,ed,d0,d1⟩:∃ d,d=x1 % 1000000/\0<=d/\d<1000000:=⟨_,rfl,by ac_rfl,by ac_rfl⟩
 dsimp only
 rw[<-ed]
 intro u1 nu1
 have q5:=ze nu1 (.tup [v,.int d])
 have g1:=zq (.tup [v,.int d]) nu1
 generalize upd H4 u1 (.tup [v,.int d])=H5 at q5 g1 ⊢
 nofun
 intro u2 nu2
 have q6:=ze nu2 (.tup [.int d,v])
 have g2:=zq (.tup [.int d,v]) nu2
 generalize upd H5 u2 (.tup [.int d,v])=H6 at q6 g2 ⊢
 nofun
 intro u3 nu3
 have q7:=ze nu3 (.tup [v,v])
 have g3:=zq (.tup [v,v]) nu3
 generalize upd H6 u3 (.tup [v,v])=H7 at q7 g3 ⊢
 nofun
 obtain ⟨w,ew⟩:∃ w,w=d / 999999:=⟨_,rfl⟩
 rw[<-ew]
 intro u4 nu4
 have q8:=ze nu4 (.tup [.int (d+1-w),.int (d-w)])
 have g4:=zq (.tup [.int (d+1-w),.int (d-w)]) nu4
 generalize upd H7 u4 (.tup [.int (d+1-w),.int (d-w)])=H8 at q8 g4 ⊢
 nofun
 intro u5 nu5
 have q9:=ze nu5 (.lst [.ref u1,.ref u2,.ref u3,.ref u4])
 have g5:=zq (.lst [.ref u1,.ref u2,.ref u3,.ref u4]) nu5
 generalize upd H8 u5 (.lst [.ref u1,.ref u2,.ref u3,.ref u4])=H9 at q9 g5 ⊢
 have q49:=q5.trans (q6.trans (q7.trans (q8.trans q9)))
 have kv:∃ T,zam K H9 v T:=⟨Tk,kn.same q49⟩
 have all2:∀ z∈([.ref u1,.ref u2,.ref u3,.ref u4]:List V),∃ (q:Addr) (x y:V),z=.ref q/\H9 q=some (.tup [x,y])/\zhq K H9 x y:=zau ⟨u1,v,.int d,rfl,(q6.trans (q7.trans (q8.trans q9))) _ _ g1,kv,zfI _,.inl dn⟩ (zau ⟨u2,.int d,v,rfl,(q7.trans (q8.trans q9)) _ _ g2,zfI _,kv,.inr (.inl dn)⟩ (zau ⟨u3,v,v,rfl,(q8.trans q9) _ _ g3,kv,kv,.inl dn⟩ (zau ⟨u4,_,_,rfl,q9 _ _ g4,zfI _,zfI _,.inr (.inr ⟨_,_,rfl,rfl,by ac_rfl⟩)⟩ zoY)))
 nofun
 refine ⟨px,_,_,_,rfl,rfl,SqL.of (q49 _ _ e4),a2,?_⟩
 nofun
 obtain ⟨z,hz,hm2⟩:=zkg (xs:=[.ref u1,.ref u2,.ref u3,.ref u4]) (k:=x2 % 4) (by ac_rfl) (by simp;ac_rfl)
 refine ⟨u5,_,_,_,rfl,rfl,SqL.of g5,hz,?_⟩
 obtain ⟨q,x,y,rfl,hq,hb⟩:=all2 z hm2
 exact h q x y H9 (s4.trans q49) hq hb
def ziG (K:W.Frag):Sp:=fun vs H Q _=>L2.Ee5 fun p dx u m n=>L2.Aa3 (vs=[.ref p]) (Deb K H p dx u m n) (∀ x dy,H x=none->H dy=none->dy≠x->Q (.ref x) (upd (upd H dy (.own x)) x (.ins (cA K "Debt") dy (zab u m n))))
theorem ziC:zi ["self", "other"] qaa (zg zeq):=by walk_at "sp"
theorem zn3 (S:zv K (cA K "Debt") "copy" "Debt.copy" zeq qaa) (T:Txt K mg) (zb5:zu P w K mg base 1 (cA K "Debt") "__init__" qar (zfz K)):zu P w K mg base 3 (cA K "Debt") "copy" qaa (ziG K):=by
 exists S.ok,ziC,0
 all_goals obtain ⟨p,dx,u,m,n,rfl,e,h⟩:=h
 ·rfl
 refine ⟨_,(zc (zo (i:=1) ziC.nd rfl (by walk_at "lc") (zbL T.zjc zb5 hr T.zki (za (zI T.zB T.zaB (pv 0)) zb)))
  (zc (zah T.zB T.zE (pv 1) (zI T.zB T.zE (pv 0)))
  (zc (zah T.zB T.zL (pv 1) (zI T.zB T.zL (pv 0)))
  (zf (zj (pv 1)))))),?_⟩
 nofun
 refine ⟨p,dx,_,_,rfl,e,rfl,?_⟩
 nofun
 intro x dy nx ndy ney
 refine ⟨x,dy,u,rfl,zh,rfl,?_⟩
 rw[zad]
 have sD:Same H (upd (upd H dy (.own x)) x (.ins (cA K "Debt") dy (zab u 0 0))):=(ze ndy _).trans (ze (by rw[zp ney.symm];exact nx) _)
 have e1:=Deb.same e sD
 have f1:Deb K (upd (upd H dy (.own x)) x (.ins (cA K "Debt") dy (zab u 0 0))) x dy u 0 0:=zh
 have nex:p≠x:=zN e nx
 nofun
 refine ⟨p,dx,_,_,rfl,e1,rfl,?_⟩
 nofun
 refine ⟨x,dy,_,rfl,f1,zbl,?_⟩
 rw[zmf,zad]
 have e2:=(Deb.same e ((ze ndy (.own x)).trans (ze (o:=.ins (cA K "Debt") dy (zab u m 0)) (by rw[zp ney.symm];exact nx))))
 have f2:Deb K (upd (upd H dy (.own x)) x (.ins (cA K "Debt") dy (zab u m 0))) x dy u m 0:=zh
 nofun
 refine ⟨p,dx,_,_,rfl,e2,rfl,?_⟩
 nofun
 refine ⟨x,dy,_,rfl,f2,zbl,?_⟩
 rw[zo9,zad]
 nofun
 exact h x dy nx ndy ney
def zjC (K:W.Frag):Sp:=fun vs H Q _=>L2.Ee6 fun p dx u m n x=>L2.Aa4 (vs=[.ref p,.int x]) (Deb K H p dx u m n) ((0<u/\u<1152921504606846976)) (Q .non (upd H p (.ins (cA K "Debt") dx (zab u (Dbt.step u .fee x m n).1 (Dbt.step u .fee x m n).2))))
theorem znM:zi qad qad (zg zfb):=by walk_at "sp"
theorem zps (S:zv K (cA K "Debt") "fee" "Debt.fee" zfb qad) (T:Txt K mg) (zae:zu P w K mg base 2 (cA K "Debt") "add_cents" qad (zbq K)):zu P w K mg base 3 (cA K "Debt") "fee" qad (zjC K):=by
 exists S.ok,znM,0
 all_goals obtain ⟨p,dx,u,m,n,x,rfl,e,hu,h⟩:=h
 ·rfl
 refine ⟨_,(zf (zK (zcb zae T.zB hr (pv 0) (za (pv 1) zb)))),?_⟩
 nofun
 refine ⟨p,dx,_,rfl,e,rfl,?_⟩
 nofun
 refine ⟨p,dx,u,m,n,x,rfl,e,hu,?_⟩
 exact h
def ziq (K:W.Frag):Sp:=fun vs H Q _=>L2.Ee6 fun p dx u m n x=>L2.Aa4 (vs=[.ref p,.int x]) (Deb K H p dx u m n) ((0<u/\u<1152921504606846976)) (Q .non (upd H p (.ins (cA K "Debt") dx (zab u (Dbt.step u .lend x m n).1 (Dbt.step u .lend x m n).2))))
theorem zmx:zi qad qad (zg zeB):=by walk_at "sp"
theorem znZ (S:zv K (cA K "Debt") "lend" "Debt.lend" zeB qad) (T:Txt K mg) (zae:zu P w K mg base 2 (cA K "Debt") "add_cents" qad (zbq K)):zu P w K mg base 3 (cA K "Debt") "lend" qad (ziq K):=by
 exists S.ok,zmx,0
 all_goals obtain ⟨p,dx,u,m,n,x,rfl,e,hu,h⟩:=h
 ·rfl
 refine ⟨_,(zc (zah T.zB T.zE (pv 0) (zk zQ (zI T.zB T.zE (pv 0)) (pv 1)))
  (zf (zK (zcb zae T.zB hr (pv 0) (za (pv 1) zb))))),?_⟩
 nofun
 refine ⟨p,dx,_,_,rfl,e,rfl,?_⟩
 nofun
 refine ⟨p,dx,_,rfl,e,zbl,?_⟩
 rw[zmf]
 have e1:Deb K (upd H p (.ins (cA K "Debt") dx (zab u (m+x) n))) p dx u (m+x) n:=zh
 nofun
 refine ⟨p,dx,_,rfl,e1,rfl,?_⟩
 nofun
 refine ⟨p,dx,u,m+x,n,x,rfl,e1,hu,?_⟩
 rw[zad]
 exact h
def ziF (K:W.Frag):Sp:=fun vs H Q _=>L2.Ee6 fun p dx u m n x=>L2.Aa4 (vs=[.ref p,.int x]) (Deb K H p dx u m n) ((0<u/\u<1152921504606846976)) (Q .non (upd H p (.ins (cA K "Debt") dx (zab u (Dbt.step u .take x m n).1 (Dbt.step u .take x m n).2))))
theorem zmX:zi qad qad (zg zex):=by walk_at "sp"
theorem znR (S:zv K (cA K "Debt") "take" "Debt.take" zex qad) (T:Txt K mg) (zae:zu P w K mg base 2 (cA K "Debt") "add_cents" qad (zbq K)):zu P w K mg base 3 (cA K "Debt") "take" qad (ziF K):=by
 exists S.ok,zmX,0
 all_goals obtain ⟨p,dx,u,m,n,x,rfl,e,hu,h⟩:=h
 ·rfl
 refine ⟨_,(zf (zK (zcb zae T.zB hr (pv 0) (za (zcU zbY (pv 1)) zb)))),?_⟩
 nofun
 refine ⟨p,dx,_,rfl,e,rfl,?_⟩
 nofun
 refine ⟨p,dx,u,m,n,-x,rfl,e,hu,?_⟩
 exact h
def zls (K:W.Frag):Sp:=fun vs H Q _=>L2.Ee4 fun a xs l d=>L2.Aa5 (vs=[.ref a,.int d]) (SqL K H a xs) (zx K H xs l) (Spans.Joined l) (Q (.bl (Spans.isIn l d)) H)
theorem zqp:zi qan qan (zg zhz):=by walk_at "sp"
theorem zq7 (S:Src K mg "stands" zhz qan) (T:Txt K mg) (zfo:Def P w K mg base 2 "moved" qan (zjJ K)):Def P w K mg base 3 "stands" qan (zls K):=by
 exists S.ok,zqp,0
 all_goals obtain ⟨a,xs,l,d,rfl,hS,hR,J,h⟩:=h
 ·rfl
 refine ⟨_,(zf (zj (zho zgp (zt zfo hr (za (pv 0) (za (pv 1) zb))) (pv 1) (nomark _)))),?_⟩
 nofun
 refine ⟨a,xs,l,d,rfl,hS,hR,J,?_⟩
 intro m F
 nofun
 refine qb h ?_
 cases b:Spans.isIn l d with
 | true=>exact (decide_eq_true (F.gt.mpr (Spans.zef.mp b))).symm
 | false=>exact (decide_eq_false fun z=>by rw[Spans.zef.mpr (F.gt.mp z)] at b;cases b).symm
def zh8 (K:W.Frag):Sp:=fun vs H Q _=>L2.Ee9 fun c p kd xs b (ds:List Int) P x y=>L2.Aa9 (vs=[.ref c,.ref p,.int P,.int x,.int y]) (zb9 K H c kd) (SqL K H p xs) (R4 b H xs ds) (ds.Pairwise (·<·)) ((∀ d,d∈ds↔TDay b d)) (BOk b) ((0<=x/\x<=1000000/\y<=1000000)) (Q (.int (csum (Uk kd) (zaj b P) x y)) H)
theorem zax:zi ["count", "rows", "principal", "a", "b", "total", "start", "place", "row", "end"] qbj (zg zdp):=by walk_at "sp"
theorem znB (S:Src K mg "charged_by" zdp qbj) (T:Txt K mg) (zcJ:Def P w K mg base 1 "begun" qaq (zhr K)) (zhE:∀ kd:Kd,zu P w K mg base 2 (cA K kd.cls) "weight" qap (zgS kd K)):Def P w K mg base 3 "charged_by" qbj (zh8 K):=by
 exists S.ok,zax,0
 all_goals obtain ⟨c,p,kd,xs,b,ds,P0,x,y,rfl,hc,hS,hR,up,mem,O,⟨x0,x1,y1⟩,h⟩:=h
 ·rfl
 refine ⟨_,(zc (zo (i:=5) zax.nd rfl (by walk_at "lc") zd)
  (zc (zo (i:=6) zax.nd rfl (by walk_at "lc") (pv 3))
  (zc (zo (i:=7) zax.nd rfl (by walk_at "lc") (zt zcJ hr (za (pv 1) (za (pv 3) zb))))
  (zc (zhS PassesOwn.never (zz zdq (pv 6) (pv 4) (nomark _))
  (zc (zo (i:=8) zax.nd rfl (by walk_at "lc") (zr zG (pv 1) (zk zce (pv 7) zd) (fun _ _=>rfl)))
  (zc (zo (i:=9) zax.nd rfl (by walk_at "lc") (zmh (zz zdq (pv 7) (zy zZ rfl T.zbP PySem.boot_len (za (pv 1) zb)) (nomark _)) (zy (zf8 rfl) rfl T.zi1 PyProof.Rows.boot_min (za (pv 4) (za (zr zP (zr zG (pv 1) (pv 7) (fun _ _=>rfl)) zd (fun _ _=>rfl)) zb))) (pv 4)))
  (zc (zo (i:=5) zax.nd rfl (by walk_at "lc") (zk zQ (pv 5) (zk zcN (zjM zhE T.cls hr (pv 0) (za (pv 6) (za (pv 9) zb))) (zk zQ (zk zcN (zr zP (pv 8) zd (fun _ _=>rfl)) (pv 2)) (zk zcN (zr zP (pv 8) zd (fun _ _=>rfl)) (zy (zf8 rfl) rfl T.zi1 PyProof.Rows.boot_min (za (pv 2) (za (zr zP (pv 8) zd (fun _ _=>rfl)) zb))))))))
  (zc (zo (i:=6) zax.nd rfl (by walk_at "lc") (pv 9))
  (zf (zo (i:=7) zax.nd rfl (by walk_at "lc") (zk zQ (pv 7) zd))))))))
  (zf (zj (pv 5))))))),?_⟩
 have xl:=hR.length
 nofun
 refine ⟨p,xs,ds,x,rfl,hS,hR.rf,up,fun n Bg=>?_⟩
 have n1:1<=n:=by
  rcases Nat.eq_zero_or_pos n with e | e
  ·subst e
   obtain ⟨j,hj⟩:=ybe.mp ((mem 0).mpr (.inl rfl))
   have:=Bg.hi j 0 (ycz _) hj
   ac_rfl
  ·exact e
 nofun
 refine ⟨fun k σ H'=>H=H'/\∃ (st:Int) (pl:Nat) (z1 z2:Option V),σ=[some (.ref c),some (.ref p),some (.int P0),some (.int x),some (.int y),some (.int (csum (Uk kd) (zaj b P0) x st)),some (.int st),some (.int pl),z1,z2]/\x<=st/\(st<=y\/st=x)/\(st<y->zlb ds st pl/\1<=pl)/\k=(y-st).toNat,⟨_,rfl,x,n,_,_,by rw[zhn (yds _)];rfl,yds _,.inr rfl,fun _=>⟨Bg,n1⟩,rfl⟩,?_⟩
 rintro k σ H' ⟨rfl,st,pl,z1,z2,rfl,xs1,st2,bg,rfl⟩
 nofun
 ·rename_i q
  refine ⟨_,fun σ' H' z=>z,?_⟩
  obtain ⟨B,p1⟩:=bg q
  have ble:=B.le
  obtain ⟨m,rfl⟩:∃ m,pl=m+1:=⟨pl-1,by ac_rfl⟩
  have em:((m+1:Nat):Int)-1=(m:Int):=by ac_rfl
  obtain ⟨d0,hd0,t0,ex0,ht0⟩:=hR.get (yaa (by ac_rfl:m<xs.length))
  have at0:atI xs (((m+1:Nat):Int)-1)=some (.ref t0):=by
   rw[em]
   exact zak (by rw[yaa (by ac_rfl:m<xs.length),ex0])
  have lo0:=B.lo m d0 (by ac_rfl) hd0
  have rr:=O.rt d0
  have ll:=O.lt d0
  nofun
  refine ⟨p,_,_,_,rfl,rfl,hS,at0,?_⟩
  have fin:∀ e:Int,st<e->e<=y->(∀ z,ds[m+1]?=some z->e<=z)->(e<y->zlb ds e (m+1+1))->csum (Uk kd) (zaj b P0) x e=csum (Uk kd) (zaj b P0) x st+(Uk kd e-Uk kd st)*(ze6 b d0*P0+ze1 b d0*mn P0 (zd8 b d0)):=fun e h1 h2 h3 h4=>by
   rw[zj2 xs1 (by ac_rfl:st<=e),zqk mem up hd0 lo0 (by ac_rfl) h3]
   rfl
  have u2:=zo5 (kd:=kd) (d:=st) (by ac_rfl) (by ac_rfl)
  nofun
  ·rename_i c1
   have ml:m+1<xs.length:=by ac_rfl
   obtain ⟨d1,hd1,t1,ex1,ht1⟩:=hR.get (yaa ml)
   have at1:atI xs ((m+1:Nat):Int)=some (.ref t1):=zak (by rw[yaa ml,ex1])
   have hi1:=B.hi (m+1) d1 (ycv _) hd1
   have e0:st<(if d1<y then d1 else y):=by split <;> ac_rfl
   have e1:(if d1<y then d1 else y)<=y:=by split <;> ac_rfl
   have e2:∀ z,ds[m+1]?=some z->(if d1<y then d1 else y)<=z:=fun z hz=>by
    rw[hd1] at hz
    cases hz
    split <;> ac_rfl
   have e3:(if d1<y then d1 else y)<y->zlb ds (if d1<y then d1 else y) (m+1+1):=fun z=>by
    have e4:(if d1<y then d1 else y)=d1:=by
     by_cases c:d1<y
     ·rw[if_pos c]
     ·rw[if_neg c] at z;ac_rfl
    rw[e4]
    refine ⟨by ac_rfl,fun i x hi hx=>?_,fun i x hi hx=>zcx up hd1 hx (by ac_rfl)⟩
    by_cases c:i=m+1
    ·subst c;rw[hd1] at hx;have:=Option.some.inj hx;ac_rfl
    ·have:=B.lo i x (by ac_rfl) hx;ac_rfl
   have fe:=fin _ e0 e1 e2 e3
   refine ⟨p,_,_,_,rfl,rfl,hS,at1,?_⟩
   nofun
   generalize (if d1<y then d1 else y)=e at *
   refine ⟨kd,c,rfl,hc,?_⟩
   have u1:=zo5 (kd:=kd) (d:=e) (by ac_rfl) (by ac_rfl)
   nofun
   first | refine ⟨hc,?_⟩ | skip
   nofun
   refine ⟨(y-e).toNat,by ac_rfl,rfl,e,m+1+1,some (.ref t0),some (.int e),?_,by ac_rfl,.inl (by ac_rfl),fun z=>⟨e3 z,by ac_rfl⟩,rfl⟩
   rw[fe]
   rfl
  ·rename_i c1
   have dl:ds.length=m+1:=by ac_rfl
   have e2:∀ z,ds[m+1]?=some z->y<=z:=fun z hz=>by
    have:=(yad.mp hz).1
    ac_rfl
   have fe:=fin y q (yds _) e2 fun z=>absurd z (by ac_rfl)
   nofun
   refine ⟨kd,c,rfl,hc,?_⟩
   have u1:=zo5 (kd:=kd) (d:=y) (by ac_rfl) (by ac_rfl)
   nofun
   first | refine ⟨hc,?_⟩ | skip
   nofun
   refine ⟨(y-y).toNat,by ac_rfl,rfl,y,m+1+1,some (.ref t0),some (.int y),?_,by ac_rfl,.inl (by ac_rfl),fun z=>absurd z (by ac_rfl),rfl⟩
   rw[fe]
   rfl
 ·rename_i q
  have e:csum (Uk kd) (zaj b P0) x st=csum (Uk kd) (zaj b P0) x y:=by
   rcases st2 with z | z
   ·rw[show st=y by ac_rfl]
   ·rw[z,zhn (yds _),zhn (by ac_rfl)]
  rw[e]
  exact h
def zg8 (K:W.Frag):Sp:=fun vs H Q _=>∃ c kd g,vs=[.ref c,.int g]/\zb9 K H c kd/\(0<=g/\g<=366)/\Q .non H
theorem zkZ:zi qay qay (zg zcQ):=by walk_at "sp"
theorem zlV (S:Src K mg "check_terms" zcQ qay) (T:Txt K mg) (zgx:Def P w K mg base 2 "is_within" qax (ziT K)):Def P w K mg base 3 "check_terms" qay (zg8 K):=by
 exists S.ok,zkZ,0
 all_goals obtain ⟨c,kd,g,rfl,hc,⟨g0,g1⟩,h⟩:=h
 ·rfl
 refine ⟨_,(zc (zaa (zeG (zdt (zy zqP rfl T.zT PyProof.Rows.boot_isinstance (za (pv 0) (za (zbE (v:=.ref (cA K "Count")) rfl T.zkI rfl) zb)))))
   ziO
   zY)
  (zf (zaa (zeG (zdt (zt zgx hr (za (pv 1) (za zd (za (zd0 T.zfw) zb))))))
   ziO
   zY))),?_⟩
 have ty:=tyC (T.cls kd) (T.ikK kd) hc
 nofun
 refine ⟨_,_,_,_,rfl,ty,T.kitK0 kd,?_⟩
 rw[show zty kd .plain=true from rfl]
 nofun
 exact h
def zhe (K:W.Frag):Sp:=fun vs H Q _=>L2.Ee6 fun p sp xs ys es l=>L2.Aa6 (vs=[.ref p,.ref sp]) (SqL K H p xs) (EL K H xs es) (Few es) ((SqL K H sp ys/\zx K H ys l/\Spans.Joined l)) (∀ q H' ws r,H q=none->Same H H'->H' q=some (.lst ws)->zx K H' ws r->Sby.Tab r (mvp (mvd l) (prs "due" es))->Q (.ref q) H')
theorem zk8:zi qaz qaz (zg zcV):=by walk_at "sp"
theorem zlL (S:Src K mg "fallen_dues" zcV qaz) (T:Txt K mg) (zdZ:Def P w K mg base 1 "summed" qal (ziU K)) (zcm:Def P w K mg base 2 "sum_by" qaf (ziu K)) (zfo:Def P w K mg base 2 "moved" qan (zjJ K)):Def P w K mg base 3 "fallen_dues" qaz (zhe K):=by
 exists S.ok,zk8,0
 all_goals obtain ⟨p,sp,xs,ys,es,l,rfl,ep,hE,hl,⟨eS,rS,J⟩,h⟩:=h
 ·rfl
 refine ⟨_,(zf (zj (zt zdZ hr (za (zaM (ix:=[1]) ⟨rfl,by decide +kernel,rfl,by decide +kernel,rfl,(show (["row", "spans"]:List Str).Nodup by decide +kernel),by walk_at "cap", by walk_at "sub", by walk_at "has"⟩ (zV (zt zcm hr (za (pv 0) (za zaf zb)))) (fun b=>(zO (za (zt zfo hr (za (pv 1) (za (zr (zbz K) (pv 0) zd (fun _ _=>rfl)) zb))) (za (zr (zbz K) (pv 0) zd (fun _ _=>rfl)) zb))))) zb)))),?_⟩
 have sz:=sizeLine_eq
 nofun
 refine ⟨p,xs,es, "due", rfl,ep,hE,hl,.inr (.inr (.inr rfl)),fun q1 H1 ws1 r1 nq1 s1 e1 R1 T1=>?_⟩
 have eS1:=s1.seq eS
 have rS1:=rS.same s1
 have l1:=R1.length
 have pl:=hl.pr "due" zmK
 have rl:r1.length<=(prs "due" es).length:=by
  have:=zfY (Sby.zfd T1.up) fun k hk=>(T1.mem k).mp hk
  rw[yab,yab] at this
  exact this
 refine ⟨q1,rfl,⟨_,SqL.of e1⟩,fun lt nlt=>?_⟩
 refine comp_map (zaz (SqL.of e1)) nlt (by ac_rfl) r1 l1.symm (fun H' v s=>∃ t,v=.ref t/\H' t=some (.tup [.int (mvd l s.1),.int s.2])) (fun v e H1 H2 s ⟨t,e1,e2⟩=>⟨t,e1,s _ _ e2⟩) (fun v e H1 ys zs hL ⟨t,e1,e2⟩=>⟨t,e1,by rw[zp (zaw e2 hL (by intro z;cases z))];exact e2⟩) ?_ ?_
 ·rintro i x s H' Q' hx hs sH hq
  obtain ⟨u,s',rfl,hs',hu⟩:=(R1.same sH).get hx
  obtain rfl:s'=s:=Option.some.inj (hs'.symm.trans hs)
  nofun
  refine ⟨sp,ys,l,s'.1,rfl,sH.seq eS1,rS1.same sH,J,fun m F=>?_⟩
  obtain rfl:=zqs F
  nofun
  intro t nt
  exact hq _ _ (ze nt _) ⟨t,rfl,zh⟩
 ·rintro zs H2 s2 eL hL
  have ml:(mvp (mvd l) r1).length=r1.length:=yab ..
  nofun
  refine ⟨lt,zs,mvp (mvd l) r1,rfl,eL,zrS hL,by ac_rfl,fun q H3 ws r nq s3 eq hr' tb=>?_⟩
  exact h q H3 ws r (zD (s1.trans s2) nq) (s1.trans (s2.trans s3)) eq hr' (zst _ T1 tb)
theorem zsI {K:W.Frag} {T:String} (h:T∈kinds):PySem.W.kitOne K (.type T) (.type "list")=some (decide (T = "list")):=by
 simp only[kinds,yak,ybt,or_false] at h
 rcases h with rfl | rfl | rfl | rfl | rfl | rfl | rfl <;> rfl
theorem zmT {ys:List V} {n:Nat} {f:Nat->Bool} (hl:ys.length=n) (p:∀ (j:Nat) v,ys[j]?=some v->v=.bl (f j)):ys=((yaq n).map f).map V.bl:=by
 apply ybn
 intro j
 rw[yaf,yaf]
 by_cases hj:j<ys.length
 ·rw[yaa hj,p j _ (yaa hj),ybl (by omega)]
  rfl
 ·rw[yap (by omega),yap (by rw[ybo];omega)]
  rfl
theorem zss {v:V} (h:zbm v=true):v=.int (iv v):=by
 cases v <;> first | rfl | cases h
def zjt (K:W.Frag):Sp:=fun vs H Q _=>∃ x,vs=[x]/\((∃ T,zam K H x T/\T ≠ "list" /\ Q (.bl false) H)\/∃ p xs,x=.ref p/\H p=some (.lst xs)/\xs.length<=1000/\(∀ v∈xs,∃ T,zam K H v T)/\Q (.bl (zbp xs)) H)
theorem znY:zi qba qba (zg zfj):=by walk_at "sp"
theorem zpf (S:Src K mg "are_days" zfj qba) (T:Txt K mg) (zc6:Def P w K mg base 2 "is_day" qai (ziR K)):Def P w K mg base 3 "are_days" qba (zjt K):=by
 exists S.okF,znY,0
 all_goals obtain ⟨x,rfl,h⟩:=h
 ·rfl
 refine ⟨_,(zc (zaa (PW.pt (zjg (zeG (zdt (zy zgB rfl T.zT PyProof.Rows.boot_isinstance (za (pv 0) (za (zli (v:=.ty "list") rfl T.zbu PyProof.Rows.boot_list rfl) zb))))) (zg9 (zeG (zrQ zdE zdE zd (zy zZ rfl T.zbP PySem.boot_len (za (pv 0) zb)) (zd0 T.zg7))))))
  (zf (zj zaT))
   zY)
  (zc (zaa (zeG (zdt (zy (zlB rfl) rfl T.zmb PyProof.Rows.boot_all (za (zaM (ix:=[]) ⟨rfl,by decide +kernel,rfl,by decide +kernel,rfl,(show (["thing"]:List Str).Nodup by decide +kernel),by walk_at "cap", by walk_at "sub", by walk_at "has"⟩ (zV (pv 0)) (fun b=>(zt zc6 hr (za (pv 0) zb)))) zb))))
  (zf (zj zaT))
   zY)
  (zf (zj (zy (zlB rfl) rfl T.zmb PyProof.Rows.boot_all (za (zaM (ix:=[0]) ⟨rfl,by decide +kernel,rfl,by decide +kernel,rfl,(show (["place", "things"]:List Str).Nodup by decide +kernel),by walk_at "cap", by walk_at "sub", by walk_at "has"⟩ (zqS rfl T.zaV (za zd (za (zy zZ rfl T.zbP PySem.boot_len (za (pv 0) zb)) zb))) (fun b=>(zho zdq (zr (zbK K) (pv 1) (zk zce (pv 0) zd) (fun _ _=>rfl)) (zr (zbK K) (pv 1) (pv 0) (fun _ _=>rfl)) (nomark _)))) zb)))))),?_⟩
 have sz:=sizeLine_eq
 rcases h with ⟨Tk,hk,nT,h⟩ | ⟨p,xs,rfl,hp,l3,hk,h⟩
 ·nofun
  refine ⟨_,_,_,_,rfl,hk.1,zsI hk.2,?_⟩
  rw[decide_eq_false nT]
  nofun
  exact ⟨Same.refl _,h⟩
 nofun
 refine ⟨_,_,_,_,rfl,.lst hp,(show PySem.W.kitOne K (.type "list") (.type "list")=some true from rfl),?_⟩
 nofun
 refine ⟨p,_,rfl,.inl (SqL.of hp),?_⟩
 by_cases lo:1<=xs.length/\xs.length<=360
 rotate_left
 ·have ef:zbp xs=false:=by unfold zbp;rw[decide_eq_false lo];rfl
  rw[ef] at h
  nofun
  all_goals first | exact ⟨Same.refl _,h⟩ | (exfalso;ac_rfl) | skip
 obtain ⟨l1,l2⟩:=lo
 nofun
 all_goals first | (exfalso;ac_rfl) | skip
 refine ⟨⟨_,SqL.of hp⟩,fun l nl=>?_⟩
 refine zgt (fun i v=>v=.bl (zbm (xs.getD i .non))) (SqL.of hp) nl (by ac_rfl) ?_ ?_
 ·intro i y G Q' hy sG hq
  obtain ⟨T1,h1⟩:=hk y (yai hy)
  nofun
  refine ⟨_,T1,rfl,h1.same sG,?_⟩
  exact hq _ (by rw[yac,hy];rfl)
 intro ys yl yp
 obtain rfl:=zmT yl yp
 have em:(yaq xs.length).map (fun i=>zbm (xs.getD i .non))=xs.map zbm:=by
  apply ybn
  intro j
  rw[yaf,yaf]
  by_cases hj:j<xs.length
  ·rw[ybl hj,yaa hj]
   show some (zbm (xs.getD j .non))=some (zbm xs[j])
   rw[yac,yaa hj];rfl
  ·rw[yap (by rw[ybo];ac_rfl),yap (by ac_rfl)]
   rfl
 rw[em] at *
 have s1:=ze nl (.lst ((xs.map zbm).map V.bl))
 have e1:=zq (.lst ((xs.map zbm).map V.bl)) nl
 have hp1:=s1 _ _ hp
 generalize upd H l (.lst ((xs.map zbm).map V.bl))=H1 at s1 e1 hp1 ⊢
 nofun
 refine ⟨l,_,rfl,SqL.of e1,?_⟩
 cases ad:(xs.map zbm).all id with
 | false =>
  have ef:zbp xs=false:=by unfold zbp;rw[ad,Bool.and_false];rfl
  rw[ef] at h
  nofun
  first | exact ⟨s1,h⟩ | exact h
 | true =>
  have ef:zbp xs=((yaq (xs.length-1)).map (rise xs)).all id:=by unfold zbp;rw[ad,decide_eq_true ⟨l1,l2⟩];rfl
  rw[ef] at h
  have isI:∀ (j:Nat) (hj:j<xs.length),xs[j]?=some (.int (iv (xs.getD j .non))):=fun j hj=>by
   have:zbm xs[j]=true:=by
    have:=ycn.mp ad (zbm xs[j]) (yah.mpr ⟨_,yca hj,rfl⟩)
    exact this
   rw[yac,yaa hj]
   exact congrArg some (zss this)
  nofun
  refine ⟨p,_,rfl,.inl (SqL.of hp1),?_⟩
  nofun
  intro l2 nl2
  refine zhH (fun i v=>v=.bl (rise xs i)) nl2 (by ac_rfl) ?_ ?_
  ·intro i G Q' hi sG hq
   have hpG:=sG _ _ hp1
   have i1:i+1<xs.length:=by ac_rfl
   have a1:atI xs ((1:Int)+(i:Int)-1)=some (.int (iv (xs.getD i .non))):=by
    rw[show (1:Int)+(i:Int)-1=((i:Nat):Int) by ac_rfl]
    exact zak (isI i (by ac_rfl))
   have a2:atI xs ((1:Int)+(i:Int))=some (.int (iv (xs.getD (i+1) .non))):=by
    rw[show (1:Int)+(i:Int)=((i+1:Nat):Int) by ac_rfl]
    exact zak (isI (i+1) i1)
   nofun
   refine ⟨p,_,_,_,rfl,rfl,SqL.of hpG,a1,?_⟩
   nofun
   refine ⟨p,_,_,_,rfl,rfl,SqL.of hpG,a2,?_⟩
   nofun
   exact hq _ rfl
  intro ys yl yp
  obtain rfl:=zmT yl yp
  nofun
  refine ⟨l2,_,rfl,SqL.of zh,?_⟩
  rw[show ((xs.length:Int)-1).toNat=xs.length-1 by ac_rfl]
  exact ⟨s1.trans (ze nl2 _),h⟩
def zcK (K:W.Frag):Sp:=fun vs H Q _=>∃ a b,vs=[a,b]/\False
theorem zjl:zi qaj qaj (zg zbU):=by walk_at "sp"
theorem zjK (S:Src K mg "leaves_nothing" zbU qaj) (T:Txt K mg) (zd9:∀ kd:Kd,zu P w K mg base 2 (cA K kd.cls) "unit" qaa (zgw kd K)) (za7:zu P w K mg base 1 (cA K "Book") "count" qaa (zeU K)):Def P w K mg base 3 "leaves_nothing" qaj (zcK K):=by
 exists S.ok,zjl,0
 all_goals obtain ⟨a,b,rfl,hf⟩:=h
 ·rfl
 refine ⟨_,(zf (zj (zho zdE (zk zjZ (zr zP (zr zG (pv 1) (zcU zbY zd) (fun _ _=>rfl)) zd (fun _ _=>rfl)) (ziN zd9 T.cls hr (zC za7 T.zw hr (pv 0)))) zd (nomark _)))),?_⟩
 exact hf.elim
def zkm (K:W.Frag):Sp:=fun vs H Q _=>∃ a A b,vs=[.ref a]/\zW K H a A b/\BOk b /\
 ∀ p ws (ds:List Int) H',H p=none->Same H H'->H' p=some (.lst ws)->R4 b H' ws ds->ds.Pairwise (·<·)->(∀ d,d∈ds↔TDay b d)->ds.length<=1000->Q (.ref p) H'
theorem zaS:zi ["book", "spans", "rates", "lates", "asked_sums", "handed_sums", "told", "day", "lacks"] qah (zg zga):=by walk_at "sp"
theorem zqG (S:Src K mg "burdens" zga qah) (T:Txt K mg) (zbd:zu P w K mg base 1 (cA K "Book") "stills" qaa (zdY K)) (zbD:zu P w K mg base 1 (cA K "Book") "rates" qaa (zeR K)) (zbG:zu P w K mg base 1 (cA K "Book") "lates" qaa (ze3 K)) (zgN:Def P w K mg base 2 "late_sums" qah (ziY K)) (zaY:Def P w K mg base 1 "running_sums" qam (zdx K)) (zaK:zu P w K mg base 1 (cA K "Book") "pays" qaa (zdv K)) (zd2:Def P w K mg base 2 "turning_days" qah (zgm K)) (zjU:Def P w K mg base 3 "stands" qan (zls K)) (zcy:Def P w K mg base 2 "value_at" qbh (zjs K)):Def P w K mg base 4 "burdens" qah (zkm K):=by
 exists S.ok,zaS,0
 all_goals obtain ⟨a,A,b,rfl,B,O,h⟩:=h
 ·rfl
 refine ⟨_,(zc (zo (i:=1) zaS.nd rfl (by walk_at "lc") (zC zbd T.zw hr (pv 0)))
  (zc (zo (i:=2) zaS.nd rfl (by walk_at "lc") (zC zbD T.zw hr (pv 0)))
  (zc (zo (i:=3) zaS.nd rfl (by walk_at "lc") (zC zbG T.zw hr (pv 0)))
  (zc (zo (i:=4) zaS.nd rfl (by walk_at "lc") (zt zgN hr (za (pv 0) zb)))
  (zc (zo (i:=5) zaS.nd rfl (by walk_at "lc") (zt zaY hr (za (zC zaK T.zw hr (pv 0)) zb)))
  (zc (zo (i:=6) zaS.nd rfl (by walk_at "lc") (zai zb))
  (zc (zch PassesOwn.never rfl (zV (zt zd2 hr (za (pv 0) zb))) (zay (i:=7) zaS.nd rfl (by walk_at "lc"))
  (zf (zaa (zdt (zt zjU hr (za (pv 1) (za (pv 7) zb))))
  (zf (zK (zep PySem.F.plainAttrs_list PySem.F.slot_list_append PySem.F.type_list_append zbi (pv 6) (za (zO (za (pv 7) (za zd (za zd (za zd zb))))) zb))))
  (zc (zo (i:=8) zaS.nd rfl (by walk_at "lc") (zy (zc9 rfl) rfl T.zgl PyProof.Rows.boot_max (za zd (za (zk zce (zt zcy hr (za (pv 4) (za (pv 7) zb))) (zt zcy hr (za (pv 5) (za (pv 7) zb)))) zb))))
  (zf (zK (zep PySem.F.plainAttrs_list PySem.F.slot_list_append PySem.F.type_list_append zbi (pv 6) (za (zO (za (pv 7) (za (zt zcy hr (za (pv 2) (za (pv 7) zb))) (za (zt zcy hr (za (pv 3) (za (pv 7) zb))) (za (pv 8) zb))))) zb))))))))
  (zf (zj (pv 6)))))))))),?_⟩
 have sz:=sizeLine_eq
 nofun
 refine ⟨a,A.dx,_,rfl,B.ins,rfl,a,A,b,rfl,B,fun q1 x1 n1 r1 l1=>?_⟩
 have t1:=ze n1 (.lst x1)
 have e1:=zq (.lst x1) n1
 have r1':=r1.same t1
 generalize upd H q1 (.lst x1)=H1 at t1 e1 r1' ⊢
 have B1:=B.same t1
 nofun
 refine ⟨a,A.dx,_,rfl,B1.ins,rfl,a,A,b,rfl,B1,fun q2 x2 n2 r2 l2=>?_⟩
 have t2:=ze n2 (.lst x2)
 have e2:=zq (.lst x2) n2
 have r2':=r2.same t2
 generalize upd H1 q2 (.lst x2)=H2 at t2 e2 r2' ⊢
 have B2:=B1.same t2
 nofun
 refine ⟨a,A.dx,_,rfl,B2.ins,rfl,a,A,b,rfl,B2,fun q3 x3 n3 r3 l3=>?_⟩
 have t3:=ze n3 (.lst x3)
 have e3:=zq (.lst x3) n3
 have r3':=r3.same t3
 generalize upd H2 q3 (.lst x3)=H3 at t3 e3 r3' ⊢
 have B3:=B2.same t3
 nofun
 first | refine ⟨a,A,b,rfl,B3,fun q4 x4 H4 n4 t4 e4 r4=>?_⟩ | refine ⟨B3,fun q4 x4 H4 n4 t4 e4 r4=>?_⟩
 have B4:=B3.same t4
 nofun
 refine ⟨a,A.dx,_,rfl,B4.ins,rfl,a,A,b,rfl,B4,fun q5 x5 n5 r5 l5=>?_⟩
 have t5:=ze n5 (.lst x5)
 have e5:=zq (.lst x5) n5
 have r5':=r5.same t5
 generalize upd H4 q5 (.lst x5)=H5 at t5 e5 r5' ⊢
 nofun
 rename_i q6 x6 H6
 intro n6 t6 e6 r6
 have t16:=t2.trans (t3.trans (t4.trans (t5.trans t6)))
 have t26:=t3.trans (t4.trans (t5.trans t6))
 have t36:=t4.trans (t5.trans t6)
 have t46:=t5.trans t6
 have s06:=t1.trans t16
 have e16:=t16 _ _ e1
 have r16:=r1'.same t16
 have e26:=t26 _ _ e2
 have r26:=r2'.same t26
 have e36:=t36 _ _ e3
 have r36:=r3'.same t36
 have e46:=t46 _ _ e4
 have r46:=r4.same t46
 clear t16 t26 t36 t46 e1 e2 e3 e4 r1' r2' r3' r4 B1 B2 B3 B4 t1 t2 t3 t4 t5 t6
 nofun
 intro p np
 have s7:=ze np (.lst [])
 have eP:=zq (.lst []) np
 have s07:=s06.trans s7
 have npH:=zD s06 np
 generalize upd H6 p (.lst [])=H7 at s7 eP s07 ⊢
 have B7:=B.same s07
 nofun
 first | refine ⟨a,A,b,rfl,B7,O,fun q8 ds H8 n8 t8 e8 up mem d64=>?_⟩ | refine ⟨B7,O,fun q8 ds H8 n8 t8 e8 up mem d64=>?_⟩
 have s68:=s7.trans t8
 have eP8:=t8 _ _ eP
 have n8p:q8≠p:=(zN eP n8).symm
 have shn:∀ s∈shf b.g b.dues,0<=s.1:=fun s hs=>by
  obtain ⟨u,hu,rfl⟩:=yah.mp hs
  have:=O.dn u hu
  have:=O.g0
  show 0<=u.1+b.g
  ac_rfl
 have kk:∀ (l:List (Int × Int)),((l.map (·.1)).Pairwise (·<·))->(∀ s∈l,0<=s.1)->((runs 0 l).Pairwise fun s t=>s.1<t.1)/\∀ s∈runs 0 l,0<=s.1:=fun l u n=>⟨zqi (by rw[zda];exact u),fun s hs=>by
  have:s.1∈l.map (·.1):=by rw[<-zda l 0];exact yav hs
  obtain ⟨v,hv,e⟩:=yah.mp this
  rw[<-e];exact n v hv⟩
 have kA:=kk (shf b.g b.dues) (zql O.du) shn
 have kP:=kk b.pays O.pu O.pn
 nofun
 refine ⟨⟨_,SqL.of e8⟩,zcY (xs:=ds.map V.int) (fun i σ H'=>∃ (ws:List V) (z1 z2:Option V),(Same H6 H'/\H' p=some (.lst ws)/\H' q8=some (.lst (ds.map V.int)))/\R4 b H' ws (ds.take i)/\σ=[some (.ref a),some (.ref q1),some (.ref q2),some (.ref q3),some (.ref q4),some (.ref q6),some (.ref p),z1,z2])
  ⟨[],_,_,⟨s68,eP8,e8⟩,.nil,rfl⟩ ?_ ?_ ?_⟩
 ·rintro i σ H' _ ⟨ws,z1,z2,⟨_,_,e⟩,_⟩
  exact SqL.of e
 ·rintro i x σ H' hx ⟨ws,z1,z2,⟨sH,eP',e8'⟩,hW,rfl⟩
  rw[yaf] at hx
  obtain ⟨d,hd,rfl⟩:=Option.map_eq_some_iff.mp hx
  have il:i<ds.length:=(yad.mp hd).1
  have wl:=hW.length
  rw[yat] at wl
  have tk:ds.take (i+1)=ds.take i++[d]:=by rw[yaz,hd];rfl
  have fin:∀ (x1 x2 x3:Int) (G:Hp) (v:Addr),x1=ze6 b d->x2=ze1 b d->x3=zd8 b d->Same H' G->G v=some (.tup [.int d,.int x1,.int x2,.int x3])->G p=some (.lst ws)->(Same H6 (upd G p (.lst (ws++[.ref v])))/\(upd G p (.lst (ws++[.ref v]))) p=some (.lst (ws++[.ref v]))/\(upd G p (.lst (ws++[.ref v]))) q8=some (.lst (ds.map V.int)))/\R4 b (upd G p (.lst (ws++[.ref v]))) (ws++[.ref v]) (ds.take (i+1)):=fun x1 x2 x3 G v g1 g2 g3 sG ev eG=>by
   subst g1 g2 g3
   refine ⟨⟨zJ (sH.trans sG) np,zh,by rw[zp n8p];exact sG _ _ e8'⟩,?_⟩
   rw[tk]
   exact LL.push ((hW.same sG).put eG) ⟨v,rfl,by rw[zp (zaw ev eG (by intro z;cases z))];exact ev⟩
  nofun
  refine ⟨q1,x1,b.spans,d,rfl,SqL.of (sH _ _ e16),r16.same sH,O.jn,?_⟩
  cases c:Spans.isIn b.spans d with
  | true =>
   nofun
   refine ⟨.inl ⟨rfl,_,SqL.of eP'⟩,?_⟩
   nofun
   intro v nv
   have sv:=ze nv (.tup [.int d,.int 0,.int 0,.int 0])
   refine ⟨p,_,_,rfl,rfl,sv _ _ eP',by ac_rfl,?_⟩
   obtain ⟨f1,f2⟩:=fin 0 0 0 _ v (by unfold ze6;rw[c];rfl) (by unfold ze1;rw[c];rfl) (by unfold zd8;rw[c];rfl) sv zh (sv _ _ eP')
   exact ⟨_,_,_,f1,f2,rfl⟩
  | false =>
   nofun
   refine ⟨q4,x4,runs 0 (shf b.g b.dues),d,rfl,SqL.of (sH _ _ e46),r46.same sH,kA.1,kA.2,?_⟩
   rw[zmy (zql O.du) shn,zrF]
   nofun
   refine ⟨q6,x6,runs 0 b.pays,d,rfl,SqL.of (sH _ _ e6),r6.same sH,kP.1,kP.2,?_⟩
   rw[zmy O.pu O.pn]
   nofun
   refine ⟨.inl ⟨rfl,_,SqL.of eP'⟩,?_⟩
   nofun
   refine ⟨q2,x2,b.rates,d,rfl,SqL.of (sH _ _ e26),r26.same sH,O.ru,fun s hs=>(O.rn s hs).1,?_⟩
   nofun
   refine ⟨q3,x3,b.lates,d,rfl,SqL.of (sH _ _ e36),r36.same sH,O.lu,fun s hs=>(O.ln s hs).1,?_⟩
   nofun
   intro v nv
   have sv:=ze nv (.tup [.int d,.int (Sums.valOf b.rates d),.int (Sums.valOf b.lates d),.int (p0 (upto b.dues (d-b.g)-upto b.pays d))])
   refine ⟨p,_,_,rfl,rfl,sv _ _ eP',by ac_rfl,?_⟩
   obtain ⟨f1,f2⟩:=fin (Sums.valOf b.rates d) (Sums.valOf b.lates d) (p0 (upto b.dues (d-b.g)-upto b.pays d)) _ v (by unfold ze6;rw[c];rfl) (by unfold ze1;rw[c];rfl) (by unfold zd8;rw[c];rfl) sv zh (sv _ _ eP')
   exact ⟨_,_,_,f1,f2,rfl⟩
 ·rintro σ H' ⟨ws,z1,z2,⟨sH,eP',e8'⟩,hW,rfl⟩
  rw[yab,ycf] at hW
  nofun
  exact h p ws ds H' npH (s06.trans sH) eP' hW up mem (by ac_rfl)
def zjx (K:W.Frag):Sp:=fun vs H Q _=>L2.Ee8 fun p dx t u m n d (q:Q4)=>L2.Aa5 (vs=[.ref p,.ref t]) (Deb K H p dx u m n) ((0<u/\u<1152921504606846976)) (H t=some (.tup [.int d,.int q.1,.int q.2.1,.int q.2.2.1,.int q.2.2.2])) (Q .non (upd H p (.ins (cA K "Debt") dx (zab u (doD u q (m,n)).1 (doD u q (m,n)).2))))
theorem zoa:zi qbb qbb (zg zfm):=by walk_at "sp"
theorem zpi (S:Src K mg "do_deeds" zfm qbb) (T:Txt K mg) (zgK:zu P w K mg base 3 (cA K "Debt") "lend" qad (ziq K)) (zhZ:zu P w K mg base 3 (cA K "Debt") "fee" qad (zjC K)) (zgP:zu P w K mg base 2 (cA K "Debt") "turn" qaa (ziv K)) (zgJ:zu P w K mg base 3 (cA K "Debt") "take" qad (ziF K)):Def P w K mg base 4 "do_deeds" qbb (zjx K):=by
 exists S.ok,zoa,0
 all_goals obtain ⟨p,dx,t,u,m,n,d,q,rfl,e,hu,ht,h⟩:=h
 ·rfl
 refine ⟨_,(zc (zK (zcb zgK T.zB hr (pv 0) (za (zr zP (pv 1) zd (fun _ _=>rfl)) zb)))
  (zc (zK (zcb zhZ T.zB hr (pv 0) (za (zr zP (pv 1) zd (fun _ _=>rfl)) zb)))
  (zc (zaa (zz za9 (zr zP (pv 1) zd (fun _ _=>rfl)) zd (nomark _))
  (zf (zK (zC zgP T.zB hr (pv 0))))
   zY)
  (zf (zK (zcb zgJ T.zB hr (pv 0) (za (zr zP (pv 1) zd (fun _ _=>rfl)) zb))))))),?_⟩
 obtain ⟨x,f,w,y⟩:=q
 change H t=some (.tup [.int d,.int x,.int f,.int w,.int y]) at ht
 unfold doD at h
 dsimp only at h
 nofun
 refine ⟨p,dx,_,rfl,e,rfl,?_⟩
 nofun
 refine ⟨p,dx,u,m,n,x,rfl,e,hu,?_⟩
 generalize Dbt.step u .lend x m n=s1 at h ⊢
 have e1:Deb K (upd H p (.ins (cA K "Debt") dx (zab u s1.1 s1.2))) p dx u s1.1 s1.2:=zh
 have t1:=zhW (K:=K) (o:=.ins (cA K "Debt") dx (zab u s1.1 s1.2)) e ht
 nofun
 refine ⟨p,dx,_,rfl,e1,rfl,?_⟩
 nofun
 refine ⟨p,dx,u,_,_,f,rfl,e1,hu,?_⟩
 rw[zad]
 generalize Dbt.step u .fee f s1.1 s1.2=s2 at h ⊢
 have e2:Deb K (upd H p (.ins (cA K "Debt") dx (zab u s2.1 s2.2))) p dx u s2.1 s2.2:=zh
 have t2:=zhW (K:=K) (o:=.ins (cA K "Debt") dx (zab u s2.1 s2.2)) e ht
 clear e1 t1
 nofun
 ·rename_i c
  rw[if_pos c] at h
  refine ⟨p,dx,_,rfl,e2,rfl,p,dx,u,_,_,rfl,e2,hu,?_⟩
  rw[zad]
  generalize Dbt.step u .turn 0 s2.1 s2.2=s3 at h ⊢
  have e3:Deb K (upd H p (.ins (cA K "Debt") dx (zab u s3.1 s3.2))) p dx u s3.1 s3.2:=zh
  have t3:=zhW (K:=K) (o:=.ins (cA K "Debt") dx (zab u s3.1 s3.2)) e ht
  nofun
  refine ⟨p,dx,_,rfl,e3,rfl,?_⟩
  nofun
  refine ⟨p,dx,u,_,_,y,rfl,e3,hu,?_⟩
  rw[zad]
  exact h
 ·rename_i c
  rw[if_neg c] at h
  refine ⟨p,dx,_,rfl,e2,rfl,?_⟩
  nofun
  refine ⟨p,dx,u,_,_,y,rfl,e2,hu,?_⟩
  rw[zad]
  exact h
def zfK (K:W.Frag):Sp:=fun vs H Q _=>L2.Ee9 fun a dx c p kd g xs es G=>L2.zrm (vs=[.ref a,.ref c,.int g,.ref p]) (H a=some (.ins (cA K "Book") dx [])) ((G a=none/\Same G H)) (zb9 K G c kd) ((0<=g/\g<=366)) (SqL K G p xs) (EL K G xs es) (Few es) ((∀ e∈es,0<=e.2.1)) (∀ A (b:BkT) H',Same G H'->zW K H' a A b->zfB b->b.kd=kd->b.g=g->b.es=es->Q .non H')
theorem zjh {r l:List (Int × Int)} (T:Sby.Tab r l):r.length<=l.length:=by
 have:=zfY (Sby.zfd T.up) fun k hk=>(T.mem k).mp hk
 rw[yab,yab] at this
 exact this
theorem zmR:zi qat qat (zg zes):=by walk_at "sp"
theorem zon (S:zv K (cA K "Book") "__init__" "Book.__init__" zes qat) (T:Txt K mg) (zeX:Def P w K mg base 3 "check_terms" qay (zg8 K)) (zcm:Def P w K mg base 2 "sum_by" qaf (ziu K)) (zid:Def P w K mg base 2 "days_of" qaf (zkj K)) (zdz:Def P w K mg base 2 "rate_table" qaf (zh1 K)) (ze5:Def P w K mg base 2 "still_spans" qbi (zhp K)) (zeZ:Def P w K mg base 3 "fallen_dues" qaz (zhe K)):zu P w K mg base 4 (cA K "Book") "__init__" qat (zfK K):=by
 exists S.ok,zmR,0
 all_goals obtain ⟨a,dx,c,p,kd,g,xs,es,G,rfl,ea,⟨na,sG⟩,hc,hg,hp,hE,hl,e0,h⟩:=h
 ·rfl
 refine ⟨_,(zc (zK (zt zeX hr (za (pv 1) (za (pv 2) zb))))
  (zc (zaa (zz zgp (zy zZ rfl T.zbP PySem.boot_len (za (pv 3) zb)) (zd0 T.zcC) (nomark _))
   ziO
   zY)
  (zc (zah T.zw T.zaQ (pv 0) (pv 1))
  (zc (zah T.zw T.zaO (pv 0) (pv 2))
  (zc (zah T.zw T.zaF (pv 0) (zR zas rfl T.zbu PyProof.Rows.boot_list (za (pv 3) zb)))
  (zc (zah T.zw T.za5 (pv 0) (zt zcm hr (za (pv 3) (za zaf zb))))
  (zc (zah T.zw T.za3 (pv 0) (zt zcm hr (za (pv 3) (za zaf zb))))
  (zc (zah T.zw T.za6 (pv 0) (zt zcm hr (za (pv 3) (za zaf zb))))
  (zc (zah T.zw T.zaP (pv 0) (zt zid hr (za (pv 3) (za zaf zb))))
  (zc (zah T.zw T.zbr (pv 0) (zt zdz hr (za (pv 3) (za zaf zb))))
  (zc (zah T.zw T.zbt (pv 0) (zt zdz hr (za (pv 3) (za zaf zb))))
  (zc (zah T.zw T.zbZ (pv 0) (zt ze5 hr (za (pv 3) zb)))
  (zf (zah T.zw T.zbM (pv 0) (zt zeZ hr (za (pv 3) (za (zI T.zw T.zbZ (pv 0)) zb))))))))))))))))),?_⟩
 have sz:=sizeLine_eq
 have xl:=hE.length
 have pl:=hl.pr
 have el:=hl.len
 nofun
 refine ⟨c,kd,g,rfl,hc.same sG,hg,?_⟩
 have hp0:=sG.seq hp
 nofun
 ·ac_rfl
 refine ⟨a,dx,[],rfl,ea,by decide,?_⟩
 rw[show zaq ("own_count" : Str) (V.ref c) ([]:List (Str × V))=([("own_count", V.ref c)]:List (Str × V)) from rfl]
 nofun
 refine ⟨a,dx,_,rfl,zh,ycy (ycv 1) (by decide),?_⟩
 rw[show zaq ("own_grace" : Str) (V.int g) ([("own_count", V.ref c)]:List (Str × V))=([("own_count", V.ref c),("own_grace", V.int g)]:List (Str × V)) from rfl]
 rw[zad]
 have e2:upd H a (.ins (cA K "Book") dx [("own_count", V.ref c),("own_grace", V.int g)]) a=some (.ins (cA K "Book") dx [("own_count", V.ref c),("own_grace", V.int g)]):=zh
 have s2:Same G (upd H a (.ins (cA K "Book") dx [("own_count", V.ref c),("own_grace", V.int g)])):=zJ sG na
 generalize upd H a (.ins (cA K "Book") dx [("own_count", V.ref c),("own_grace", V.int g)])=H2 at e2 s2 ⊢
 nofun
 refine ⟨p,xs,rfl,.inl (s2.seq hp),fun q3 n3=>?_⟩
 have t3:=ze n3 (.lst xs)
 have z3:=zq (.lst xs) n3
 have c3:=t3 _ _ e2
 nofun
 refine ⟨a,dx,_,rfl,c3,ycy (ycv 2) (by decide),?_⟩
 rw[show zaq ("own_entries" : Str) (V.ref q3) ([("own_count", V.ref c),("own_grace", V.int g)]:List (Str × V))=([("own_count", V.ref c),("own_grace", V.int g),("own_entries", V.ref q3)]:List (Str × V)) from rfl]
 have k3:Same (wo H2 a) (wo (upd (upd H2 q3 (.lst xs)) a (.ins (cA K "Book") dx [("own_count", V.ref c),("own_grace", V.int g),("own_entries", V.ref q3)])) a):=zcu t3
 have s3:Same G (upd (upd H2 q3 (.lst xs)) a (.ins (cA K "Book") dx [("own_count", V.ref c),("own_grace", V.int g),("own_entries", V.ref q3)])):=zJ (s2.trans t3) na
 have e3:(upd (upd H2 q3 (.lst xs)) a (.ins (cA K "Book") dx [("own_count", V.ref c),("own_grace", V.int g),("own_entries", V.ref q3)])) a=some (.ins (cA K "Book") dx [("own_count", V.ref c),("own_grace", V.int g),("own_entries", V.ref q3)]):=zh
 have L3:wo (upd (upd H2 q3 (.lst xs)) a (.ins (cA K "Book") dx [("own_count", V.ref c),("own_grace", V.int g),("own_entries", V.ref q3)])) a q3=some (.lst xs):=by rw[zcM];exact znb z3 c3
 generalize upd (upd H2 q3 (.lst xs)) a (.ins (cA K "Book") dx [("own_count", V.ref c),("own_grace", V.int g),("own_entries", V.ref q3)])=H3 at k3 s3 e3 L3 ⊢
 nofun
 refine ⟨p,xs,es, "out", rfl,s3.seq hp,hE.same s3,hl,.inl rfl,fun q4 G4 w4 r4 n4 t4 z4 R4 T4=>?_⟩
 have c4:=t4 _ _ e3
 nofun
 refine ⟨a,dx,_,rfl,c4,ycy (ycv 3) (by decide),?_⟩
 rw[show zaq ("out_sums" : Str) (V.ref q4) ([("own_count", V.ref c),("own_grace", V.int g),("own_entries", V.ref q3)]:List (Str × V))=([("own_count", V.ref c),("own_grace", V.int g),("own_entries", V.ref q3),("out_sums", V.ref q4)]:List (Str × V)) from rfl]
 have k4:Same (wo H3 a) (wo (upd G4 a (.ins (cA K "Book") dx [("own_count", V.ref c),("own_grace", V.int g),("own_entries", V.ref q3),("out_sums", V.ref q4)])) a):=zcu t4
 have s4:Same G (upd G4 a (.ins (cA K "Book") dx [("own_count", V.ref c),("own_grace", V.int g),("own_entries", V.ref q3),("out_sums", V.ref q4)])):=zJ (s3.trans t4) na
 have e4:(upd G4 a (.ins (cA K "Book") dx [("own_count", V.ref c),("own_grace", V.int g),("own_entries", V.ref q3),("out_sums", V.ref q4)])) a=some (.ins (cA K "Book") dx [("own_count", V.ref c),("own_grace", V.int g),("own_entries", V.ref q3),("out_sums", V.ref q4)]):=zh
 have L4:LP K (wo (upd G4 a (.ins (cA K "Book") dx [("own_count", V.ref c),("own_grace", V.int g),("own_entries", V.ref q3),("out_sums", V.ref q4)])) a) q4 r4:=by rw[zcM];exact LP.wo ⟨w4,z4,R4,(by have:=zjh T4;have:=pl "out" zj7;ac_rfl)⟩ c4
 generalize upd G4 a (.ins (cA K "Book") dx [("own_count", V.ref c),("own_grace", V.int g),("own_entries", V.ref q3),("out_sums", V.ref q4)])=H4 at k4 s4 e4 L4 ⊢
 nofun
 refine ⟨p,xs,es, "fee", rfl,s4.seq hp,hE.same s4,hl,.inr (.inl rfl),fun q5 G5 w5 r5 n5 t5 z5 R5 T5=>?_⟩
 have c5:=t5 _ _ e4
 nofun
 refine ⟨a,dx,_,rfl,c5,ycy (ycv 4) (by decide),?_⟩
 rw[show zaq ("fee_sums" : Str) (V.ref q5) ([("own_count", V.ref c),("own_grace", V.int g),("own_entries", V.ref q3),("out_sums", V.ref q4)]:List (Str × V))=([("own_count", V.ref c),("own_grace", V.int g),("own_entries", V.ref q3),("out_sums", V.ref q4),("fee_sums", V.ref q5)]:List (Str × V)) from rfl]
 have k5:Same (wo H4 a) (wo (upd G5 a (.ins (cA K "Book") dx [("own_count", V.ref c),("own_grace", V.int g),("own_entries", V.ref q3),("out_sums", V.ref q4),("fee_sums", V.ref q5)])) a):=zcu t5
 have s5:Same G (upd G5 a (.ins (cA K "Book") dx [("own_count", V.ref c),("own_grace", V.int g),("own_entries", V.ref q3),("out_sums", V.ref q4),("fee_sums", V.ref q5)])):=zJ (s4.trans t5) na
 have e5:(upd G5 a (.ins (cA K "Book") dx [("own_count", V.ref c),("own_grace", V.int g),("own_entries", V.ref q3),("out_sums", V.ref q4),("fee_sums", V.ref q5)])) a=some (.ins (cA K "Book") dx [("own_count", V.ref c),("own_grace", V.int g),("own_entries", V.ref q3),("out_sums", V.ref q4),("fee_sums", V.ref q5)]):=zh
 have L5:LP K (wo (upd G5 a (.ins (cA K "Book") dx [("own_count", V.ref c),("own_grace", V.int g),("own_entries", V.ref q3),("out_sums", V.ref q4),("fee_sums", V.ref q5)])) a) q5 r5:=by rw[zcM];exact LP.wo ⟨w5,z5,R5,(by have:=zjh T5;have:=pl "fee" znr;ac_rfl)⟩ c5
 generalize upd G5 a (.ins (cA K "Book") dx [("own_count", V.ref c),("own_grace", V.int g),("own_entries", V.ref q3),("out_sums", V.ref q4),("fee_sums", V.ref q5)])=H5 at k5 s5 e5 L5 ⊢
 nofun
 refine ⟨p,xs,es, "pay", rfl,s5.seq hp,hE.same s5,hl,.inr (.inr (.inl rfl)),fun q6 G6 w6 r6 n6 t6 z6 R6 T6=>?_⟩
 have c6:=t6 _ _ e5
 nofun
 refine ⟨a,dx,_,rfl,c6,ycy (ycv 5) (by decide),?_⟩
 rw[show zaq ("pay_sums" : Str) (V.ref q6) ([("own_count", V.ref c),("own_grace", V.int g),("own_entries", V.ref q3),("out_sums", V.ref q4),("fee_sums", V.ref q5)]:List (Str × V))=([("own_count", V.ref c),("own_grace", V.int g),("own_entries", V.ref q3),("out_sums", V.ref q4),("fee_sums", V.ref q5),("pay_sums", V.ref q6)]:List (Str × V)) from rfl]
 have k6:Same (wo H5 a) (wo (upd G6 a (.ins (cA K "Book") dx [("own_count", V.ref c),("own_grace", V.int g),("own_entries", V.ref q3),("out_sums", V.ref q4),("fee_sums", V.ref q5),("pay_sums", V.ref q6)])) a):=zcu t6
 have s6:Same G (upd G6 a (.ins (cA K "Book") dx [("own_count", V.ref c),("own_grace", V.int g),("own_entries", V.ref q3),("out_sums", V.ref q4),("fee_sums", V.ref q5),("pay_sums", V.ref q6)])):=zJ (s5.trans t6) na
 have e6:(upd G6 a (.ins (cA K "Book") dx [("own_count", V.ref c),("own_grace", V.int g),("own_entries", V.ref q3),("out_sums", V.ref q4),("fee_sums", V.ref q5),("pay_sums", V.ref q6)])) a=some (.ins (cA K "Book") dx [("own_count", V.ref c),("own_grace", V.int g),("own_entries", V.ref q3),("out_sums", V.ref q4),("fee_sums", V.ref q5),("pay_sums", V.ref q6)]):=zh
 have L6:LP K (wo (upd G6 a (.ins (cA K "Book") dx [("own_count", V.ref c),("own_grace", V.int g),("own_entries", V.ref q3),("out_sums", V.ref q4),("fee_sums", V.ref q5),("pay_sums", V.ref q6)])) a) q6 r6:=by rw[zcM];exact LP.wo ⟨w6,z6,R6,(by have:=zjh T6;have:=pl "pay" ztg;ac_rfl)⟩ c6
 generalize upd G6 a (.ins (cA K "Book") dx [("own_count", V.ref c),("own_grace", V.int g),("own_entries", V.ref q3),("out_sums", V.ref q4),("fee_sums", V.ref q5),("pay_sums", V.ref q6)])=H6 at k6 s6 e6 L6 ⊢
 nofun
 refine ⟨p,xs,es, "turn", rfl,s6.seq hp,hE.same s6,el,hl.td,fun q7 G7 r7 n7 t7 z7 T7=>?_⟩
 have c7:=t7 _ _ e6
 nofun
 refine ⟨a,dx,_,rfl,c7,ycy (ycv 6) (by decide),?_⟩
 rw[show zaq ("turn_days" : Str) (V.ref q7) ([("own_count", V.ref c),("own_grace", V.int g),("own_entries", V.ref q3),("out_sums", V.ref q4),("fee_sums", V.ref q5),("pay_sums", V.ref q6)]:List (Str × V))=([("own_count", V.ref c),("own_grace", V.int g),("own_entries", V.ref q3),("out_sums", V.ref q4),("fee_sums", V.ref q5),("pay_sums", V.ref q6),("turn_days", V.ref q7)]:List (Str × V)) from rfl]
 have k7:Same (wo H6 a) (wo (upd G7 a (.ins (cA K "Book") dx [("own_count", V.ref c),("own_grace", V.int g),("own_entries", V.ref q3),("out_sums", V.ref q4),("fee_sums", V.ref q5),("pay_sums", V.ref q6),("turn_days", V.ref q7)])) a):=zcu t7
 have s7:Same G (upd G7 a (.ins (cA K "Book") dx [("own_count", V.ref c),("own_grace", V.int g),("own_entries", V.ref q3),("out_sums", V.ref q4),("fee_sums", V.ref q5),("pay_sums", V.ref q6),("turn_days", V.ref q7)])):=zJ (s6.trans t7) na
 have e7:(upd G7 a (.ins (cA K "Book") dx [("own_count", V.ref c),("own_grace", V.int g),("own_entries", V.ref q3),("out_sums", V.ref q4),("fee_sums", V.ref q5),("pay_sums", V.ref q6),("turn_days", V.ref q7)])) a=some (.ins (cA K "Book") dx [("own_count", V.ref c),("own_grace", V.int g),("own_entries", V.ref q3),("out_sums", V.ref q4),("fee_sums", V.ref q5),("pay_sums", V.ref q6),("turn_days", V.ref q7)]):=zh
 have L7:wo (upd G7 a (.ins (cA K "Book") dx [("own_count", V.ref c),("own_grace", V.int g),("own_entries", V.ref q3),("out_sums", V.ref q4),("fee_sums", V.ref q5),("pay_sums", V.ref q6),("turn_days", V.ref q7)])) a q7=some (.lst (r7.map V.int)):=by rw[zcM];exact znb z7 c7
 generalize upd G7 a (.ins (cA K "Book") dx [("own_count", V.ref c),("own_grace", V.int g),("own_entries", V.ref q3),("out_sums", V.ref q4),("fee_sums", V.ref q5),("pay_sums", V.ref q6),("turn_days", V.ref q7)])=H7 at k7 s7 e7 L7 ⊢
 nofun
 refine ⟨p,xs,es, "rate", rfl,s7.seq hp,hE.same s7,hl,.inl rfl,e0,fun q8 G8 w8 r8 n8 t8 z8 R8 T8 T8' y8=>?_⟩
 have c8:=t8 _ _ e7
 nofun
 refine ⟨a,dx,_,rfl,c8,ycy (ycv 7) (by decide),?_⟩
 rw[show zaq ("rate_rows" : Str) (V.ref q8) ([("own_count", V.ref c),("own_grace", V.int g),("own_entries", V.ref q3),("out_sums", V.ref q4),("fee_sums", V.ref q5),("pay_sums", V.ref q6),("turn_days", V.ref q7)]:List (Str × V))=([("own_count", V.ref c),("own_grace", V.int g),("own_entries", V.ref q3),("out_sums", V.ref q4),("fee_sums", V.ref q5),("pay_sums", V.ref q6),("turn_days", V.ref q7),("rate_rows", V.ref q8)]:List (Str × V)) from rfl]
 have k8:Same (wo H7 a) (wo (upd G8 a (.ins (cA K "Book") dx [("own_count", V.ref c),("own_grace", V.int g),("own_entries", V.ref q3),("out_sums", V.ref q4),("fee_sums", V.ref q5),("pay_sums", V.ref q6),("turn_days", V.ref q7),("rate_rows", V.ref q8)])) a):=zcu t8
 have s8:Same G (upd G8 a (.ins (cA K "Book") dx [("own_count", V.ref c),("own_grace", V.int g),("own_entries", V.ref q3),("out_sums", V.ref q4),("fee_sums", V.ref q5),("pay_sums", V.ref q6),("turn_days", V.ref q7),("rate_rows", V.ref q8)])):=zJ (s7.trans t8) na
 have e8:(upd G8 a (.ins (cA K "Book") dx [("own_count", V.ref c),("own_grace", V.int g),("own_entries", V.ref q3),("out_sums", V.ref q4),("fee_sums", V.ref q5),("pay_sums", V.ref q6),("turn_days", V.ref q7),("rate_rows", V.ref q8)])) a=some (.ins (cA K "Book") dx [("own_count", V.ref c),("own_grace", V.int g),("own_entries", V.ref q3),("out_sums", V.ref q4),("fee_sums", V.ref q5),("pay_sums", V.ref q6),("turn_days", V.ref q7),("rate_rows", V.ref q8)]):=zh
 have L8:LP K (wo (upd G8 a (.ins (cA K "Book") dx [("own_count", V.ref c),("own_grace", V.int g),("own_entries", V.ref q3),("out_sums", V.ref q4),("fee_sums", V.ref q5),("pay_sums", V.ref q6),("turn_days", V.ref q7),("rate_rows", V.ref q8)])) a) q8 r8:=by rw[zcM];exact LP.wo ⟨w8,z8,R8,(by ac_rfl)⟩ c8
 generalize upd G8 a (.ins (cA K "Book") dx [("own_count", V.ref c),("own_grace", V.int g),("own_entries", V.ref q3),("out_sums", V.ref q4),("fee_sums", V.ref q5),("pay_sums", V.ref q6),("turn_days", V.ref q7),("rate_rows", V.ref q8)])=H8 at k8 s8 e8 L8 ⊢
 nofun
 refine ⟨p,xs,es, "late", rfl,s8.seq hp,hE.same s8,hl,.inr rfl,e0,fun q9 G9 w9 r9 n9 t9 z9 R9 T9 T9' y9=>?_⟩
 have c9:=t9 _ _ e8
 nofun
 refine ⟨a,dx,_,rfl,c9,ycy (ycv 8) (by decide),?_⟩
 rw[show zaq ("late_rows" : Str) (V.ref q9) ([("own_count", V.ref c),("own_grace", V.int g),("own_entries", V.ref q3),("out_sums", V.ref q4),("fee_sums", V.ref q5),("pay_sums", V.ref q6),("turn_days", V.ref q7),("rate_rows", V.ref q8)]:List (Str × V))=([("own_count", V.ref c),("own_grace", V.int g),("own_entries", V.ref q3),("out_sums", V.ref q4),("fee_sums", V.ref q5),("pay_sums", V.ref q6),("turn_days", V.ref q7),("rate_rows", V.ref q8),("late_rows", V.ref q9)]:List (Str × V)) from rfl]
 have k9:Same (wo H8 a) (wo (upd G9 a (.ins (cA K "Book") dx [("own_count", V.ref c),("own_grace", V.int g),("own_entries", V.ref q3),("out_sums", V.ref q4),("fee_sums", V.ref q5),("pay_sums", V.ref q6),("turn_days", V.ref q7),("rate_rows", V.ref q8),("late_rows", V.ref q9)])) a):=zcu t9
 have s9:Same G (upd G9 a (.ins (cA K "Book") dx [("own_count", V.ref c),("own_grace", V.int g),("own_entries", V.ref q3),("out_sums", V.ref q4),("fee_sums", V.ref q5),("pay_sums", V.ref q6),("turn_days", V.ref q7),("rate_rows", V.ref q8),("late_rows", V.ref q9)])):=zJ (s8.trans t9) na
 have e9:(upd G9 a (.ins (cA K "Book") dx [("own_count", V.ref c),("own_grace", V.int g),("own_entries", V.ref q3),("out_sums", V.ref q4),("fee_sums", V.ref q5),("pay_sums", V.ref q6),("turn_days", V.ref q7),("rate_rows", V.ref q8),("late_rows", V.ref q9)])) a=some (.ins (cA K "Book") dx [("own_count", V.ref c),("own_grace", V.int g),("own_entries", V.ref q3),("out_sums", V.ref q4),("fee_sums", V.ref q5),("pay_sums", V.ref q6),("turn_days", V.ref q7),("rate_rows", V.ref q8),("late_rows", V.ref q9)]):=zh
 have L9:LP K (wo (upd G9 a (.ins (cA K "Book") dx [("own_count", V.ref c),("own_grace", V.int g),("own_entries", V.ref q3),("out_sums", V.ref q4),("fee_sums", V.ref q5),("pay_sums", V.ref q6),("turn_days", V.ref q7),("rate_rows", V.ref q8),("late_rows", V.ref q9)])) a) q9 r9:=by rw[zcM];exact LP.wo ⟨w9,z9,R9,(by ac_rfl)⟩ c9
 generalize upd G9 a (.ins (cA K "Book") dx [("own_count", V.ref c),("own_grace", V.int g),("own_entries", V.ref q3),("out_sums", V.ref q4),("fee_sums", V.ref q5),("pay_sums", V.ref q6),("turn_days", V.ref q7),("rate_rows", V.ref q8),("late_rows", V.ref q9)])=H9 at k9 s9 e9 L9 ⊢
 nofun
 refine ⟨p,xs,es,rfl,s9.seq hp,hE.same s9,hl,fun q10 G10 w10 r10 n10 t10 z10 R10 J10 V10 y10=>?_⟩
 have c10:=t10 _ _ e9
 nofun
 refine ⟨a,dx,_,rfl,c10,ycy (ycv 9) (by decide),?_⟩
 rw[show zaq ("spans" : Str) (V.ref q10) ([("own_count", V.ref c),("own_grace", V.int g),("own_entries", V.ref q3),("out_sums", V.ref q4),("fee_sums", V.ref q5),("pay_sums", V.ref q6),("turn_days", V.ref q7),("rate_rows", V.ref q8),("late_rows", V.ref q9)]:List (Str × V))=([("own_count", V.ref c),("own_grace", V.int g),("own_entries", V.ref q3),("out_sums", V.ref q4),("fee_sums", V.ref q5),("pay_sums", V.ref q6),("turn_days", V.ref q7),("rate_rows", V.ref q8),("late_rows", V.ref q9),("spans", V.ref q10)]:List (Str × V)) from rfl]
 have k10:Same (wo H9 a) (wo (upd G10 a (.ins (cA K "Book") dx [("own_count", V.ref c),("own_grace", V.int g),("own_entries", V.ref q3),("out_sums", V.ref q4),("fee_sums", V.ref q5),("pay_sums", V.ref q6),("turn_days", V.ref q7),("rate_rows", V.ref q8),("late_rows", V.ref q9),("spans", V.ref q10)])) a):=zcu t10
 have s10:Same G (upd G10 a (.ins (cA K "Book") dx [("own_count", V.ref c),("own_grace", V.int g),("own_entries", V.ref q3),("out_sums", V.ref q4),("fee_sums", V.ref q5),("pay_sums", V.ref q6),("turn_days", V.ref q7),("rate_rows", V.ref q8),("late_rows", V.ref q9),("spans", V.ref q10)])):=zJ (s9.trans t10) na
 have e10:(upd G10 a (.ins (cA K "Book") dx [("own_count", V.ref c),("own_grace", V.int g),("own_entries", V.ref q3),("out_sums", V.ref q4),("fee_sums", V.ref q5),("pay_sums", V.ref q6),("turn_days", V.ref q7),("rate_rows", V.ref q8),("late_rows", V.ref q9),("spans", V.ref q10)])) a=some (.ins (cA K "Book") dx [("own_count", V.ref c),("own_grace", V.int g),("own_entries", V.ref q3),("out_sums", V.ref q4),("fee_sums", V.ref q5),("pay_sums", V.ref q6),("turn_days", V.ref q7),("rate_rows", V.ref q8),("late_rows", V.ref q9),("spans", V.ref q10)]):=zh
 have L10:LP K (wo (upd G10 a (.ins (cA K "Book") dx [("own_count", V.ref c),("own_grace", V.int g),("own_entries", V.ref q3),("out_sums", V.ref q4),("fee_sums", V.ref q5),("pay_sums", V.ref q6),("turn_days", V.ref q7),("rate_rows", V.ref q8),("late_rows", V.ref q9),("spans", V.ref q10)])) a) q10 r10:=by rw[zcM];exact LP.wo ⟨w10,z10,R10,(by ac_rfl)⟩ c10
 generalize upd G10 a (.ins (cA K "Book") dx [("own_count", V.ref c),("own_grace", V.int g),("own_entries", V.ref q3),("out_sums", V.ref q4),("fee_sums", V.ref q5),("pay_sums", V.ref q6),("turn_days", V.ref q7),("rate_rows", V.ref q8),("late_rows", V.ref q9),("spans", V.ref q10)])=H10 at k10 s10 e10 L10 ⊢
 nofun
 refine ⟨a,dx,_,_,rfl,e10,rfl,?_⟩
 nofun
 obtain ⟨w10',z10',R10',_⟩:=L10.same zb3
 refine ⟨p,q10,xs,w10',es,r10,rfl,s10.seq hp,hE.same s10,hl,⟨SqL.of z10',R10',J10⟩,fun q11 G11 w11 r11 n11 t11 z11 R11 T11=>?_⟩
 rw[zs2 V10] at T11
 have c11:=t11 _ _ e10
 nofun
 refine ⟨a,dx,_,rfl,c11,ycy (ycv 10) (by decide),?_⟩
 rw[show zaq ("due_sums" : Str) (V.ref q11) ([("own_count", V.ref c),("own_grace", V.int g),("own_entries", V.ref q3),("out_sums", V.ref q4),("fee_sums", V.ref q5),("pay_sums", V.ref q6),("turn_days", V.ref q7),("rate_rows", V.ref q8),("late_rows", V.ref q9),("spans", V.ref q10)]:List (Str × V))=([("own_count", V.ref c),("own_grace", V.int g),("own_entries", V.ref q3),("out_sums", V.ref q4),("fee_sums", V.ref q5),("pay_sums", V.ref q6),("turn_days", V.ref q7),("rate_rows", V.ref q8),("late_rows", V.ref q9),("spans", V.ref q10),("due_sums", V.ref q11)]:List (Str × V)) from rfl]
 have k11:Same (wo H10 a) (wo (upd G11 a (.ins (cA K "Book") dx [("own_count", V.ref c),("own_grace", V.int g),("own_entries", V.ref q3),("out_sums", V.ref q4),("fee_sums", V.ref q5),("pay_sums", V.ref q6),("turn_days", V.ref q7),("rate_rows", V.ref q8),("late_rows", V.ref q9),("spans", V.ref q10),("due_sums", V.ref q11)])) a):=zcu t11
 have s11:Same G (upd G11 a (.ins (cA K "Book") dx [("own_count", V.ref c),("own_grace", V.int g),("own_entries", V.ref q3),("out_sums", V.ref q4),("fee_sums", V.ref q5),("pay_sums", V.ref q6),("turn_days", V.ref q7),("rate_rows", V.ref q8),("late_rows", V.ref q9),("spans", V.ref q10),("due_sums", V.ref q11)])):=zJ (s10.trans t11) na
 have e11:(upd G11 a (.ins (cA K "Book") dx [("own_count", V.ref c),("own_grace", V.int g),("own_entries", V.ref q3),("out_sums", V.ref q4),("fee_sums", V.ref q5),("pay_sums", V.ref q6),("turn_days", V.ref q7),("rate_rows", V.ref q8),("late_rows", V.ref q9),("spans", V.ref q10),("due_sums", V.ref q11)])) a=some (.ins (cA K "Book") dx [("own_count", V.ref c),("own_grace", V.int g),("own_entries", V.ref q3),("out_sums", V.ref q4),("fee_sums", V.ref q5),("pay_sums", V.ref q6),("turn_days", V.ref q7),("rate_rows", V.ref q8),("late_rows", V.ref q9),("spans", V.ref q10),("due_sums", V.ref q11)]):=zh
 have L11:LP K (wo (upd G11 a (.ins (cA K "Book") dx [("own_count", V.ref c),("own_grace", V.int g),("own_entries", V.ref q3),("out_sums", V.ref q4),("fee_sums", V.ref q5),("pay_sums", V.ref q6),("turn_days", V.ref q7),("rate_rows", V.ref q8),("late_rows", V.ref q9),("spans", V.ref q10),("due_sums", V.ref q11)])) a) q11 r11:=by rw[zcM];exact LP.wo ⟨w11,z11,R11,(by have:=zjh T11;have:(mvp (mvd (prs "still" es)) (prs "due" es)).length=(prs "due" es).length:=yab ..;have:=pl "due" zmK;ac_rfl)⟩ c11
 generalize upd G11 a (.ins (cA K "Book") dx [("own_count", V.ref c),("own_grace", V.int g),("own_entries", V.ref q3),("out_sums", V.ref q4),("fee_sums", V.ref q5),("pay_sums", V.ref q6),("turn_days", V.ref q7),("rate_rows", V.ref q8),("late_rows", V.ref q9),("spans", V.ref q10),("due_sums", V.ref q11)])=H11 at k11 s11 e11 L11 ⊢
 nofun
 refine h ⟨dx,c,q3,q4,q5,q6,q7,q8,q9,q10,q11⟩ ⟨kd,g,es,r4,r5,r6,r7,r8,r9,r10,r11⟩ H11 s11 ⟨e11,hc.same s11,⟨xs,(k4.trans (k5.trans (k6.trans (k7.trans (k8.trans (k9.trans (k10.trans (k11.trans zb3)))))))) _ _ L3,hE.same s11⟩,L4.same (k5.trans (k6.trans (k7.trans (k8.trans (k9.trans (k10.trans (k11.trans zb3))))))),L5.same (k6.trans (k7.trans (k8.trans (k9.trans (k10.trans (k11.trans zb3)))))),L6.same (k7.trans (k8.trans (k9.trans (k10.trans (k11.trans zb3))))),(k8.trans (k9.trans (k10.trans (k11.trans zb3)))) _ _ L7,L8.same (k9.trans (k10.trans (k11.trans zb3))),L9.same (k10.trans (k11.trans zb3)),L10.same (k11.trans zb3),L11.same zb3⟩ ⟨T4,T5,T6,T7,⟨T8,T8'⟩,⟨T9,T9'⟩,⟨J10,V10⟩,T11⟩ rfl rfl rfl
theorem zrk {ds:List Int} (D:zcr ds):zbp (ds.map V.int)=true:=by
 have l1:=D.l1
 have l2:=D.l2
 unfold zbp
 rw[decide_eq_true (show 1<=(ds.map V.int).length/\(ds.map V.int).length<=360 by rw[yab];exact ⟨l1,l2⟩),Bool.true_and,Bool.and_eq_true]
 refine ⟨ycn.mpr fun v hv=>?_,ycn.mpr fun v hv=>?_⟩
 ·obtain ⟨y,hy,rfl⟩:=yah.mp hv
  obtain ⟨d,hd,rfl⟩:=yah.mp hy
  obtain ⟨a,b⟩:=D.in_ d hd
  simp[dyB,a,b]
 ·obtain ⟨i,hi,rfl⟩:=yah.mp hv
  rw[yct,yab] at hi
  have e:∀ j,(hj:j<ds.length)->iv ((ds.map V.int).getD j .non)=ds[j]:=fun j hj=>by
   rw[yac,yaf,yaa hj];rfl
  have:=yar.mp D.up i (i+1) (by omega) (by omega) (by omega)
  show rise (ds.map V.int) i=true
  unfold rise
  rw[e i (by omega),e (i+1) (by omega)]
  exact decide_eq_true this
theorem zpk {K:W.Frag} {H:Hp} (ds:List Int):∀ v∈ds.map V.int,∃ T,zam K H v T:=fun v hv=>by
 obtain ⟨d,_,rfl⟩:=yah.mp hv
 exact zfI d
def zb0 (K:W.Frag):Sp:=fun vs H Q E=>L2.Ee4 fun a x A (b:BkT)=>L2.Aa4 (vs=[.ref a,x]) (zW K H a A b) (b.es.length<=500) (((zdL K H x/\E (.ref (cA K "NoDays")) none H)\/∃ p ds,x=.ref p/\H p=some (.lst (ds.map V.int))/\zcr ds/\(500<b.es.length+ds.length->E (.ref (cA K "TooMany")) none H)/\(b.es.length+ds.length<=500->Q .non H)))
theorem zlP:zi qab qab (zg zdP):=by walk_at "sp"
theorem znn (S:Src K mg "check_days" zdP qab) (T:Txt K mg) (zhy:Def P w K mg base 3 "are_days" qba (zjt K)) (zdS:zu P w K mg base 1 (cA K "Book") "entries" qaa (zf9 K)):zaR P w K mg base 4 "check_days" qab (zb0 K):=by
 refine S.zpv zlP (fun vs H Q E h=>?_) (fun f cdv A outer s H vs Q E hr h=>?_)
 ·obtain ⟨a,x,A,b,rfl,B,el,h⟩:=h
  rfl
 obtain ⟨a,x,A,b,rfl,B,el,h⟩:=h
 refine ⟨_,(zc (zaa (zeG (zdt (zt zhy hr (za (pv 1) zb))))
  (zf (zjE (E:=fun C d H'=>Same H H'/\E C d H) T.zcn T.x_NoDays (fun _ _ _ _ _ _ _ I hx hE=>zkX I hx hE) (za zaf zb)))
   zY)
  (zf (zaa (zz zgp (zk zQ (zy zZ rfl T.zbP PySem.boot_len (za (zC zdS T.zw hr (pv 0)) zb)) (zy zZ rfl T.zbP PySem.boot_len (za (pv 1) zb))) (zd0 T.zcC) (nomark _))
  (zf (zjE (E:=fun C d H'=>Same H H'/\E C d H) T.zbI T.x_TooMany (fun _ _ _ _ _ _ _ I hx hE=>zkX I hx hE) (za zaf zb)))
   zY))),?_⟩
 have sz:=sizeLine_eq
 rcases h with ⟨hb,hE⟩ | ⟨p,ds,rfl,hp,D,hE,h⟩
 ·nofun
  rcases hb with ⟨Tk,hk,nT⟩ | ⟨p,xs,rfl,hp,l3,hk,ef⟩
  ·refine .inl ⟨Tk,hk,nT,?_⟩
   nofun
   first | exact ⟨Same.refl _,hE⟩ | exact hE
  ·refine .inr ⟨p,xs,rfl,hp,l3,hk,?_⟩
   rw[ef]
   nofun
   first | exact ⟨Same.refl _,hE⟩ | exact hE
 have l2:=D.l2
 have lm:(ds.map V.int).length=ds.length:=yab ..
 nofun
 refine .inr ⟨p,_,rfl,hp,by ac_rfl,zpk ds,?_⟩
 rw[zrk D]
 nofun
 refine ⟨a,A.dx,_,rfl,B.ins,rfl,a,A,b,rfl,B,fun q xs nq hE1=>?_⟩
 have xl:=hE1.length
 have s1:=ze nq (.lst xs)
 have e1:=zq (.lst xs) nq
 nofun
 refine ⟨q,_,rfl,.inl (SqL.of e1),?_⟩
 nofun
 refine ⟨p,_,rfl,.inl (SqL.of (s1 _ _ hp)),?_⟩
 nofun
 ·first | exact ⟨s1,hE (by ac_rfl)⟩ | exact hE (by ac_rfl)
 ·first | exact ⟨s1,h (by ac_rfl)⟩ | exact h (by ac_rfl)
def zkC (K:W.Frag):Sp:=fun vs H Q _=>∃ (p:Addr) (xs:List V) (l:List (Int × Int)),vs=[.ref p]/\H p=some (.lst xs)/\zx K H xs l/\l.length<=61/\∀ q ys H',H q=none->Same H H'->H' q=some (.lst ys)->EL K H' ys (zjO l)->Q (.ref q) H'
theorem zsh {K:W.Frag} {H:Hp} {ys:List V} {gs:List (Int × Int)} (h:LL (fun v (s:Int × Int)=>∃ a dx,v=.ref a/\zfa K H a dx .pay s.1 s.2) ys gs):EL K H ys (gs.map fun s=>(.pay,s.1,s.2)):=by
 induction h with
 | nil=>exact .nil
 | cons h _ ih=>exact .cons h ih
theorem zo8:zi qam qam (zg zgb):=by walk_at "sp"
theorem zqh (S:Src K mg "as_pays" zgb qam) (T:Txt K mg) (zcF:zu P w K mg base 2 (cA K "Pay") "__init__" qas (zb7 K)):Def P w K mg base 4 "as_pays" qam (zkC K):=by
 exists S.ok,zo8,0
 all_goals obtain ⟨p,xs,l,rfl,hp,hR,hl,h⟩:=h
 ·rfl
 refine ⟨_,(zf (zj (zdb (ix:=[]) ⟨rfl,by decide +kernel,rfl,by decide +kernel,rfl,(show (["row"]:List Str).Nodup by decide +kernel),by walk_at "cap", by walk_at "sub", by walk_at "has"⟩ (zV (pv 0)) (fun b=>(zz zgp (zr (zbz K) (pv 0) zd (fun _ _=>rfl)) zd (nomark _))) (fun b=>(zbL T.zkz zcF hr T.zl9 (za (zr (zbz K) (pv 0) zd (fun _ _=>rfl)) (za (zr (zbz K) (pv 0) zd (fun _ _=>rfl)) zb))))))),?_⟩
 have sz:=sizeLine_eq
 have xl:=hR.length
 nofun
 refine ⟨⟨_,SqL.of hp⟩,fun q nq=>?_⟩
 refine zdX (zaz (SqL.of hp)) nq (by ac_rfl) l xl.symm (fun s=>decide (s.2 > 0)) (fun H' v s=>∃ a dx,v=.ref a/\zfa K H' a dx .pay s.1 s.2) (fun v e H1 H2 s ⟨t,dx,e1,e2⟩=>⟨t,dx,e1,s _ _ e2⟩) (fun v e H1 ys zs hL ⟨t,dx,e1,e2⟩=>⟨t,dx,e1,by rw[zfa,zp (zaw e2 hL (by intro z;cases z))];exact e2⟩) ?_ ?_ ?_
 ·rintro i x s H' Q' hx hs sH hq
  obtain ⟨t,s',rfl,hs',ht⟩:=(hR.same sH).get hx
  obtain rfl:s'=s:=Option.some.inj (hs'.symm.trans hs)
  nofun
  exact hq
 ·rintro i x s H' Q' hx hs fs sH hq
  obtain ⟨t,s',rfl,hs',ht⟩:=(hR.same sH).get hx
  obtain rfl:s'=s:=Option.some.inj (hs'.symm.trans hs)
  nofun
  intro a dx na nd ne
  refine ⟨a,_,dx,s'.1,s'.2,rfl,zh,T.clE .pay,T.zb6 .pay,T.zcz .pay,rfl,?_⟩
  rw[zad]
  exact hq _ _ ((ze nd _).trans (ze (by rw[zp ne.symm];exact na) _)) ⟨a,dx,rfl,zh⟩
 ·rintro ys H' sH eL hL
  exact h q ys H' nq sH eL (zsh hL)
def zdu (K:W.Frag):Sp:=fun vs H Q _=>L2.Ee6 fun a p A b ws (ds:List Int)=>L2.zrm (vs=[.ref a,.ref p]) (zW K H a A b) (AB b) (H p=some (.lst ws)) (R5 b H ws ds) (ds.Pairwise (·<·)) ((∀ d∈ds,0<=d/\d<=1000000)) ((∀ d z,z∈ds->d<z->DDay b d->d∈ds)) (ds.length<=1000) (∀ q x vs' H',H q=none->Same H H'->H' q=some (.lst vs')->DbL K (uB b) (zS b) x H H' vs' ds->Q (.ref q) H')
theorem zaD:zi ["book", "rows", "burden_rows", "debt", "told", "start", "deeds"] qaj (zg zcD):=by walk_at "sp"
theorem zlc (S:Src K mg "debts_behind" zcD qaj) (T:Txt K mg) (ziP:Def P w K mg base 4 "burdens" qah (zkm K)) (zb5:zu P w K mg base 1 (cA K "Debt") "__init__" qar (zfz K)) (zd9:∀ kd:Kd,zu P w K mg base 2 (cA K kd.cls) "unit" qaa (zgw kd K)) (za7:zu P w K mg base 1 (cA K "Book") "count" qaa (zeU K)) (zgD:zu P w K mg base 1 (cA K "Debt") "grow" qau (ziy K)) (zfV:Def P w K mg base 3 "charged_by" qbj (zh8 K)) (zaI:zu P w K mg base 1 (cA K "Debt") "principal" qaa (zcL K)) (zh0:Def P w K mg base 4 "do_deeds" qbb (zjx K)) (zgz:zu P w K mg base 3 (cA K "Debt") "copy" qaa (ziG K)):Def P w K mg base 5 "debts_behind" qaj (zdu K):=by
 exists S.ok,zaD,0
 all_goals obtain ⟨a,p,A,b,ws,ds,rfl,B,O,hp,hR,up,din,dmem,dl,h⟩:=h
 ·rfl
 refine ⟨_,(zc (zo (i:=2) zaD.nd rfl (by walk_at "lc") (zt ziP hr (za (pv 0) zb)))
  (zc (zo (i:=3) zaD.nd rfl (by walk_at "lc") (zbL T.zjc zb5 hr T.zki (za (ziN zd9 T.cls hr (zC za7 T.zw hr (pv 0))) zb)))
  (zc (zo (i:=4) zaD.nd rfl (by walk_at "lc") (zai zb))
  (zc (zo (i:=5) zaD.nd rfl (by walk_at "lc") zd)
  (zc (zch PassesOwn.never rfl (zV (pv 1)) (zay (i:=6) zaD.nd rfl (by walk_at "lc"))
  (zc (zK (zcb zgD T.zB hr (pv 3) (za (zt zfV hr (za (zC za7 T.zw hr (pv 0)) (za (pv 2) (za (zC zaI T.zB hr (pv 3)) (za (pv 5) (za (zr zP (pv 6) zd (fun _ _=>rfl)) zb)))))) zb)))
  (zc (zK (zt zh0 hr (za (pv 3) (za (pv 6) zb))))
  (zc (zK (zep PySem.F.plainAttrs_list PySem.F.slot_list_append PySem.F.type_list_append zbi (pv 4) (za (zC zgz T.zB hr (pv 3)) zb)))
  (zf (zo (i:=5) zaD.nd rfl (by walk_at "lc") (zr zP (pv 6) zd (fun _ _=>rfl))))))))
  (zf (zj (pv 4)))))))),?_⟩
 have sz:=sizeLine_eq
 have hu:0<uB b/\uB b<1152921504606846976:=⟨O.ok.hu,O.u1⟩
 have wl:=hR.length
 nofun
 first | refine ⟨a,A,b,rfl,B,O.ok.ok,fun pb xb tb H1 n1 s1 eb rb upb memb lb=>?_⟩ | refine ⟨B,O.ok.ok,fun pb xb tb H1 n1 s1 eb rb upb memb lb=>?_⟩
 have B1:=B.same s1
 nofun
 refine ⟨a,A.dx,_,rfl,B1.ins,rfl,a,A,b,rfl,B1,?_⟩
 nofun
 refine ⟨b.kd,A.c,rfl,B1.cnt,?_⟩
 nofun
 refine ⟨B1.cnt,?_⟩
 nofun
 intro x dx nx ndx nex
 refine ⟨x,dx,uB b,rfl,zh,rfl,?_⟩
 rw[zad]
 have s2:Same H1 (upd (upd H1 dx (.own x)) x (.ins (cA K "Debt") dx (zab (uB b) 0 0))):=(ze ndx _).trans (ze (by rw[zp nex.symm];exact nx) _)
 have eD:Deb K (upd (upd H1 dx (.own x)) x (.ins (cA K "Debt") dx (zab (uB b) 0 0))) x dx (uB b) 0 0:=zh
 generalize upd (upd H1 dx (.own x)) x (.ins (cA K "Debt") dx (zab (uB b) 0 0))=H2 at s2 eD ⊢
 nofun
 intro q nq
 have s3:=ze nq (.lst [])
 have eq:=zq (.lst []) nq
 have eD3:Deb K _ x dx (uB b) 0 0:=eD.same s3
 have s13:=s2.trans s3
 have nq1:=zD s2 nq
 have nxq:x≠q:=zN eD nq
 generalize upd H2 q (.lst [])=H3 at s3 eq eD3 s13 ⊢
 have nqH:=zD s1 nq1
 have nxH:=zD s1 nx
 have key:∀ (i:Nat) (d m n st:Int),ds[i]?=some d->((i=0/\m=0/\n=0/\st=0)\/(∃ e,0<i/\ds[i-1]?=some e/\m=(zS b e).1/\n=(zS b e).2/\st=e))->stB (Uk b.kd) (uB b) b d.toNat=(m,n+csum (Uk b.kd) (zaj b m) st d)/\0<=st/\st<=1000000:=fun i d m n st hd hc=>by
  obtain ⟨d0,d1⟩:=din d (yai hd)
  rcases hc with ⟨rfl,rfl,rfl,rfl⟩ | ⟨e,i0,he,e1,e2,e3⟩
  ·refine ⟨first O.ok d0 fun k k0 k1=>zqH O.is fun hk=>?_,yds _,by decide⟩
   obtain ⟨j,hj⟩:=ybe.mp (dmem k d (yai hd) k1 hk)
   rcases Nat.eq_zero_or_pos j with z | z
   ·subst z;rw[hd] at hj;have:=Option.some.inj hj;ac_rfl
   ·have:=zcx up hd hj z;ac_rfl
  ·obtain ⟨f0,f1⟩:=din e (yai he)
   rw[e1,e2,e3]
   refine ⟨next O.ok f0 (zcx up he hd (by ac_rfl)) fun k k0 k1=>zqH O.is fun hk=>?_,f0,f1⟩
   obtain ⟨j,hj⟩:=ybe.mp (dmem k d (yai hd) k1 hk)
   rcases ydd j i with z | z | z
   ·by_cases y:j=i-1
    ·subst y;rw[he] at hj;have:=Option.some.inj hj;ac_rfl
    ·have:=zcx up hj he (by ac_rfl);ac_rfl
   ·subst z;rw[hd] at hj;have:=Option.some.inj hj;ac_rfl
   ·have:=zcx up hd hj z;ac_rfl
 nofun
 refine ⟨⟨_,SqL.of (s13 _ _ (s1 _ _ hp))⟩,zcY (xs:=ws) (fun i σ H'=>L2.Ee5 fun (m n st:Int) (vs':List V) (z1:Option V)=>L2.Aa3 ((Same H1 H'/\Deb K H' x dx (uB b) m n/\H' q=some (.lst vs')/\DbL K (uB b) (zS b) x H H' vs' (ds.take i))) (((i=0/\m=0/\n=0/\st=0)\/(∃ e,0<i/\ds[i-1]?=some e/\m=(zS b e).1/\n=(zS b e).2/\st=e))) (σ=[some (.ref a),some (.ref p),some (.ref pb),some (.ref x),some (.ref q),some (.int st),z1]))
  ⟨0,0,0,[],_,⟨s13,eD3,eq,.nil⟩,.inl ⟨rfl,rfl,rfl,rfl⟩,rfl⟩ ?_ ?_ ?_⟩
 ·rintro i σ H' _ ⟨m,n,st,vs',z1,⟨sH,_⟩,_⟩
  exact SqL.of (sH _ _ (s1 _ _ hp))
 ·rintro i v σ H' hv ⟨m,n,st,vs',z1,⟨sH,eD',eq',hL⟩,cur,rfl⟩
  have s0H:=s1.trans sH
  obtain ⟨d,hd,t,rfl,ht0⟩:=hR.get hv
  have ht:=s0H _ _ ht0
  have il:i<ds.length:=(yad.mp hd).1
  have vl:=hL.length
  rw[yat] at vl
  obtain ⟨kk,st0,st1⟩:=key i d m n st hd cur
  obtain ⟨d0,d1⟩:=din d (yai hd)
  have B':=B.same s0H
  have tk:ds.take (i+1)=ds.take i++[d]:=by rw[yaz,hd];rfl
  nofun
  refine ⟨x,dx,_,rfl,eD',rfl,?_⟩
  nofun
  refine ⟨a,A.dx,_,rfl,B'.ins,rfl,a,A,b,rfl,B',?_⟩
  nofun
  refine ⟨x,dx,_,rfl,eD',rfl,x,dx,uB b,m,n,rfl,eD',?_⟩
  nofun
  refine ⟨A.c,pb,b.kd,xb,b,tb,m,st,d,rfl,B'.cnt,SqL.of (sH _ _ eb),rb.same sH,upb,memb,O.ok.ok,⟨st0,st1,d1⟩,?_⟩
  nofun
  refine ⟨x,dx,uB b,m,n,_,rfl,eD',?_⟩
  have e1:Deb K (upd H' x (.ins (cA K "Debt") dx (zab (uB b) m (n+csum (Uk b.kd) (zaj b m) st d)))) x dx (uB b) m (n+csum (Uk b.kd) (zaj b m) st d):=zh
  have t1:=zhW (K:=K) (o:=.ins (cA K "Debt") dx (zab (uB b) m (n+csum (Uk b.kd) (zaj b m) st d))) eD' ht
  have acc:doD (uB b) (ddo b d) (m,n+csum (Uk b.kd) (zaj b m) st d)=zS b d:=by
   show _=doD (uB b) (ddo b (d.toNat:Nat)) (stB (Uk b.kd) (uB b) b d.toNat)
   rw[kk,show ((d.toNat:Nat):Int)=d by ac_rfl]
  nofun
  refine ⟨x,dx,t,uB b,m,_,d,ddo b d,rfl,e1,hu,t1,?_⟩
  rw[zad,acc]
  have e2:Deb K (upd H' x (.ins (cA K "Debt") dx (zab (uB b) (zS b d).1 (zS b d).2))) x dx (uB b) (zS b d).1 (zS b d).2:=zh
  have hL2:DbL K (uB b) (zS b) x H (upd H' x (.ins (cA K "Debt") dx (zab (uB b) (zS b d).1 (zS b d).2))) vs' (ds.take i):=hL.put
  have eq2:(upd H' x (.ins (cA K "Debt") dx (zab (uB b) (zS b d).1 (zS b d).2))) q=some (.lst vs'):=by rw[zp nxq.symm];exact eq'
  have s4:Same H1 (upd H' x (.ins (cA K "Debt") dx (zab (uB b) (zS b d).1 (zS b d).2))):=zJ sH nx
  have ht4:=s4 _ _ (s1 _ _ ht0)
  clear e1 t1 eD' ht B'
  generalize upd H' x (.ins (cA K "Debt") dx (zab (uB b) (zS b d).1 (zS b d).2))=H4 at e2 hL2 eq2 s4 ht4 ⊢
  nofun
  refine ⟨.inl ⟨rfl,_,SqL.of eq2⟩,?_⟩
  nofun
  refine ⟨x,dx,_,rfl,e2,rfl,x,dx,uB b,_,_,rfl,e2,fun y dy ny ndy ney=>?_⟩
  have s5:Same H4 (upd (upd H4 dy (.own y)) y (.ins (cA K "Debt") dy (zab (uB b) (zS b d).1 (zS b d).2))):=(ze ndy _).trans (ze (by rw[zp ney.symm];exact ny) _)
  have ey:Deb K (upd (upd H4 dy (.own y)) y (.ins (cA K "Debt") dy (zab (uB b) (zS b d).1 (zS b d).2))) y dy (uB b) (zS b d).1 (zS b d).2:=zh
  have nyx:y≠x:=(zN e2 ny).symm
  have nyH:=zD (s1.trans s4) ny
  generalize upd (upd H4 dy (.own y)) y (.ins (cA K "Debt") dy (zab (uB b) (zS b d).1 (zS b d).2))=H5 at s5 ey ⊢
  have ht5:=s5 _ _ ht4
  have eq5:=s5 _ _ eq2
  nofun
  refine ⟨q,_,_,rfl,rfl,eq5,by ac_rfl,?_⟩
  have ht6:(upd H5 q (.lst (vs'++[.ref y]))) t=some (.tup [.int d,.int (ddo b d).1,.int (ddo b d).2.1,.int (ddo b d).2.2.1,.int (ddo b d).2.2.2]):=by rw[zp (zaw ht5 eq5 (by intro z;cases z))];exact ht5
  nofun
  refine ⟨_,_,d,vs'++[.ref y],_,⟨zJ (s4.trans s5) nq1,Deb.putL (e2.same s5) eq5,zh,?_⟩,.inr ⟨d,by ac_rfl,by simpa using hd,rfl,rfl,rfl⟩,rfl⟩
  rw[tk]
  exact LL.push ((hL2.same s5).putL eq5) ⟨y,dy,rfl,⟨nyx,nyH⟩,Deb.putL ey eq5⟩
 ·rintro σ H' ⟨m,n,st,vs',z1,⟨sH,eD',eq',hL⟩,cur,rfl⟩
  rw[wl,yay (ycv _)] at hL
  nofun
  exact h q x vs' H' nqH (s1.trans sH) eq' hL
def zd1 (P:Program) (w:World) (K:W.Frag):Sp:=fun vs H Q _=>L2.Ee6 fun a p A b (ms:List Int) z=>L2.Aa8 (vs=[.ref a,.ref p]) (zW K H a A b) (AB b) (H p=some (.lst ((ms++[z]).map V.int))) (ms.length<=20) ((ms++[z]).Pairwise (·<·)) ((∀ d∈ms++[z],0<=d/\d<=1000000)) (∀ q x ws H',H q=none->Same H H'->H' q=some (.lst ws)->DbL K (uB b) (zS b) x H H' ws (ms++[z])->Q (.ref q) H')
theorem zcB:zi ["book", "days", "rows", "debts", "by_day"] qab (zg zcR):=by walk_at "sp"
theorem zlS (S:Src K mg "accounts_at" zcR qab) (T:Txt K mg) (zbv:Def P w K mg base 2 "deeds_upto" qab (zeM P w K)) (zaW:Def P w K mg base 5 "debts_behind" qaj (zdu K)):Def P w K mg base 6 "accounts_at" qab (zd1 P w K):=by
 exists S.ok,zcB,0
 all_goals obtain ⟨a,p,A,b,ms,z,rfl,B,O,hp,ml,up,din,h⟩:=h
 ·rfl
 refine ⟨_,(zc (zo (i:=2) zcB.nd rfl (by walk_at "lc") (zt zbv hr (za (pv 0) (za (pv 1) zb))))
  (zc (zo (i:=3) zcB.nd rfl (by walk_at "lc") (zt zaW hr (za (pv 0) (za (pv 2) zb))))
  (zc (zo (i:=4) zcB.nd rfl (by walk_at "lc") (zR (zn8 rfl) rfl T.zeH PyProof.Rows.boot_dict (za (zaM (ix:=[3,2]) ⟨rfl,by decide +kernel,rfl,by decide +kernel,rfl,(show (["place", "debts", "rows"]:List Str).Nodup by decide +kernel),by walk_at "cap", by walk_at "sub", by walk_at "has"⟩ (zaU rfl T.zaV (za (zy zZ rfl T.zbP PySem.boot_len (za (pv 2) zb)) zb)) (fun b=>(zO (za (zr (zbz K) (zr (zbK K) (pv 2) (pv 0) (fun _ _=>rfl)) zd (fun _ _=>rfl)) (za (zr (zbK K) (pv 1) (pv 0) (fun _ _=>rfl)) zb))))) zb)))
  (zf (zj (zaM (ix:=[4]) ⟨rfl,by decide +kernel,rfl,by decide +kernel,rfl,(show (["day", "by_day"]:List Str).Nodup by decide +kernel),by walk_at "cap", by walk_at "sub", by walk_at "has"⟩ (zV (pv 1)) (fun b=>(zr (zpX P w) (pv 1) (pv 0) (fun _ _=>rfl))))))))),?_⟩
 have sz:=sizeLine_eq
 have osz:=O.sz
 nofun
 first | refine ⟨a,p,A,b,ms,z,rfl,B,O.is,hp,by ac_rfl,fun q1 ws ds H1 n1 s1 e1 r1 up1 zau l1=>?_⟩ | refine ⟨A,b,ms,z,B,O.is,hp,by ac_rfl,fun q1 ws ds H1 n1 s1 e1 r1 up1 zau l1=>?_⟩
 have dz:∀ d∈ds,0<=d/\d<=1000000:=fun d hd=>by
  rcases (zau d).mp hd with ⟨h1,h2⟩ | h1
  ·have:=O.d0 d h1
   have:=(din z (by simp)).2
   ac_rfl
  ·exact din d h1
 have dm:∀ d y,y∈ds->d<y->DDay b d->d∈ds:=fun d y hy dy hd=>by
  refine (zau d).mpr (.inl ⟨hd,?_⟩)
  rcases (zau y).mp hy with ⟨_,h2⟩ | h1
  ·ac_rfl
  ·rcases yag.mp h1 with h1 | h1
   ·have:=(ybh.mp up).2.2 y h1 z (by simp)
    ac_rfl
   ·have:y=z:=by simpa using h1
    ac_rfl
 have rl:=r1.length
 nofun
 first | refine ⟨a,q1,A,b,ws,ds,rfl,B.same s1,O,e1,r1,up1,dz,dm,by ac_rfl,fun q2 x vs2 H2 n2 s2 e2 hD=>?_⟩ | refine ⟨A,b,ws,ds,B.same s1,O,e1,r1,up1,dz,dm,by ac_rfl,fun q2 x vs2 H2 n2 s2 e2 hD=>?_⟩
 have vl:=hD.length
 have e12:=s2 _ _ e1
 have r12:=r1.same s2
 nofun
 refine ⟨q1,ws,rfl,.inl (SqL.of e12),?_⟩
 walk_at "rd1"
 refine ⟨by ac_rfl,by ac_rfl,fun l3 n3=>?_⟩
 refine zgo n3 (by ac_rfl) (ds.zip vs2) (by rw[List.length_zip];ac_rfl) (fun H' v s=>∃ t,v=.ref t/\H' t=some (.tup [.int s.1,s.2])) (fun v e H1 H2 s ⟨t,e1,e2⟩=>⟨t,e1,s _ _ e2⟩) (fun v e H1 ys zs hL ⟨t,e1,e2⟩=>⟨t,e1,by rw[zp (zaw e2 hL (by intro z;cases z))];exact e2⟩) ?_ ?_
 ·rintro i e H' Q' hi he sH hq
  obtain ⟨hd,hv⟩:=ycl.mp he
  obtain ⟨d',hd',t,et,ht⟩:=r12.get (yaa (show i<ws.length by ac_rfl))
  obtain rfl:d'=e.1:=Option.some.inj (hd'.symm.trans hd)
  have wi:ws[i]?=some (.ref t):=by rw[yaa (show i<ws.length by ac_rfl),et]
  have ht':=sH _ _ ht
  rw[ydv]
  nofun
  refine ⟨q1,_,_,_,rfl,rfl,SqL.of (sH _ _ e12),zak wi,?_⟩
  nofun
  first | refine ⟨t,_,_,_,rfl,rfl,SqT.of ht',rfl,?_⟩ | skip
  nofun
  refine ⟨q2,_,_,_,rfl,rfl,SqL.of (sH _ _ e2),zak hv,?_⟩
  nofun
  intro u nu
  exact hq _ _ (ze nu _) ⟨u,rfl,zh⟩
 ·rintro ys H3 s3 e3 hL
  have nd1:ds.Nodup:=Sby.zfd up1
  have zl:(ds.zip vs2).map (·.1)=ds:=List.map_fst_zip (by ac_rfl)
  nofun
  refine ⟨l3,ys,ds.zip vs2,rfl,e3,hL,by rw[List.length_zip];ac_rfl,fun d4 n4=>?_⟩
  rw[zqa (by rw[zl];exact nd1)]
  have s4:=ze n4 (zjd P w d4 (ds.zip vs2))
  have e4:=zq (zjd P w d4 (ds.zip vs2)) n4
  have s04:=s1.trans (s2.trans (s3.trans s4))
  have hp4:=s04 _ _ hp
  have hD4:=hD.same (s3.trans s4)
  nofun
  refine ⟨⟨_,SqL.of hp4⟩,fun l5 n5=>?_⟩
  refine comp_map (zaz (SqL.of hp4)) n5 (by rw[yab,yae];simp;ac_rfl) (ms++[z]) (by rw[yab]) (fun H' v d=>∃ y dy,v=.ref y/\(y≠x/\H1 y=none)/\Deb K H' y dy (uB b) (zS b d).1 (zS b d).2) (fun v e H1 H2 s ⟨y,dy,a1,a2,a3⟩=>⟨y,dy,a1,a2,s _ _ a3⟩) (fun v e H1 ys zs hL ⟨y,dy,a1,a2,a3⟩=>⟨y,dy,a1,a2,Deb.putL a3 hL⟩) ?_ ?_
  ·rintro i v d H' Q' hx hd sH hq
   rw[yaf,hd] at hx
   cases hx
   have dm:d∈ds:=(zau d).mpr (.inr (yai hd))
   obtain ⟨j,hj⟩:=ybe.mp dm
   have jl:=(yad.mp hj).1
   obtain ⟨d',hd',y,dy,ey,ny,eD⟩:=hD4.get (yaa (show j<vs2.length by ac_rfl))
   obtain rfl:d'=d:=Option.some.inj (hd'.symm.trans hj)
   have lk:lkV (ds.zip vs2) d'=some (.ref y):=zou (by ac_rfl) nd1 hj (by rw[yaa (show j<vs2.length by ac_rfl),ey])
   nofun
   refine ⟨d4,_,_,_,rfl,rfl,sH _ _ e4,lk,?_⟩
   exact hq _ _ (Same.refl _) ⟨y,dy,rfl,ny,sH _ _ eD⟩
  ·rintro yR HR sR eR hR
   refine h l5 x yR HR (zD s04 n5) (s04.trans sR) eR ?_
   exact DbL.old (show DbL K (uB b) (zS b) x H1 HR yR (ms++[z]) from hR) s1
def ze7 (K:W.Frag):Sp:=fun vs H Q _=>L2.Ee6 fun a q A (b:BkT) ys fs=>L2.Aa8 (vs=[.ref a,.ref q]) (zW K H a A b) ((0<=b.g/\b.g<=366)) (H q=some (.lst ys)) (EL K H ys fs) (Few (b.es++fs)) ((∀ e∈b.es++fs,0<=e.2.1)) (∀ a' A' (b':BkT) H',H a'=none->Same H H'->zW K H' a' A' b'->zfB b'->b'.kd=b.kd->b'.g=b.g->b'.es=b.es++fs->Q (.ref a') H')
theorem zjn:zi qbc qbc (zg zbW):=by walk_at "sp"
theorem zjI (S:zv K (cA K "Book") "with_more" "Book.with_more" zbW qbc) (T:Txt K mg) (zbn:zu P w K mg base 4 (cA K "Book") "__init__" qat (zfK K)):zu P w K mg base 6 (cA K "Book") "with_more" qbc (ze7 K):=by
 exists S.ok,zjn,0
 all_goals obtain ⟨a,q,A,b,ys,fs,rfl,B,⟨g0,g1⟩,hq,hE,hl,d0,h⟩:=h
 ·rfl
 refine ⟨_,(zf (zj (zbL T.zhc zbn hr T.ziW (za (zI T.zw T.zaQ (pv 0)) (za (zI T.zw T.zaO (pv 0)) (za (zk zcc (zI T.zw T.zaF (pv 0)) (pv 1)) zb)))))),?_⟩
 have sz:=sizeLine_eq
 obtain ⟨xs,eX,hX⟩:=B.ents
 have xl:=hX.length
 have yl:=hE.length
 have el:=hl.len
 rw[yae] at el
 nofun
 refine ⟨a,A.dx,_,_,rfl,B.ins,rfl,?_⟩
 nofun
 refine ⟨a,A.dx,_,_,rfl,B.ins,rfl,?_⟩
 nofun
 refine ⟨a,A.dx,_,_,rfl,B.ins,rfl,?_⟩
 nofun
 refine ⟨A.e,q,xs,ys,rfl,rfl,eX,hq,by ac_rfl,fun l nl=>?_⟩
 have s1:=ze nl (.lst (xs++ys))
 have eL:=zq (.lst (xs++ys)) nl
 have hL:EL K (upd H l (.lst (xs++ys))) (xs++ys) (b.es++fs):=LL.append (hX.same s1) (hE.same s1)
 have hc:=B.cnt.same s1
 generalize upd H l (.lst (xs++ys))=H2 at s1 eL hL hc ⊢
 nofun
 intro a' dx na nd ne
 have s3:Same H2 (upd (upd H2 dx (.own a')) a' (.ins (cA K "Book") dx [])):=(ze nd _).trans (ze (by rw[zp ne.symm];exact na) _)
 refine ⟨a',dx,A.c,l,b.kd,b.g,xs++ys,b.es++fs,H2,rfl,zh,⟨na,s3⟩,hc,⟨g0,g1⟩,SqL.of eL,hL,hl,d0,fun A' b' H3 sH3 B' I e1 e2 e3=>⟨rfl,?_⟩⟩
 exact h a' A' b' H3 (zD s1 na) (s1.trans sH3) B' I e1 e2 e3
def zfq (K:W.Frag):Sp:=fun vs H Q _=>L2.Ee4 fun a A (b:BkT) z=>L2.Aa5 (vs=[.ref a,.int z]) (zW K H a A b) (AB b) ((0<=z/\z<=1000000)) (∀ q ws (ds:List Int) H',H q=none->Same H H'->H' q=some (.lst ws)->R7 (zto b.es (zS b)) H' ws ds->ds.Pairwise (·<·)->(∀ d,d∈ds↔(DDay b d/\d<z)\/d=z)->ds.length<=62->Q (.ref q) H')
theorem zfO:zi ["book", "day", "deeds", "debts"] qag (zg zeD):=by walk_at "sp"
theorem znW (S:Src K mg "statement" zeD qag) (T:Txt K mg) (zbv:Def P w K mg base 2 "deeds_upto" qab (zeM P w K)) (zaW:Def P w K mg base 5 "debts_behind" qaj (zdu K)) (zfN:zu P w K mg base 1 (cA K "Debt") "units" qaa (zh5 K)) (zaI:zu P w K mg base 1 (cA K "Debt") "principal" qaa (zcL K)):Def P w K mg base 6 "statement" qag (zfq K):=by
 exists S.ok,zfO,0
 all_goals obtain ⟨a,A,b,z,rfl,B,O,⟨z0,z1⟩,h⟩:=h
 ·rfl
 refine ⟨_,(zc (zo (i:=2) zfO.nd rfl (by walk_at "lc") (zt zbv hr (za (pv 0) (za (zai (za (pv 1) zb)) zb))))
  (zc (zo (i:=3) zfO.nd rfl (by walk_at "lc") (zt zaW hr (za (pv 0) (za (pv 2) zb))))
  (zf (zj (zaM (ix:=[3,2]) ⟨rfl,by decide +kernel,rfl,by decide +kernel,rfl,(show (["place", "debts", "deeds"]:List Str).Nodup by decide +kernel),by walk_at "cap", by walk_at "sub", by walk_at "has"⟩ (zaU rfl T.zaV (za (zy zZ rfl T.zbP PySem.boot_len (za (pv 2) zb)) zb)) (fun b=>(zk (zrx K) (zr (zbK K) (pv 2) (pv 0) (fun _ _=>rfl)) (zO (za (zC zaI T.zB hr (zr (zbK K) (pv 1) (pv 0) (fun _ _=>rfl))) (za (zC zfN T.zB hr (zr (zbK K) (pv 1) (pv 0) (fun _ _=>rfl))) zb)))))))))),?_⟩
 have sz:=sizeLine_eq
 have osz:=O.sz
 nofun
 intro p np
 have s0:=ze np (.lst [.int z])
 have e0:=zq (.lst [.int z]) np
 generalize upd H p (.lst [.int z])=H0 at s0 e0 ⊢
 have B0:=B.same s0
 nofun
 first | refine ⟨a,p,A,b,[],z,rfl,B0,O.is,e0,by simp;ac_rfl,fun q1 ws ds H1 n1 s1 e1 r1 up1 zau l1=>?_⟩ | refine ⟨A,b,[],z,B0,O.is,e0,by simp;ac_rfl,fun q1 ws ds H1 n1 s1 e1 r1 up1 zau l1=>?_⟩
 have mem2:∀ d,d∈ds↔(DDay b d/\d<z)\/d=z:=fun d=>(zau d).trans (by simp)
 have dz:∀ d∈ds,0<=d/\d<=1000000:=fun d hd=>by
  rcases (mem2 d).mp hd with ⟨h1,h2⟩ | h1
  ·have:=O.d0 d h1
   ac_rfl
  ·ac_rfl
 have dm:∀ d y,y∈ds->d<y->DDay b d->d∈ds:=fun d y hy dy hd=>by
  refine (mem2 d).mpr (.inl ⟨hd,?_⟩)
  rcases (mem2 y).mp hy with ⟨_,h2⟩ | h1 <;> ac_rfl
 have rl:=r1.length
 nofun
 first | refine ⟨a,q1,A,b,ws,ds,rfl,B0.same s1,O,e1,r1,up1,dz,dm,by ac_rfl,fun q2 x vs2 H2 n2 s2 e2 hD=>?_⟩ | refine ⟨A,b,ws,ds,B0.same s1,O,e1,r1,up1,dz,dm,by ac_rfl,fun q2 x vs2 H2 n2 s2 e2 hD=>?_⟩
 have vl:=hD.length
 have e12:=s2 _ _ e1
 have r12:=r1.same s2
 nofun
 refine ⟨q1,ws,rfl,.inl (SqL.of e12),?_⟩
 walk_at "rd1"
 refine ⟨by ac_rfl,by ac_rfl,fun l3 n3=>?_⟩
 refine zgo n3 (by ac_rfl) ds (by ac_rfl) (fun H' v d=>∃ t,v=.ref t/\H' t=some (.tup ((zto b.es (zS b) d).map V.int))) (fun v e H1 H2 s ⟨t,e1,e2⟩=>⟨t,e1,s _ _ e2⟩) (fun v e H1 ys zs hL ⟨t,e1,e2⟩=>⟨t,e1,by rw[zp (zaw e2 hL (by intro z;cases z))];exact e2⟩) ?_ ?_
 ·rintro i d H' Q' hi hd sH hq
  obtain ⟨d',hd',t,et,ht⟩:=r12.get (yaa (show i<ws.length by ac_rfl))
  obtain rfl:d'=d:=Option.some.inj (hd'.symm.trans hd)
  have wi:ws[i]?=some (.ref t):=by rw[yaa (show i<ws.length by ac_rfl),et]
  obtain ⟨d2,hd2,y,dy,ey,ny,eD⟩:=hD.get (yaa (show i<vs2.length by ac_rfl))
  obtain rfl:d2=d':=Option.some.inj (hd2.symm.trans hd)
  have vi:vs2[i]?=some (.ref y):=by rw[yaa (show i<vs2.length by ac_rfl),ey]
  have ht':=sH _ _ ht
  have eD':=sH _ _ eD
  rw[ydv]
  nofun
  refine ⟨q1,_,_,_,rfl,rfl,SqL.of (sH _ _ e12),zak wi,?_⟩
  nofun
  refine ⟨q2,_,_,_,rfl,rfl,SqL.of (sH _ _ e2),zak vi,?_⟩
  nofun
  refine ⟨y,dy,_,rfl,eD',rfl,y,dy,uB b,_,_,rfl,eD',?_⟩
  nofun
  refine ⟨q2,_,_,_,rfl,rfl,SqL.of (sH _ _ e2),zak vi,?_⟩
  nofun
  refine ⟨y,dy,_,rfl,eD',rfl,y,dy,uB b,_,_,rfl,eD',?_⟩
  nofun
  intro u nu
  have su:=ze nu (.tup [.int (zS b d2).1,.int (zS b d2).2])
  have eu:=zq (.tup [.int (zS b d2).1,.int (zS b d2).2]) nu
  generalize upd H' u (.tup [.int (zS b d2).1,.int (zS b d2).2])=H5 at su eu ⊢
  refine ⟨t,u,_,_,rfl,rfl,SqT.of (su _ _ ht'),SqT.of eu,(by intro z;cases z),by rw[sz];show 7<=_;decide,(fun z=>by cases z),fun _ v nv=>?_⟩
  exact hq _ _ (su.trans (ze nv _)) ⟨v,rfl,zh⟩
 ·rintro ys H3 s3 e3 hL
  exact h l3 ys ds H3 (zD (s0.trans (s1.trans s2)) n3) (s0.trans (s1.trans (s2.trans s3))) e3 hL up1 mem2 l1
def zj9 (K:W.Frag):Sp:=fun vs H Q _=>L2.Ee4 fun a A b z=>L2.Aa5 (vs=[.ref a,.int z]) (zW K H a A b) (AB b) ((0<=z/\z<=1000000)) (∀ x dx H',H x=none->Same H H'->Deb K H' x dx (uB b) (zS b z).1 (zS b z).2->Q (.ref x) H')
theorem zpu:zi qag qag (zg zgk):=by walk_at "sp"
theorem zpJ (S:Src K mg "account" zgk qag) (T:Txt K mg) (zbb:Def P w K mg base 6 "accounts_at" qab (zd1 P w K)):Def P w K mg base 7 "account" qag (zj9 K):=by
 exists S.ok,zpu,0
 all_goals obtain ⟨a,A,b,z,rfl,B,O,⟨z0,z1⟩,h⟩:=h
 ·rfl
 refine ⟨_,(zf (zj (zr zG (zt zbb hr (za (pv 0) (za (zai (za (pv 1) zb)) zb))) zd (fun _ _=>rfl)))),?_⟩
 nofun
 intro p np
 have s1:=ze np (.lst [.int z])
 have e1:=zq (.lst [.int z]) np
 generalize upd H p (.lst [.int z])=H1 at s1 e1 ⊢
 nofun
 first | refine ⟨a,p,A,b,[],z,rfl,B.same s1,O,e1,by decide,by simp,fun d hd=>?_,fun q x ws H2 n2 s2 e2 hD=>?_⟩ | refine ⟨A,b,[],z,B.same s1,O,e1,by decide,by simp,fun d hd=>?_,fun q x ws H2 n2 s2 e2 hD=>?_⟩
 ·have:d=z:=by simpa using hd
  ac_rfl
 cases hD with
 | cons h1 h2 =>
  cases h2
  obtain ⟨y,dy,rfl,⟨_,ny⟩,eD⟩:=h1
  nofun
  first | exact ⟨q,_,_,_,rfl,rfl,SqL.of e2,rfl,h y dy H2 (zD s1 ny) (s1.trans s2) eD⟩ | exact h y dy H2 (zD s1 ny) (s1.trans s2) eD
theorem zpA {n:Nat} {b:BkT} (T:Tb n b) (hn:n<=10):AB b:=by
 have y:360<=yr b.kd/\yr b.kd<=365:=by cases b.kd <;> decide
 exact T.bk hn (fun d=>zsF (by omega) (by omega)) (by unfold uB;omega) (by unfold uB;omega)
def zhR (K:W.Frag):Sp:=fun vs H Q _=>L2.Ee6 fun a p A (b:BkT) (ds:List Int) x=>L2.Aa6 (vs=[.ref a,.ref p,.int x]) (zW K H a A b) (Tb 0 b) (SqL K H p (ds.map V.int)) ((ds.length<=2/\b.es.length+ds.length<=500/\∀ d∈ds,0<=d)) (∀ a' A' b' H',H a'=none->Same H H'->zW K H' a' A' b'->Tb 2 b'->Q (.ref a') H')
theorem zpB:zi qac qac (zg zge):=by walk_at "sp"
theorem zpO (S:Src K mg "paid_on" zge qac) (T:Txt K mg) (zc7:zu P w K mg base 6 (cA K "Book") "with_more" qbc (ze7 K)) (ziK:Def P w K mg base 4 "as_pays" qam (zkC K)):Def P w K mg base 7 "paid_on" qac (zhR K):=by
 exists S.ok,zpB,0
 all_goals obtain ⟨a,p,A,b,ds,x,rfl,B,O,hp,⟨dl,el,d0⟩,h⟩:=h
 ·rfl
 refine ⟨_,(zf (zj (zcb zc7 T.zw hr (pv 0) (za (zt ziK hr (za (zaM (ix:=[2]) ⟨rfl,by decide +kernel,rfl,by decide +kernel,rfl,(show (["day", "amount"]:List Str).Nodup by decide +kernel),by walk_at "cap", by walk_at "sub", by walk_at "has"⟩ (zV (pv 1)) (fun b=>(zO (za (pv 0) (za (pv 1) zb))))) zb)) zb)))),?_⟩
 have sz:=sizeLine_eq
 have lm:(ds.map V.int).length=ds.length:=yab ..
 nofun
 refine ⟨a,A.dx,_,rfl,B.ins,rfl,?_⟩
 nofun
 refine ⟨⟨_,hp⟩,fun l nl=>?_⟩
 refine comp_map (zaz hp) nl (by ac_rfl) (evn ds x) (by unfold evn;rw[yab,yab]) (fun H v s=>∃ t,v=.ref t/\H t=some (.tup [.int s.1,.int s.2])) (fun v e H1 H2 s ⟨t,e1,e2⟩=>⟨t,e1,s _ _ e2⟩) (fun v e H1 ys zs hL ⟨t,e1,e2⟩=>⟨t,e1,by rw[zp (zaw e2 hL (by intro z;cases z))];exact e2⟩) ?_ ?_
 ·rintro j v s H2 Q' hv hs sH2 hq
  unfold evn at hs
  rw[yaf] at hv hs
  obtain ⟨d,hd,rfl⟩:=Option.map_eq_some_iff.mp hv
  rw[hd] at hs
  obtain rfl:(d,x)=s:=Option.some.inj hs
  nofun
  intro t nt
  exact hq _ _ (ze nt _) ⟨t,rfl,zh⟩
 ·rintro zs H2 s2 eL hL
  have hR:zx K H2 zs (evn ds x):=zje hL.length fun j v s hv hs=>by
   obtain ⟨s',hs',t,e1,e2⟩:=hL.get hv
   obtain rfl:s'=s:=Option.some.inj (hs'.symm.trans hs)
   exact ⟨t,e1,e2⟩
  have el2:(evn ds x).length=ds.length:=yab ..
  have M:=O.more x dl el d0
  have B2:=B.same s2
  nofun
  rename_i q ys H3
  intro nq s3 eq hE
  nofun
  refine ⟨a,q,A,b,ys,zjO (evn ds x),rfl,B2.same s3,O.g,eq,hE,M.few (by decide),M.d0,fun a' A' b' H4 n4 s4 B4 I4 ek eg ee=>?_⟩
  exact h a' A' b' H4 (zD s2 (zD s3 n4)) (s2.trans (s3.trans s4)) B4 (TbM.tb (by rw[ee];exact M) I4 (by rw[eg];exact O.g))
def zgj (K:W.Frag):Sp:=fun vs H Q _=>∃ a b c,vs=[a,b,c]/\False
theorem zka:zi qbd qbd (zg zcE):=by walk_at "sp"
theorem zkR (S:Src K mg "statement_ok" zcE qbd) (T:Txt K mg) (zb2:Def P w K mg base 6 "statement" qag (zfq K)):Def P w K mg base 7 "statement_ok" qbd (zgj K):=by
 exists S.ok,zka,0
 all_goals obtain ⟨a,b,c,rfl,hf⟩:=h
 ·rfl
 refine ⟨_,(zf (zj (zho (zpN hr.units) (pv 2) (zt zb2 hr (za (pv 0) (za (pv 1) zb))) (nomark _)))),?_⟩
 exact hf.elim
def zos (K:W.Frag):Sp:=fun vs H Q _=>L2.Ee4 fun a A b z=>L2.Aa5 (vs=[.ref a,.int z]) (zW K H a A b) (AB b) ((0<=z/\z<=1000000)) (Q (.int ((zS b z).2 / uB b)) H)
theorem zsP:zi qag qag (zg zku):=by walk_at "sp"
theorem ztO (S:Src K mg "owed" zku qag) (T:Txt K mg) (zap:zu P w K mg base 1 (cA K "Debt") "owed" qaa (zcj K)) (ziQ:Def P w K mg base 7 "account" qag (zj9 K)):Def P w K mg base 8 "owed" qag (zos K):=by
 exists S.okF,zsP,0
 all_goals obtain ⟨a,A,b,z,rfl,B,O,hz,h⟩:=h
 ·rfl
 refine ⟨_,(zf (zj (zC zap T.zB hr (zt ziQ hr (za (pv 0) (za (pv 1) zb)))))),?_⟩
 nofun
 first | refine ⟨a,A,b,z,rfl,B,O,hz,fun x dx H1 nx s1 eD=>?_⟩ | refine ⟨A,b,B,O,hz,fun x dx H1 nx s1 eD=>?_⟩
 nofun
 refine ⟨x,dx,_,rfl,eD,rfl,x,dx,uB b,_,_,rfl,eD,⟨O.ok.hu,O.u1⟩,?_⟩
 first | exact ⟨s1,h⟩ | exact h
def zcf (K:W.Frag):Sp:=fun vs H Q E=>L2.Ee5 fun a x A (b:BkT) y=>L2.Aa4 (vs=[.ref a,x,.int y]) (zW K H a A b) (Tb 0 b) (((zdL K H x/\E (.ref (cA K "NoDays")) none H)\/∃ p ds,x=.ref p/\H p=some (.lst (ds.map V.int))/\zcr ds/\ds.length<=2/\(500<b.es.length+ds.length->E (.ref (cA K "TooMany")) none H)/\(b.es.length+ds.length<=500 ->  ∀ a' A' b' H',H a'=none->Same H H'->zW K H' a' A' b'->Tb 2 b'->Q (.ref a') H')))
theorem znf:zi qac qac (zg zeE):=by walk_at "sp"
theorem znL (S:Src K mg "with_pays" zeE qac) (T:Txt K mg) (zag:zaR P w K mg base 4 "check_days" qab (zb0 K)) (zck:Def P w K mg base 7 "paid_on" qac (zhR K)):zaR P w K mg base 8 "with_pays" qac (zcf K):=by
 exists S.okX,znf,0
 all_goals obtain ⟨a,x,A,b,y,rfl,B,O,h⟩:=h
 ·rfl
 refine ⟨_,(zc (zK (zbh (E:=E) zag hr zkF (za (pv 0) (za (pv 1) zb))))
  (zf (zj (zt zck hr (za (pv 0) (za (pv 1) (za (pv 2) zb))))))),?_⟩
 nofun
 refine ⟨a,x,A,b,rfl,B,O.len,?_⟩
 rcases h with ⟨hb,hE⟩ | ⟨p,ds,rfl,hp,D,dl,hE,h⟩
 ·exact .inl ⟨hb,hE⟩
 refine .inr ⟨p,ds,rfl,hp,D,hE,fun q=>?_⟩
 replace h:=h q
 nofun
 exact ⟨a,p,A,b,ds,y,rfl,B,O,SqL.of hp,⟨dl,q,fun d hd=>(D.in_ d hd).1⟩,h⟩
def zkG (K:W.Frag):Sp:=fun vs H Q E=>L2.Ee5 fun a x A (b:BkT) y=>L2.Aa4 (vs=[.ref a,x,.int y]) (zW K H a A b) (Tb 0 b) (((zdL K H x/\E (.ref (cA K "NoDays")) none H)\/∃ p ds,x=.ref p/\H p=some (.lst (ds.map V.int))/\zcr ds/\ds.length<=2/\(500<b.es.length+ds.length->E (.ref (cA K "TooMany")) none H)/\(b.es.length+ds.length<=500->∀ v:V,Q v H)))
theorem zhw:zi ["book", "days", "amount", "debts", "place"] qac (zg zgq):=by walk_at "sp"
theorem zqf (S:Src K mg "ends_on" zgq qac) (T:Txt K mg) (zbb:Def P w K mg base 6 "accounts_at" qab (zd1 P w K)) (zan:zaR P w K mg base 8 "with_pays" qac (zcf K)) (zap:zu P w K mg base 1 (cA K "Debt") "owed" qaa (zcj K)):zaR P w K mg base 9 "ends_on" qac (zkG K):=by
 refine S.zpv zhw (fun vs H Q E h=>?_) (fun f cdv A outer s H vs Q E hr h=>?_)
 ·obtain ⟨a,x,A,b,y,rfl,B,O,h⟩:=h
  rfl
 obtain ⟨a,x,A,b,y,rfl,B,O,h⟩:=h
 refine ⟨_,(zc (zo (i:=3) zhw.nd rfl (by walk_at "lc") (zt zbb hr (za (zbh (E:=fun C d H'=>Same H H'/\E C d H) zan hr zkF (za (pv 0) (za (pv 1) (za (pv 2) zb)))) (za (pv 1) zb))))
  (zc (zsf (zch PassesOwn.never rfl (zaU rfl T.zaV (za (zy zZ rfl T.zbP PySem.boot_len (za (pv 1) zb)) zb)) (zay (i:=4) zhw.nd rfl (by walk_at "lc"))
  (zf (zaa (zz zdE (zC zap T.zB hr (zr zG (pv 3) (pv 4) (fun _ _=>rfl))) zd (nomark _))
  (zf (zj (zr zG (pv 1) (pv 4) (fun _ _=>rfl))))
   zY))))
  (zf (zj zdy)))),?_⟩
 have sz:=sizeLine_eq
 nofun
 refine ⟨a,x,A,b,y,rfl,B,O,?_⟩
 rcases h with ⟨hb,hE⟩ | ⟨p,ds,rfl,hp,D,dl,hE,h⟩
 ·exact .inl ⟨hb,Same.refl _,hE⟩
 refine .inr ⟨p,ds,rfl,hp,D,dl,fun q=>⟨Same.refl _,hE q⟩,fun q a2 A2 b2 H2 n2 s2 B2 O2=>?_⟩
 replace h:=h q
 obtain ⟨ms,z,rfl,at_,z0,z1⟩:=D.last
 have ml:ms.length+1=(ms++[z]).length:=by rw[yae];rfl
 have hp2:=s2 _ _ hp
 have AB2:=zpA O2 (by decide)
 nofun
 refine ⟨a2,p,A2,b2,ms,z,rfl,B2,AB2,hp2,by ac_rfl,D.up,fun d hd=>by have:=D.in_ d hd;ac_rfl,fun q3 x0 ws H3 n3 s3 eq hD=>?_⟩
 have hp3:=s3 _ _ hp2
 have wl:=hD.length
 have lm:((ms++[z]).map V.int).length=(ms++[z]).length:=yab ..
 nofun
 refine ⟨p,_,rfl,.inl (SqL.of hp3),_,rfl,by rw[lm];ac_rfl,by rw[lm];ac_rfl,?_⟩
 refine zgc (fun i σ H'=>∃ z1:Option V,H'=H3/\σ=[some (.ref a),some (.ref p),some (.int y),some (.ref q3),z1]) ⟨_,rfl,rfl⟩ ?_ ?_
 ·rintro i σ H' hi ⟨z2,rfl,rfl⟩
  have il:i<(ms++[z]).length:=by ac_rfl
  obtain ⟨d,hd⟩:∃ d,(ms++[z])[i]?=some d:=⟨_,yaa il⟩
  have iw:i<ws.length:=by ac_rfl
  obtain ⟨d',hd',xx,dx,ev1,_,De⟩:=hD.get (yaa iw)
  have ati:atI ws (0+(i:Int))=some (.ref xx):=by rw[ydv];exact zak (by rw[yaa iw,ev1])
  have atd:atI ((ms++[z]).map V.int) (0+(i:Int))=some (.int d):=by rw[ydv];exact zak (by rw[yaf,hd];rfl)
  nofun
  refine ⟨q3,_,_,_,rfl,rfl,SqL.of eq,ati,?_⟩
  nofun
  refine ⟨xx,dx,_,rfl,De,rfl,xx,dx,uB b2,_,_,rfl,De,⟨AB2.ok.hu,AB2.u1⟩,?_⟩
  nofun
  ·refine ⟨p,_,_,_,rfl,rfl,SqL.of hp3,atd,?_⟩
   first | exact ⟨s2.trans s3,h _⟩ | exact h _
  ·exact ⟨_,rfl,rfl⟩
 ·rintro σ H' ⟨z2,rfl,rfl⟩
  nofun
  first | exact ⟨s2.trans s3,h _⟩ | exact h _
def zeN (K:W.Frag):Sp:=fun vs H Q _=>L2.Ee5 fun a p A b z=>L2.Aa5 (vs=[.ref a,.ref p,.int z]) (zW K H a A b) (Tb 0 b) ((0<=z/\z<=1000000)) (Q (.int 0) H)
theorem zao:zi ["book", "days", "last", "low", "high", "guess", "middle"] qbe (zg zdI):=by walk_at "sp"
theorem znJ (S:Src K mg "least_paid" zdI qbe) (T:Txt K mg) (ziD:Def P w K mg base 8 "owed" qag (zos K)) (zck:Def P w K mg base 7 "paid_on" qac (zhR K)):Def P w K mg base 9 "least_paid" qbe (zeN K):=by
 exists S.okF,zao,0
 all_goals obtain ⟨a,p,A,b,z,rfl,B,O,hz,h⟩:=h
 ·rfl
 refine ⟨_,(zc (zo (i:=3) zao.nd rfl (by walk_at "lc") zd)
  (zc (zo (i:=4) zao.nd rfl (by walk_at "lc") (zy (zc9 rfl) rfl T.zgl PyProof.Rows.boot_max (za zd (za (zt ziD hr (za (pv 0) (za (pv 2) zb))) zb))))
  (zc (zo (i:=5) zao.nd rfl (by walk_at "lc") (zd0 T.zeV))
  (zc (zhS PassesOwn.never (PW.pt (zil (zz zdq (pv 5) (pv 4) (nomark _)) (zi6 (zz zgp (zt ziD hr (za (zt zck hr (za (pv 0) (za (pv 1) (za (pv 5) zb)))) (za (pv 2) zb))) zd (nomark _)))))
  (zc (zo (i:=3) zao.nd rfl (by walk_at "lc") (zk zQ (pv 5) zd))
  (zf (zo (i:=5) zao.nd rfl (by walk_at "lc") (zk zsE (pv 5) (pv 5))))))
  (zc (zo (i:=4) zao.nd rfl (by walk_at "lc") (zy (zf8 rfl) rfl T.zi1 PyProof.Rows.boot_min (za (pv 4) (za (pv 5) zb))))
  (zc (zhS PassesOwn.never (zz zdq (pv 3) (pv 4) (nomark _))
  (zc (zo (i:=6) zao.nd rfl (by walk_at "lc") (zk zdd (zk zQ (pv 3) (pv 4)) zd))
  (zf (zaa (zz zdE (zt ziD hr (za (zt zck hr (za (pv 0) (za (pv 1) (za (pv 6) zb)))) (za (pv 2) zb))) zd (nomark _))
  (zf (zo (i:=4) zao.nd rfl (by walk_at "lc") (pv 6)))
  (zf (zo (i:=3) zao.nd rfl (by walk_at "lc") (zk zQ (pv 6) zd)))))))
  (zf (zj (pv 3))))))))),?_⟩
 have ev:(zS b z).2 / uB b=0:=by rw[show zS b z=(0,0) from O.zero _];exact Int.zero_ediv _
 nofun
 refine ⟨a,A,b,z,rfl,B,zpA O (by decide),hz,?_⟩
 rw[ev]
 nofun
 refine ⟨fun n σ H'=>σ=[some (.ref a),some (.ref p),some (.int z),some (.int 0),some (.int 0),some (.int 1000000),none]/\H'=H,⟨0,rfl,rfl⟩,?_⟩
 rintro n σ H' ⟨rfl,rfl⟩
 nofun
 rw[if_neg (show ¬ (1000000:Int)<0 by decide)]
 show zM _ _ _ _ _
 refine ⟨fun n σ H1=>σ=[some (.ref a),some (.ref p),some (.int z),some (.int 0),some (.int 0),some (.int 1000000),none]/\H1=H',⟨0,rfl,rfl⟩,?_⟩
 rintro n σ H1 ⟨rfl,rfl⟩
 nofun
 first | exact ⟨Same.refl _,h⟩ | exact h
def ziA (K:W.Frag):Sp:=fun vs H Q _=>L2.Ee6 fun a p A (b:BkT) (ds:List Int) x=>L2.Aa8 (vs=[.ref a,.ref p,.int x]) (zW K H a A b) (Tb 0 b) (H p=some (.lst (ds.map V.int))) (zcr ds) (ds.length<=2) (b.es.length+ds.length<=500) (∀ q H',H q=none->Same H H'->Q (.ref q) H')
theorem znx:zi qac qac (zg zej):=by walk_at "sp"
theorem zoe (S:Src K mg "even_rows" zej qac) (T:Txt K mg) (zb2:Def P w K mg base 6 "statement" qag (zfq K)) (zan:zaR P w K mg base 8 "with_pays" qac (zcf K)):Def P w K mg base 9 "even_rows" qac (ziA K):=by
 exists S.ok,znx,0
 all_goals obtain ⟨a,p,A,b,ds,x,rfl,B,O,hp,D,dl,el,h⟩:=h
 ·rfl
 refine ⟨_,(zf (zj (zt zb2 hr (za (zbh zan hr zqm (za (pv 0) (za (pv 1) (za (pv 2) zb)))) (za (zr zG (pv 1) (zcU zbY zd) (fun _ _=>rfl)) zb))))),?_⟩
 obtain ⟨ms,z,e,at_,z0,z1⟩:=D.last
 nofun
 refine ⟨a,.ref p,A,b,x,rfl,B,O,.inr ⟨p,ds,rfl,hp,D,dl,fun q=>by ac_rfl,fun _ a2 A2 b2 H2 n2 s2 B2 O2=>?_⟩⟩
 nofun
 refine ⟨p,_,_,_,rfl,rfl,SqL.of (s2 _ _ hp),at_,?_⟩
 nofun
 refine ⟨a2,A2,b2,z,rfl,B2,zpA O2 (by decide),⟨z0,by ac_rfl⟩,fun q ws dd H3 nq s3 eq r7 up mem l62=>?_⟩
 exact h q H3 (zD s2 nq) (s2.trans s3)
def zdj (K:W.Frag):Sp:=fun vs H Q _=>L2.Ee4 fun a b c d=>vs=[a,b,c,d]/\False
theorem zkv:zi qak qak (zg zcw):=by walk_at "sp"
theorem zkV (S:Src K mg "is_even_rows" zcw qak) (T:Txt K mg) (zee:Def P w K mg base 7 "statement_ok" qbd (zgj K)) (zan:zaR P w K mg base 8 "with_pays" qac (zcf K)):Def P w K mg base 9 "is_even_rows" qak (zdj K):=by
 exists S.ok,zkv,0
 all_goals obtain ⟨a,b,c,d,rfl,hf⟩:=h
 ·rfl
 refine ⟨_,(zf (zj (zt zee hr (za (zbh zan hr zqm (za (pv 0) (za (pv 1) (za (pv 2) zb)))) (za (zr zG (pv 1) (zcU zbY zd) (fun _ _=>rfl)) (za (pv 3) zb)))))),?_⟩
 exact hf.elim
def zeP (K:W.Frag):Sp:=fun vs H Q E=>L2.Ee4 fun a x A (b:BkT)=>L2.Aa4 (vs=[.ref a,x]) (zW K H a A b) (Tb 0 b) (((zdL K H x/\E (.ref (cA K "NoDays")) none H)\/∃ p ds,x=.ref p/\H p=some (.lst (ds.map V.int))/\zcr ds/\ds.length<=2/\(500<b.es.length+ds.length->E (.ref (cA K "TooMany")) none H)/\(b.es.length+ds.length<=500->Q (.int 0) H)))
theorem zl4:zi qab qab (zg zdk):=by walk_at "sp"
theorem zmC (S:Src K mg "least_even" zdk qab) (T:Txt K mg) (zag:zaR P w K mg base 4 "check_days" qab (zb0 K)) (zbw:Def P w K mg base 9 "least_paid" qbe (zeN K)):zaR P w K mg base 10 "least_even" qab (zeP K):=by
 refine S.zpv zl4 (fun vs H Q E h=>?_) (fun f cdv A outer s H vs Q E hr h=>?_)
 ·obtain ⟨a,x,A,b,rfl,B,O,h⟩:=h
  rfl
 obtain ⟨a,x,A,b,rfl,B,O,h⟩:=h
 refine ⟨_,(zc (zK (zbh (E:=fun C d H'=>Same H H'/\E C d H) zag hr zkF (za (pv 0) (za (pv 1) zb))))
  (zf (zj (zt zbw hr (za (pv 0) (za (pv 1) (za (zr zG (pv 1) (zcU zbY zd) (fun _ _=>rfl)) zb))))))),?_⟩
 nofun
 refine ⟨a,x,A,b,rfl,B,O.len,?_⟩
 rcases h with ⟨hb,hE⟩ | ⟨p,ds,rfl,hp,D,dl,hE,h⟩
 ·exact .inl ⟨hb,Same.refl _,hE⟩
 refine .inr ⟨p,ds,rfl,hp,D,fun q=>⟨Same.refl _,hE q⟩,fun q=>?_⟩
 replace h:=h q
 obtain ⟨ms,z,e,at_,z0,z1⟩:=D.last
 nofun
 refine ⟨p,_,_,_,rfl,rfl,SqL.of hp,at_,?_⟩
 nofun
 refine ⟨a,p,A,b,z,rfl,B,O,⟨z0,by ac_rfl⟩,?_⟩
 first | exact ⟨Same.refl _,h⟩ | exact h
def zh4 (K:W.Frag):Sp:=fun vs H Q E=>L2.Ee5 fun a x y A (b:BkT)=>L2.Aa4 (vs=[.ref a,x,y]) (zW K H a A b) (Tb 0 b) (((zhq K H x y/\E (.ref (cA K "NoDays")) none H)\/∃ d z,x=.int d/\y=.int z/\(0<=d/\d<=z/\z<=999999)/\(500<b.es.length+1->E (.ref (cA K "TooMany")) none H)/\(b.es.length+1<=500->Q (.int 0) H)))
theorem zlG:zi qbf qbf (zg zdn):=by walk_at "sp"
theorem zno (S:Src K mg "least_once" zdn qbf) (T:Txt K mg) (zc6:Def P w K mg base 2 "is_day" qai (ziR K)) (zag:zaR P w K mg base 4 "check_days" qab (zb0 K)) (zbw:Def P w K mg base 9 "least_paid" qbe (zeN K)):zaR P w K mg base 10 "least_once" qbf (zh4 K):=by
 refine S.zpv zlG (fun vs H Q E h=>?_) (fun f cdv A outer s H vs Q E hr h=>?_)
 ·obtain ⟨a,x,y,A,b,rfl,B,O,h⟩:=h
  rfl
 obtain ⟨a,x,y,A,b,rfl,B,O,h⟩:=h
 refine ⟨_,(zc (zaa (PW.pt (zjg (zeG (PW.pt (zil (zdt (zt zc6 hr (za (pv 1) zb))) (zi6 (zdt (zt zc6 hr (za (pv 2) zb))))))) (zg9 (zz zdq (pv 2) (pv 1) (nomark _)))))
  (zf (zjE (E:=fun C d H'=>Same H H'/\E C d H) T.zcn T.x_NoDays (fun _ _ _ _ _ _ _ I hx hE=>zkX I hx hE) (za zaf zb)))
   zY)
  (zc (zK (zbh (E:=fun C d H'=>Same H H'/\E C d H) zag hr zkF (za (pv 0) (za (zai (za (pv 1) zb)) zb))))
  (zf (zj (zt zbw hr (za (pv 0) (za (zai (za (pv 1) zb)) (za (pv 2) zb)))))))),?_⟩
 rcases h with ⟨⟨⟨T1,k1⟩,⟨T2,k2⟩,hb⟩,hE⟩ | ⟨d,z,rfl,rfl,⟨d0,d1,z1⟩,hE,h⟩
 ·nofun
  refine ⟨_,T1,rfl,k1,?_⟩
  cases e1:zbm x with
  | false =>
   nofun
   first | exact ⟨Same.refl _,hE⟩ | exact hE
  | true =>
   nofun
   refine ⟨_,T2,rfl,k2,?_⟩
   cases e2:zbm y with
   | false =>
    nofun
    first | exact ⟨Same.refl _,hE⟩ | exact hE
   | true =>
    rcases hb with q | q | ⟨d,z,rfl,rfl,lt⟩
    ·exact absurd (e1.symm.trans q) (by decide)
    ·exact absurd (e2.symm.trans q) (by decide)
    nofun
    ·first | exact ⟨Same.refl _,hE⟩ | exact hE
    ·ac_rfl
 nofun
 refine ⟨_, "int", rfl,⟨.int d,by simp[kinds]⟩,?_⟩
 rw[show zbm (.int d)=true by unfold zbm dyB;simp;ac_rfl]
 nofun
 refine ⟨_, "int", rfl,⟨.int z,by simp[kinds]⟩,?_⟩
 rw[show zbm (.int z)=true by unfold zbm dyB;simp;ac_rfl]
 nofun
 ·ac_rfl
 intro p np
 have s1:=ze np (.lst [.int d])
 have e1:=zq (.lst [.int d]) np
 have B1:=B.same s1
 generalize upd H p (.lst [.int d])=H1 at s1 e1 B1 ⊢
 nofun
 refine ⟨a,.ref p,A,b,rfl,B1,O.len,.inr ⟨p,[d],rfl,e1,⟨ycv _,(show 1<=360 by decide),by simp,fun x hx=>by obtain rfl:=ybp.mp hx;ac_rfl⟩,fun q=>⟨s1,hE q⟩,fun q=>?_⟩⟩
 replace h:=h q
 nofun
 intro p2 np2
 have s2:=ze np2 (.lst [.int d])
 nofun
 refine ⟨a,p2,A,b,z,rfl,B1.same s2,O,⟨by ac_rfl,by ac_rfl⟩,?_⟩
 first | exact ⟨s1.trans s2,h⟩ | exact h
def zjA (K:W.Frag):Sp:=fun vs H Q _=>L2.Ee4 fun a b c d=>vs=[a,b,c,d]/\False
theorem zn4:zi qak qak (zg zfc):=by walk_at "sp"
theorem zpp (S:Src K mg "is_fewer" zfc qak) (T:Txt K mg) (zaH:Def P w K mg base 3 "leaves_nothing" qaj (zcK K)) (zaX:Def P w K mg base 9 "is_even_rows" qak (zdj K)):Def P w K mg base 10 "is_fewer" qak (zjA K):=by
 exists S.ok,zn4,0
 all_goals obtain ⟨a,b,c,d,rfl,hf⟩:=h
 ·rfl
 refine ⟨_,(zc (zaa (zz za9 (pv 2) zd (nomark _))
  (zf (zj (zqD (zpY (pv 3)))))
   zY)
  (zf (zj (zhi (zt zaX hr (za (pv 0) (za (pv 1) (za (zk zce (pv 2) zd) (za (pv 3) zb))))) (zhg (zqR (zt zaH hr (za (pv 0) (za (pv 3) zb))))))))),?_⟩
 exact hf.elim
def zh2 (K:W.Frag):Sp:=fun vs H Q E=>L2.Ee4 fun a x A (b:BkT)=>L2.Aa4 (vs=[.ref a,x]) (zW K H a A b) (Tb 0 b) (((zdL K H x/\E (.ref (cA K "NoDays")) none H)\/∃ p ds,x=.ref p/\H p=some (.lst (ds.map V.int))/\zcr ds/\ds.length<=2/\(500<b.es.length+ds.length->E (.ref (cA K "TooMany")) none H)/\(b.es.length+ds.length<=500->∀ t H',Same H H'->Q (.ref t) H')))
theorem zeQ:zi ["book", "days", "amount", "fewer"] qab (zg zdl):=by walk_at "sp"
theorem zmU (S:Src K mg "even_paper" zdl qab) (T:Txt K mg) (zby:zaR P w K mg base 10 "least_even" qab (zeP K)) (zen:Def P w K mg base 9 "even_rows" qac (ziA K)):zaR P w K mg base 11 "even_paper" qab (zh2 K):=by
 exists S.okX,zeQ,0
 all_goals obtain ⟨a,x,A,b,rfl,B,O,h⟩:=h
 ·rfl
 refine ⟨_,(zc (zo (i:=2) zeQ.nd rfl (by walk_at "lc") (zbh (E:=E) zby hr zkF (za (pv 0) (za (pv 1) zb))))
  (zc (zo (i:=3) zeQ.nd rfl (by walk_at "lc") (zmh (zz za9 (pv 2) zd (nomark _)) zdy (zt zen hr (za (pv 0) (za (pv 1) (za (zk zce (pv 2) zd) zb))))))
  (zf (zj (zO (za (pv 2) (za (zt zen hr (za (pv 0) (za (pv 1) (za (pv 2) zb)))) (za (pv 3) zb)))))))),?_⟩
 nofun
 refine ⟨a,x,A,b,rfl,B,O,?_⟩
 rcases h with ⟨hb,hE⟩ | ⟨p,ds,rfl,hp,D,dl,hE,h⟩
 ·exact .inl ⟨hb,hE⟩
 refine .inr ⟨p,ds,rfl,hp,D,dl,hE,fun q=>?_⟩
 replace h:=h q
 nofun
 refine ⟨a,p,A,b,ds,0,rfl,B,O,hp,D,dl,q,fun q1 H1 n1 s1=>?_⟩
 nofun
 intro t nt
 exact h t _ (s1.trans (ze nt _))
def zjz (K:W.Frag):Sp:=fun vs H Q E=>L2.Ee5 fun a x y A (b:BkT)=>L2.Aa4 (vs=[.ref a,x,y]) (zW K H a A b) (Tb 0 b) (((zdL K H x/\E (.ref (cA K "NoDays")) none H)\/∃ p ds,x=.ref p/\H p=some (.lst (ds.map V.int))/\zcr ds/\500<b.es.length+ds.length/\Q (.bl false) H))
theorem zok:zi qbg qbg (zg zfg):=by walk_at "sp"
theorem zoX (S:Src K mg "paper_ok" zfg qbg) (T:Txt K mg) (zag:zaR P w K mg base 4 "check_days" qab (zb0 K)) (zaX:Def P w K mg base 9 "is_even_rows" qak (zdj K)) (zhv:Def P w K mg base 10 "is_fewer" qak (zjA K)) (zaH:Def P w K mg base 3 "leaves_nothing" qaj (zcK K)):zaR P w K mg base 11 "paper_ok" qbg (zjz K):=by
 exists S.okX,zok,0
 all_goals obtain ⟨a,x,y,A,b,rfl,B,O,h⟩:=h
 ·rfl
 refine ⟨_,(zc (zsz (E:=E) [none,none,none] zt0 T.zbI (fun E xe pn px=>(zf (zK (zbh (E:=E) zag hr px (za (pv 0) (za (pv 1) zb)))))) (fun e=>(zf (zj zaT))))
  (zc (zaa (PW.pt (zjg (zz zdq (zr zP (pv 2) zd (fun _ _=>rfl)) zd (nomark _)) (zg9 (zeG (zdt (zt zaX hr (za (pv 0) (za (pv 1) (za (zr zP (pv 2) zd (fun _ _=>rfl)) (za (zr zP (pv 2) zd (fun _ _=>rfl)) zb))))))))))
  (zf (zj zaT))
   zY)
  (zf (zj (zhi (zt zaH hr (za (pv 0) (za (zr zP (pv 2) zd (fun _ _=>rfl)) zb))) (zhg (zt zhv hr (za (pv 0) (za (pv 1) (za (zr zP (pv 2) zd (fun _ _=>rfl)) (za (zr zP (pv 2) zd (fun _ _=>rfl)) zb))))))))))),?_⟩
 nofun
 refine ⟨a,x,A,b,rfl,B,O.len,?_⟩
 rcases h with ⟨hb,hE⟩ | ⟨p,ds,rfl,hp,D,lt,h⟩
 ·exact .inl ⟨hb,_,rfl,.inr ⟨T.eF_NoDays_TooMany,hE⟩⟩
 ·refine .inr ⟨p,ds,rfl,hp,D,fun _=>⟨_,rfl,.inl ⟨T.e_TooMany_TooMany,?_⟩⟩,fun q=>by ac_rfl⟩
  nofun
  exact h
def zii (K:W.Frag):Sp:=fun vs H Q _=>L2.Ee5 fun a x y A (b:BkT)=>L2.Aa4 (vs=[.ref a,x,y]) (zW K H a A b) (Tb 0 b) (((zhq K H x y/\∀ q H',H q=none->Same H H'->H' q=some (.tup [.str "days", .bl true,.bl false])->Q (.ref q) H')\/∃ d z,x=.int d/\y=.int z/\(0<=d/\d<=z/\z<=999999)/\(500<b.es.length+1->∀ q H',H q=none->Same H H'->H' q=some (.tup [.str "many", .bl true,.bl false])->Q (.ref q) H')/\(b.es.length+1<=500->∀ H',Same H H'->Q .non H')))
theorem zcg:zi ["_law_book", "_law_day", "_law_until", "_law_found", "e"] qbk (zg zel):=by walk_at "sp"
theorem zob (S:Src K mg "_law_once" zel qbk) (T:Txt K mg) (zf1:zaR P w K mg base 10 "least_once" qbf (zh4 K)):Def P w K mg base 11 "_law_once" qbk (zii K):=by
 exists S.ok,zcg,0
 all_goals obtain ⟨a,x,y,A,b,rfl,B,O,h⟩:=h
 ·rfl
 refine ⟨_,(zc (zo (i:=3) zcg.nd rfl (by walk_at "lc") zdy)
  (zc (zoA [none,none,none,none,none] zcg.nd (j:=4) rfl rfl T.zcn T.zbI (fun E xe pn px=>(zf (zK (zbh (E:=E) zf1 hr px (za (pv 0) (za (pv 1) (za (pv 2) zb))))))) (fun e=>(zf (zo (i:=3) zcg.nd rfl (by walk_at "lc") (zO (za zaf (za (zy (zbJ K) rfl T.zT PyProof.Rows.boot_isinstance (za (pv 4) (za (zbE (v:=.ref (cA K "LoanError")) rfl T.zb1 rfl) zb))) (za (zy (zbJ K) rfl T.zT PyProof.Rows.boot_isinstance (za (pv 4) (za (zbE (v:=.ref (cA K "TooMany")) rfl T.zbI rfl) zb))) zb))))))) (fun e=>(zf (zo (i:=3) zcg.nd rfl (by walk_at "lc") (zO (za zaf (za (zy (zbJ K) rfl T.zT PyProof.Rows.boot_isinstance (za (pv 4) (za (zbE (v:=.ref (cA K "LoanError")) rfl T.zb1 rfl) zb))) (za (zy (zbJ K) rfl T.zT PyProof.Rows.boot_isinstance (za (pv 4) (za (zbE (v:=.ref (cA K "NoDays")) rfl T.zcn rfl) zb))) zb))))))))
  (zf (zj (pv 3))))),?_⟩
 walk_at "rd1"
 rename_i v2 v1
 refine zoN ?_
 show zM _ _ _ _ _
 refine zoS fun Ex hEx=>?_
 have handD:∀ H2:Hp,Same H H2->(∀ q H',H2 q=none->Same H2 H'->H' q=some (.tup [.str "days", .bl true,.bl false])->Q (.ref q) H')->Ex (.ref (cA K "NoDays")) none H2:=fun H2 s2 hq=>by
  refine hEx _ _ _ ⟨_,rfl,.inl ⟨T.e_NoDays_NoDays,fun e ne=>?_⟩⟩
  have se:=ze ne (zbT e (.ref (cA K "NoDays")))
  have ee:=zq (zbT e (.ref (cA K "NoDays"))) ne
  generalize upd H2 e (zbT e (.ref (cA K "NoDays")))=H3 at se ee ⊢
  have ix:=IsX.o ee
  nofun
  refine ⟨e,_,_,_,rfl,ix,T.z_NoDays,T.k_NoDays_LoanError,?_⟩
  nofun
  refine ⟨e,_,_,_,rfl,ix,T.z_NoDays,T.k_NoDays_TooMany,?_⟩
  nofun
  intro q nq
  show v2 { nx:=fun x H'=>Q V.non H',rt:=Q } _ _
  nofun
  exact hq q _ (zD se nq) (se.trans (ze nq _)) zh
 have handM:∀ H2:Hp,Same H H2->(∀ q H',H2 q=none->Same H2 H'->H' q=some (.tup [.str "many", .bl true,.bl false])->Q (.ref q) H')->Ex (.ref (cA K "TooMany")) none H2:=fun H2 s2 hq=>by
  refine hEx _ _ _ ⟨_,rfl,.inr ⟨T.eF_TooMany_NoDays,T.e_TooMany_TooMany,fun e ne=>?_⟩⟩
  have se:=ze ne (zbT e (.ref (cA K "TooMany")))
  have ee:=zq (zbT e (.ref (cA K "TooMany"))) ne
  generalize upd H2 e (zbT e (.ref (cA K "TooMany")))=H3 at se ee ⊢
  have ix:=IsX.o ee
  nofun
  refine ⟨e,_,_,_,rfl,ix,T.z_TooMany,T.k_TooMany_LoanError,?_⟩
  nofun
  refine ⟨e,_,_,_,rfl,ix,T.z_TooMany,T.k_TooMany_NoDays,?_⟩
  nofun
  intro q nq
  show v2 { nx:=fun x H'=>Q V.non H',rt:=Q } _ _
  nofun
  exact hq q _ (zD se nq) (se.trans (ze nq _)) zh
 nofun
 rcases h with ⟨hb,h⟩ | ⟨d,z,rfl,rfl,hd,hE,h⟩
 ·exact ⟨a,x,y,A,b,rfl,B,O,.inl ⟨hb,handD H (Same.refl _) h⟩⟩
 ·refine ⟨a,_,_,A,b,rfl,B,O,.inr ⟨d,z,rfl,rfl,hd,fun q=>handM H (Same.refl _) (hE q),fun q=>?_⟩⟩
  replace h:=h q
  show v2 { nx:=fun x H'=>Q V.non H',rt:=Q } _ _
  nofun
  exact h _ (Same.refl _)
def zh7 (K:W.Frag):Sp:=fun vs H Q _=>L2.Ee5 fun way a x A (b:BkT)=>L2.Aa5 (vs=[.int way,.ref a,x]) (zW K H a A b) (Tb 0 b) ((0<=way/\way<=4)) (((zdL K H x/\∀ q H',H q=none->Same H H'->H' q=some (.tup [.str "days", .bl true,.bl false])->Q (.ref q) H')\/∃ p ds,x=.ref p/\H p=some (.lst (ds.map V.int))/\zcr ds/\ds.length<=2/\(500<b.es.length+ds.length->way<4->∀ q H',H q=none->Same H H'->H' q=some (.tup [.str "many", .bl true,.bl false])->Q (.ref q) H')/\(500<b.es.length+ds.length->way=4->∀ H',Same H H'->Q (.bl false) H')/\(b.es.length+ds.length<=500->way<4/\∀ H',Same H H'->Q .non H')))
theorem zbe:zi ["_law_way", "_law_book", "_law_days", "_law_found", "e"] qbl (zg zdO):=by walk_at "sp"
theorem znw (S:Src K mg "_law_asked" zdO qbl) (T:Txt K mg) (zan:zaR P w K mg base 8 "with_pays" qac (zcf K)) (zit:zaR P w K mg base 9 "ends_on" qac (zkG K)) (zby:zaR P w K mg base 10 "least_even" qab (zeP K)) (zfr:zaR P w K mg base 11 "even_paper" qab (zh2 K)) (zhP:zaR P w K mg base 11 "paper_ok" qbg (zjz K)):Def P w K mg base 12 "_law_asked" qbl (zh7 K):=by
 exists S.ok,zbe,0
 all_goals obtain ⟨way,a,x,A,b,rfl,B,O,⟨w0,w1⟩,h⟩:=h
 ·rfl
 refine ⟨_,(zc (zo (i:=3) zbe.nd rfl (by walk_at "lc") zdy)
  (zc (zoA [none,none,none,none,none] zbe.nd (j:=4) rfl rfl T.zcn T.zbI (fun E xe pn px=>(zf (zaa (zz za9 (pv 0) zd (nomark _))
  (zf (zK (zbh (E:=E) zan hr px (za (pv 1) (za (pv 2) (za zd zb))))))
  (zf (zaa (zz za9 (pv 0) zd (nomark _))
  (zf (zK (zbh (E:=E) zit hr px (za (pv 1) (za (pv 2) (za zd zb))))))
  (zf (zaa (zz za9 (pv 0) zd (nomark _))
  (zf (zK (zbh (E:=E) zby hr px (za (pv 1) (za (pv 2) zb)))))
  (zf (zaa (zz za9 (pv 0) zd (nomark _))
  (zf (zK (zbh (E:=E) zfr hr px (za (pv 1) (za (pv 2) zb)))))
  (zf (zo (i:=3) zbe.nd rfl (by walk_at "lc") (zbh (E:=E) zhP hr px (za (pv 1) (za (pv 2) (za (zO (za zd (za (zai (za (zO (za zd (za zd (za zd (za zd (za zd (za zd (za zd zb)))))))) zb)) (za zdy zb)))) zb))))))))))))))) (fun e=>(zf (zo (i:=3) zbe.nd rfl (by walk_at "lc") (zO (za zaf (za (zy (zbJ K) rfl T.zT PyProof.Rows.boot_isinstance (za (pv 4) (za (zbE (v:=.ref (cA K "LoanError")) rfl T.zb1 rfl) zb))) (za (zy (zbJ K) rfl T.zT PyProof.Rows.boot_isinstance (za (pv 4) (za (zbE (v:=.ref (cA K "TooMany")) rfl T.zbI rfl) zb))) zb))))))) (fun e=>(zf (zo (i:=3) zbe.nd rfl (by walk_at "lc") (zO (za zaf (za (zy (zbJ K) rfl T.zT PyProof.Rows.boot_isinstance (za (pv 4) (za (zbE (v:=.ref (cA K "LoanError")) rfl T.zb1 rfl) zb))) (za (zy (zbJ K) rfl T.zT PyProof.Rows.boot_isinstance (za (pv 4) (za (zbE (v:=.ref (cA K "NoDays")) rfl T.zcn rfl) zb))) zb))))))))
  (zf (zj (pv 3))))),?_⟩
 walk_at "rd1"
 rename_i v2 v1
 refine zoN ?_
 show zM _ _ _ _ _
 refine zoS fun Ex hEx=>?_
 have handD:∀ H2:Hp,Same H H2->(∀ q H',H2 q=none->Same H2 H'->H' q=some (.tup [.str "days", .bl true,.bl false])->Q (.ref q) H')->Ex (.ref (cA K "NoDays")) none H2:=fun H2 s2 hq=>by
  refine hEx _ _ _ ⟨_,rfl,.inl ⟨T.e_NoDays_NoDays,fun e ne=>?_⟩⟩
  have se:=ze ne (zbT e (.ref (cA K "NoDays")))
  have ee:=zq (zbT e (.ref (cA K "NoDays"))) ne
  generalize upd H2 e (zbT e (.ref (cA K "NoDays")))=H3 at se ee ⊢
  have ix:=IsX.o ee
  nofun
  refine ⟨e,_,_,_,rfl,ix,T.z_NoDays,T.k_NoDays_LoanError,?_⟩
  nofun
  refine ⟨e,_,_,_,rfl,ix,T.z_NoDays,T.k_NoDays_TooMany,?_⟩
  nofun
  intro q nq
  show v2 { nx:=fun x H'=>Q V.non H',rt:=Q } _ _
  nofun
  exact hq q _ (zD se nq) (se.trans (ze nq _)) zh
 have handM:∀ H2:Hp,Same H H2->(∀ q H',H2 q=none->Same H2 H'->H' q=some (.tup [.str "many", .bl true,.bl false])->Q (.ref q) H')->Ex (.ref (cA K "TooMany")) none H2:=fun H2 s2 hq=>by
  refine hEx _ _ _ ⟨_,rfl,.inr ⟨T.eF_TooMany_NoDays,T.e_TooMany_TooMany,fun e ne=>?_⟩⟩
  have se:=ze ne (zbT e (.ref (cA K "TooMany")))
  have ee:=zq (zbT e (.ref (cA K "TooMany"))) ne
  generalize upd H2 e (zbT e (.ref (cA K "TooMany")))=H3 at se ee ⊢
  have ix:=IsX.o ee
  nofun
  refine ⟨e,_,_,_,rfl,ix,T.z_TooMany,T.k_TooMany_LoanError,?_⟩
  nofun
  refine ⟨e,_,_,_,rfl,ix,T.z_TooMany,T.k_TooMany_NoDays,?_⟩
  nofun
  intro q nq
  show v2 { nx:=fun x H'=>Q V.non H',rt:=Q } _ _
  nofun
  exact hq q _ (zD se nq) (se.trans (ze nq _)) zh
 rcases h with ⟨hb,h⟩ | ⟨p,ds,rfl,hp,D,dl,h1,h2,h3⟩
 ·have E0:=handD H (Same.refl _) h
  nofun
  ·exact ⟨a,x,A,b,0,rfl,B,O,.inl ⟨hb,E0⟩⟩
  ·exact ⟨a,x,A,b,5,rfl,B,O,.inl ⟨hb,E0⟩⟩
  ·exact ⟨a,x,A,b,rfl,B,O,.inl ⟨hb,E0⟩⟩
  ·exact ⟨a,x,A,b,rfl,B,O,.inl ⟨hb,E0⟩⟩
  ·have sz:=sizeLine_eq
   intro t1 nt1
   have s1:=ze nt1 (.tup [.int 5,.int 0,.int 0,.int 0,.int 0,.int 0,.int 0])
   generalize upd H t1 (.tup [.int 5,.int 0,.int 0,.int 0,.int 0,.int 0,.int 0])=H1 at s1 ⊢
   nofun
   intro t2 nt2
   have s2:=s1.trans (ze nt2 (.lst [.ref t1]))
   generalize upd H1 t2 (.lst [.ref t1])=H2 at s2 ⊢
   nofun
   intro t3 nt3
   have s3:=s2.trans (ze nt3 (.tup [.int 0,.ref t2,.non]))
   generalize upd H2 t3 (.tup [.int 0,.ref t2,.non])=H3 at s3 ⊢
   nofun
   exact ⟨a,x,_,A,b,rfl,B.same s3,O,.inl ⟨hb.same s3,handD H3 s3 fun q H' nq sq eq=>h q H' (zD s3 nq) (s3.trans sq) eq⟩⟩
 by_cases many:500<b.es.length+ds.length
 ·have E0:way<4->_:=fun q=>handM H (Same.refl _) (h1 many q)
  nofun
  ·exact ⟨a,_,A,b,0,rfl,B,O,.inr ⟨p,ds,rfl,hp,D,dl,fun _=>E0 (by ac_rfl),fun q=>by ac_rfl⟩⟩
  ·exact ⟨a,_,A,b,5,rfl,B,O,.inr ⟨p,ds,rfl,hp,D,dl,fun _=>E0 (by ac_rfl),fun q=>by ac_rfl⟩⟩
  ·exact ⟨a,_,A,b,rfl,B,O,.inr ⟨p,ds,rfl,hp,D,dl,fun _=>E0 (by ac_rfl),fun q=>by ac_rfl⟩⟩
  ·exact ⟨a,_,A,b,rfl,B,O,.inr ⟨p,ds,rfl,hp,D,dl,fun _=>E0 (by ac_rfl),fun q=>by ac_rfl⟩⟩
  ·have sz:=sizeLine_eq
   intro t1 nt1
   have s1:=ze nt1 (.tup [.int 5,.int 0,.int 0,.int 0,.int 0,.int 0,.int 0])
   generalize upd H t1 (.tup [.int 5,.int 0,.int 0,.int 0,.int 0,.int 0,.int 0])=H1 at s1 ⊢
   nofun
   intro t2 nt2
   have s2:=s1.trans (ze nt2 (.lst [.ref t1]))
   generalize upd H1 t2 (.lst [.ref t1])=H2 at s2 ⊢
   nofun
   intro t3 nt3
   have s3:=s2.trans (ze nt3 (.tup [.int 0,.ref t2,.non]))
   generalize upd H2 t3 (.tup [.int 0,.ref t2,.non])=H3 at s3 ⊢
   nofun
   refine ⟨a,_,_,A,b,rfl,B.same s3,O,.inr ⟨p,ds,rfl,s3 _ _ hp,D,many,?_⟩⟩
   show v2 { nx:=fun x H'=>Q V.non H',rt:=Q } _ _
   nofun
   exact h2 many (by ac_rfl) _ s3
 ·obtain ⟨w4,h3⟩:=h3 (by ac_rfl)
  nofun
  ·refine ⟨a,_,A,b,0,rfl,B,O,.inr ⟨p,ds,rfl,hp,D,dl,fun q=>by ac_rfl,fun q a' A' b' H' n' s' B' T'=>?_⟩⟩
   show v2 { nx:=fun x H'=>Q V.non H',rt:=Q } _ _
   nofun
   exact h3 _ s'
  ·refine ⟨a,_,A,b,5,rfl,B,O,.inr ⟨p,ds,rfl,hp,D,dl,fun q=>by ac_rfl,fun q v=>?_⟩⟩
   show v2 { nx:=fun x H'=>Q V.non H',rt:=Q } _ _
   nofun
   exact h3 _ (Same.refl _)
  ·refine ⟨a,_,A,b,rfl,B,O,.inr ⟨p,ds,rfl,hp,D,dl,fun q=>by ac_rfl,fun q=>?_⟩⟩
   show v2 { nx:=fun x H'=>Q V.non H',rt:=Q } _ _
   nofun
   exact h3 _ (Same.refl _)
  ·refine ⟨a,_,A,b,rfl,B,O,.inr ⟨p,ds,rfl,hp,D,dl,fun q=>by ac_rfl,fun q t H' s'=>?_⟩⟩
   show v2 { nx:=fun x H'=>Q V.non H',rt:=Q } _ _
   nofun
   exact h3 _ s'
  ·ac_rfl
noncomputable abbrev dD:PyData:=.tuple [.str "days", .bool true,.bool false]
noncomputable abbrev dM:PyData:=.tuple [.str "many", .bool true,.bool false]
theorem zme {K:W.Frag} {H:Hp} {t:Addr} (h:H t=some (.tup [.str "days", .bl true,.bl false])):RdV K H (.ref t) dD:=.tup (SqT.of h) (.cons (.str _) (.cons (.bl _) (.cons (.bl _) .nil)))
theorem zja {K:W.Frag} {H:Hp} {t:Addr} (h:H t=some (.tup [.str "many", .bl true,.bl false])):RdV K H (.ref t) dM:=.tup (SqT.of h) (.cons (.str _) (.cons (.bl _) (.cons (.bl _) .nil)))
theorem zs0 {K:W.Frag} {H:Hp} {ys:List V} {l:List Nat} (h:LL (fun v _=>∃ t,v=.ref t/\H t=some (.tup [.str "days", .bl true,.bl false])) ys l):zfD K H ys (yam l.length dD):=by
 induction h with
 | nil=>exact .nil
 | cons h _ ih =>
  obtain ⟨t,rfl,e⟩:=h
  exact .cons (zme e) ih
theorem ztK:PyData.eqv dD dD=true:=by simp[PyData.eqv,PyData.eqvAll]
theorem zmZ:PyData.eqv dM dM=true:=by simp[PyData.eqv,PyData.eqvAll]
theorem zqv:SeqAt.shaped dD=true:=by simp[SeqAt.shaped,PyData.canLay0,PyData.canLayAll0,PyData.depth,PyData.depthAll];decide +kernel
theorem zhd:SeqAt.shaped dM=true:=by simp[SeqAt.shaped,PyData.canLay0,PyData.canLayAll0,PyData.depth,PyData.depthAll];decide +kernel
theorem zrU:PyData.eqv .none .none=true:=by simp[PyData.eqv]
theorem zl8:SeqAt.shaped .none=true:=by simp[SeqAt.shaped,PyData.canLay0,PyData.depth]
theorem zrT:PyData.eqv (.int 5) (.int 5)=true:=by simp[PyData.eqv]
theorem zl5:SeqAt.shaped (.int 5)=true:=by simp[SeqAt.shaped,PyData.canLay0,PyData.depth]
theorem ztA:PyData.eqv (.list (yam 5 dD)) (.list (yam 5 dD))=true:=by simp[PyData.eqv,PyData.eqvAll,yam]
theorem zpP:SeqAt.shaped (.list (yam 5 dD))=true:=by simp[yam,SeqAt.shaped,PyData.canLay0,PyData.canLayAll0,PyData.depth,PyData.depthAll];decide +kernel
def zmt (K:W.Frag):Sp:=fun vs H Q _=>∃ (a:Addr) (ns:List Int),vs=[.ref a]/\SqL K H a (ns.map V.int)/\ns.length<=63/\∀ H',Q (.bl true) H'
theorem zbg:zi ["_law_script", "_law_cell", "_law_small", "_law_k", "_law_full", "_law_bad", "_law_day", "_law_until", "_law_book", "_law_found", "_law_way", "_law_first", "_law_days", "_law_due"] qbm (zg zks):=by walk_at "sp"
theorem zut (S:Src K mg "law" zks qbm) (T:Txt K mg) (zaG:Def P w K mg base 1 "_law_cell_at" qav (zgv K)) (zbn:zu P w K mg base 4 (cA K "Book") "__init__" qat (zfK K)) (zeA:zu P w K mg base 1 (cA K "Turn") "__init__" qae (zcT K)) (zdi:Def P w K mg base 2 "_law_bad_days" qao (zfQ K)) (zdM:Def P w K mg base 2 "_law_bad_pair" qao (zf6 K)) (za2:Def P w K mg base 12 "_law_asked" qbl (zh7 K)) (zcP:Def P w K mg base 11 "_law_once" qbk (zii K)) (zcF:zu P w K mg base 2 (cA K "Pay") "__init__" qas (zb7 K)):Def P w K mg base 13 "law" qbm (zmt K):=by
 exists S.ok,zbg,0
 all_goals obtain ⟨a,ns,rfl,hS,hl,h⟩:=h
 ·rfl
 refine ⟨_,(zc (zo (i:=1) zbg.nd rfl (by walk_at "lc") (zt zaG hr (za (pv 0) (za zd zb))))
  (zc (zo (i:=2) zbg.nd rfl (by walk_at "lc") (zbL T.zhc zbn hr T.ziW (za (zoE (T.mk0 .bank) T.zkq) (za zd (za (zaM (ix:=[]) ⟨rfl,by decide +kernel,rfl,by decide +kernel,rfl,(show (["_law_k"]:List Str).Nodup by decide +kernel),by walk_at "cap", by walk_at "sub", by walk_at "has"⟩ (zaU rfl T.zaV (za (zk zal (pv 1) zd) zb)) (fun b=>(zbL T.zi5 zeA hr T.zky (za (zk zal (pv 0) zd) zb)))) zb)))))
  (zc (zo (i:=4) zbg.nd rfl (by walk_at "lc") (zbL T.zhc zbn hr T.ziW (za (zoE (T.mk0 .bank) T.zkq) (za zd (za (zk zpT (zai (za (zbL T.zi5 zeA hr T.zky (za zd zb)) zb)) (zk zQ zd (zk zal (zk zdd (pv 1) zd) zd))) zb)))))
  (zc (zch PassesOwn.never rfl (zaU rfl T.zaV (za zd zb)) (zay (i:=3) zbg.nd rfl (by walk_at "lc"))
  (zc (zo (i:=5) zbg.nd rfl (by walk_at "lc") (zt zdi hr (za (zt zaG hr (za (pv 0) (za (zk zQ zd (pv 3)) zb))) zb)))
  (zc (zpR (zt zdM hr (za (zt zaG hr (za (pv 0) (za (zk zQ zd (pv 3)) zb))) zb)) (ztv rfl (znG (zay (i:=6) zbg.nd rfl (by walk_at "lc")) (znG (zay (i:=7) zbg.nd rfl (by walk_at "lc")) zsn))))
  (zf (zch PassesOwn.never rfl (zV (zai (za (pv 2) (za (pv 4) zb)))) (zay (i:=8) zbg.nd rfl (by walk_at "lc"))
  (zc (zkJ (i:=9) zbg.nd rfl rfl (ix:=[5,8]) ⟨rfl,by decide +kernel,rfl,by decide +kernel,rfl,(show (["_law_way", "_law_bad", "_law_book"]:List Str).Nodup by decide +kernel),by walk_at "cap", by walk_at "sub", by walk_at "has"⟩ (zaU rfl T.zaV (za zd zb)) (fun b=>(zt za2 hr (za (pv 0) (za (pv 2) (za (pv 1) zb))))))
  (zf (zaa (PW.pt (zjg (zz (ziI hr.units) (pv 9) (zk zpT (zai (za (zO (za zaf (za zaT (za zaT zb)))) zb)) zd) (nomark _)) (zg9 (zz (ziI hr.units) (zt zcP hr (za (pv 8) (za (pv 6) (za (pv 7) zb)))) (zO (za zaf (za zaT (za zaT zb)))) (nomark _)))))
  (zf (zj zaT))
   zY))))))))
  (zc (zo (i:=11) zbg.nd rfl (by walk_at "lc") (zk zal (zt zaG hr (za (pv 0) (za zd zb))) zd))
  (zc (zo (i:=12) zbg.nd rfl (by walk_at "lc") (zai (za (pv 11) (za (zk zQ (zk zQ (pv 11) zd) (zk zal (zt zaG hr (za (pv 0) (za zd zb))) zd)) zb))))
  (zc (zch PassesOwn.never rfl (zaU rfl T.zaV (za zd zb)) (zay (i:=10) zbg.nd rfl (by walk_at "lc"))
  (zf (zaa (PW.pt (zjg (zz (ziI hr.units) (zt za2 hr (za (pv 10) (za (pv 4) (za (pv 12) zb)))) (zO (za zaf (za zaT (za zaT zb)))) (nomark _)) (zg9 (ztB (zsR (zt za2 hr (za (pv 10) (za (pv 2) (za (pv 12) zb)))))))))
  (zf (zj zaT))
   zY)))
  (zc (zaa (zz zpS (zt za2 hr (za zd (za (pv 4) (za (pv 12) zb)))) zaT (nomark _))
  (zf (zj zaT))
   zY)
  (zc (zo (i:=13) zbg.nd rfl (by walk_at "lc") (zr zG (zai (za zdy (za (zO (za zaf (za zaT (za zaT zb)))) zb))) (zk zal (zk zdd (pv 1) zd) zd) (fun _ _=>rfl)))
  (zc (zaa (PW.pt (zjg (zz (ziI hr.units) (zt zcP hr (za (pv 4) (za (zr zG (pv 12) zd (fun _ _=>rfl)) (za (zr zG (pv 12) zd (fun _ _=>rfl)) zb)))) (pv 13) (nomark _)) (zg9 (zz (ziI hr.units) (zt za2 hr (za zd (za (pv 4) (za (zfS zhj (pv 12) zha (zhl zd)) zb)))) (pv 13) (nomark _)))))
  (zf (zj zaT))
   zY)
  (zf (zj (zhi (zqD (zpY (zt zcP hr (za (pv 2) (za (zr zG (pv 12) zd (fun _ _=>rfl)) (za (zr zG (pv 12) zd (fun _ _=>rfl)) zb)))))) (zhg (zho (zpN hr.units) (zpW (zbL T.zkz zcF hr T.zl9 (za zd (za zd zb))) rfl) zd (nomark _)))))))))))))))),?_⟩
 have sz:=sizeLine_eq
 nofun
 refine ⟨a,ns,0,rfl,hS,?_⟩
 obtain ⟨c0,ec0⟩:∃ c,c=cellAt ns 0:=⟨_,rfl⟩
 rw[<-ec0]
 nofun
 show ∀ x dx,H x=none->H dx=none->dx≠x->_
 intro c1 dc1 nc1 nd1 ne1
 have s1:Same H (upd (upd H dc1 (.own c1)) c1 (.ins (cA K (Kd.cls .bank)) dc1 [])):=(ze nd1 _).trans (ze (by rw[zp ne1.symm];exact nc1) _)
 have k1:zb9 K (upd (upd H dc1 (.own c1)) c1 (.ins (cA K (Kd.cls .bank)) dc1 [])) c1 .bank:=⟨dc1,zh⟩
 generalize upd (upd H dc1 (.own c1)) c1 (.ins (cA K (Kd.cls .bank)) dc1 [])=H1 at s1 k1 ⊢
 nofun
 obtain ⟨n,en⟩:∃ n,n=(c0 % 4).toNat:=⟨_,rfl⟩
 have n3:n<=3:=by ac_rfl
 rw[<-en]
 intro l1 nl1
 refine zgo nl1 (by ac_rfl) (trn ((yaq n).map fun j:Nat=>(j:Int) % 5)) (by unfold trn;rw[yab,yab,ybo]) (fun H' v e=>∃ a dx,v=.ref a/\zfa K H' a dx e.1 e.2.1 e.2.2) (fun v e H1 H2 s ⟨t,dx,e1,e2⟩=>⟨t,dx,e1,s _ _ e2⟩) (fun v e H1 ys zs hL ⟨t,dx,e1,e2⟩=>⟨t,dx,e1,by rw[zfa,zp (zaw e2 hL (by intro z;cases z))];exact e2⟩) ?_ ?_
 ·rintro i e H' Q' hi he sH hq
  unfold trn at he
  rw[yaf,yaf,ybl hi] at he
  obtain rfl:=Option.some.inj he
  nofun
  intro t dt nt ndt net
  refine ⟨t,_,dt,[],_,rfl,zh,T.clE .turn,T.zb6 .turn,by decide,?_⟩
  rw[zad,ydv]
  have st:Same H' (upd (upd H' dt (.own t)) t (.ins (cA K (Ek.cls .turn)) dt (zhu .turn ((i:Int) % 5) 0))):=(ze ndt _).trans (ze (by rw[zp net.symm];exact nt) _)
  refine ⟨rfl,hq _ _ st ⟨t,dt,rfl,zh⟩⟩
 rintro ys H2 r2 eL hE
 have TS:=zqg n n3
 nofun
 intro a1 da1 na1 nda nea
 have r3:Same H2 (upd (upd H2 da1 (.own a1)) a1 (.ins (cA K "Book") da1 [])):=(ze nda _).trans (ze (by rw[zp nea.symm];exact na1) _)
 refine ⟨a1,da1,c1,l1,.bank,3,ys,_,H2,rfl,zh,⟨na1,r3⟩,k1.same r2,⟨by decide,by decide⟩,SqL.of eL,hE,TS.few (by decide),TS.d0,fun A1 b1 H3 q3 B1 I1 ek1 eg1 ee1=>⟨rfl,?_⟩⟩
 have T1:Tb 0 b1:=TbM.tb (by rw[ee1];exact TS) I1 (by rw[eg1];decide)
 have l1':b1.es.length<=3:=by rw[ee1];unfold trn;rw[yab,yab,ybo];exact n3
 have s3:Same H H3:=s1.trans (r2.trans q3)
 clear TS hE eL r3 nea nda na1 r2 q3 I1 eg1 ee1 ek1 k1
 nofun
 show ∀ x dx,H3 x=none->H3 dx=none->dx≠x->_
 intro c2 dc2 nc2 nd2 ne2
 have r4:Same H3 (upd (upd H3 dc2 (.own c2)) c2 (.ins (cA K (Kd.cls .bank)) dc2 [])):=(ze nd2 _).trans (ze (by rw[zp ne2.symm];exact nc2) _)
 have k2:zb9 K (upd (upd H3 dc2 (.own c2)) c2 (.ins (cA K (Kd.cls .bank)) dc2 [])) c2 .bank:=⟨dc2,zh⟩
 generalize upd (upd H3 dc2 (.own c2)) c2 (.ins (cA K (Kd.cls .bank)) dc2 [])=H4 at r4 k2 ⊢
 nofun
 intro t dt nt ndt net
 refine ⟨t,_,dt,[],_,rfl,zh,T.clE .turn,T.zb6 .turn,by decide,?_⟩
 rw[zad]
 have r5:Same H4 (upd (upd H4 dt (.own t)) t (.ins (cA K "Turn") dt (zaq "day" (.int 5) []))):=(ze ndt _).trans (ze (by rw[zp net.symm];exact nt) _)
 have ht:zfa K (upd (upd H4 dt (.own t)) t (.ins (cA K "Turn") dt (zaq "day" (.int 5) []))) t dt .turn 5 0:=zh
 refine ⟨rfl,?_⟩
 generalize upd (upd H4 dt (.own t)) t (.ins (cA K "Turn") dt (zaq "day" (.int 5) []))=H5 at r5 ht ⊢
 nofun
 intro l2 nl2
 have r6:=ze nl2 (.lst [.ref t])
 have e6:=zq (.lst [.ref t]) nl2
 generalize upd H5 l2 (.lst [.ref t])=H6 at r6 e6 ⊢
 nofun
 obtain ⟨m,em,m0,m1⟩:∃ m:Nat,499+c0 / 4 % 2=(m:Int)/\499<=m/\m<=500:=⟨(499+c0 / 4 % 2).toNat,by ac_rfl,by ac_rfl,by ac_rfl⟩
 dsimp only
 rw[em]
 refine ⟨l2,_,_,rfl,rfl,e6,by ac_rfl,by ac_rfl,by simp;ac_rfl,fun l3 nl3=>?_⟩
 rw[show (yam (m:Int).toNat [V.ref t]).flatten=yam m (V.ref t) by rw[Int.toNat_natCast];simp]
 have r7:=ze nl3 (.lst (yam m (V.ref t)))
 have e7:=zq (.lst (yam m (V.ref t))) nl3
 generalize upd H6 l3 (.lst (yam m (V.ref t)))=H7 at r7 e7 ⊢
 have hE:EL K H7 (yam m (V.ref t)) (trn (yam m 5)):=by
  have ht7:=r7 _ _ (r6 _ _ ht)
  clear em m0 m1 e7 r7 nl3
  induction m with
  | zero=>exact .nil
  | succ m ih=>exact .cons ⟨t,dt,rfl,ht7⟩ ih
 have TF:=zrG m m1
 nofun
 intro a2 da2 na2 nda nea
 have r8:Same H7 (upd (upd H7 da2 (.own a2)) a2 (.ins (cA K "Book") da2 [])):=(ze nda _).trans (ze (by rw[zp nea.symm];exact na2) _)
 refine ⟨a2,da2,c2,l3,.bank,3,_,_,H7,rfl,zh,⟨na2,r8⟩,k2.same (r5.trans (r6.trans r7)),⟨by decide,by decide⟩,SqL.of e7,hE,TF.few (by decide),TF.d0,fun A2 b2 H8 q8 B2 I2 ek2 eg2 ee2=>⟨rfl,?_⟩⟩
 have T2:Tb 0 b2:=TbM.tb (by rw[ee2];exact TF) I2 (by rw[eg2];decide)
 have l2':b2.es.length=m:=by rw[ee2];unfold trn;rw[yab,ycj]
 have s38:=r4.trans (r5.trans (r6.trans (r7.trans q8)))
 have s8:Same H H8:=s3.trans s38
 have B1':=B1.same s38
 clear TF hE r8 nea nda na2 r4 r5 r6 r7 q8 I2 eg2 ee2 ek2 k2 s38 B1 s3 s1 e7 e6 ht
 nofun
 refine zgc (fun i σ H'=>L2.Ee6 fun (z3 z5 z6 z7 z8 z9:Option V)=>Same H8 H'/\σ=[some (.ref a),some (.int c0),some (.ref a1),z3,some (.ref a2),z5,z6,z7,z8,z9,none,none,none,none]) ⟨_,_,_,_,_,_,Same.refl _,rfl⟩ ?_ ?_
 ·rintro i σ H9 hi ⟨z3,z5,z6,z7,z8,z9,r9,rfl⟩
  nofun
  refine ⟨a,ns,1+i,(by show [V.ref a,V.int (1+(0+(i:Int)))]=[V.ref a,V.int ((1+i:Nat):Int)];rw[show (1:Int)+(0+(i:Int))=((1+i:Nat):Int) by ac_rfl]),(s8.trans r9).seq hS,?_⟩
  nofun
  intro x Hx sx hb
  nofun
  refine ⟨a,ns,5+i,(by show [V.ref a,V.int (5+(0+(i:Int)))]=[V.ref a,V.int ((5+i:Nat):Int)];rw[show (5:Int)+(0+(i:Int))=((5+i:Nat):Int) by ac_rfl]),(s8.trans (r9.trans sx)).seq hS,?_⟩
  nofun
  intro q y1 y2 Hy sy eq hp
  refine ⟨q,_,rfl,SqT.of eq,?_⟩
  have hb2:=hb.same sy
  have ry:=r9.trans (sx.trans sy)
  clear hb eq sx sy r9
  nofun
  intro lq nlq
  have rl:=ze nlq (.lst [.ref a1,.ref a2])
  have el:=zq (.lst [.ref a1,.ref a2]) nlq
  have hb3:=hb2.same rl
  have hp3:=hp.same rl
  have rL:=ry.trans rl
  generalize upd Hy lq (.lst [.ref a1,.ref a2])=HL at rl el hb3 hp3 rL ⊢
  clear hb2 hp ry rl nlq
  refine ⟨lq,rfl,⟨_,SqL.of el⟩,zcY (xs:=[.ref a1,.ref a2]) (fun j σ H'=>∃ z8 z9:Option V,Same HL H'/\σ=[some (.ref a),some (.int c0),some (.ref a1),some (.int (0+(i:Int))),some (.ref a2),some x,some y1,some y2,z8,z9,none,none,none,none]) ⟨_,_,Same.refl _,rfl⟩ ?_ ?_ ?_⟩
  ·rintro j σ H' _ ⟨_,_,sH,_⟩
   exact SqL.of (sH _ _ el)
  ·rintro j v σ Hj hv ⟨z8,z9,sj,rfl⟩
   obtain ⟨aa,AA,bb,rfl,BB,TT⟩:∃ aa AA bb,v=.ref aa/\zW K Hj aa AA bb/\Tb 0 bb:=by
    match j,hv with
    | 0,hv=>cases hv;exact ⟨a1,A1,b1,rfl,B1'.same (rL.trans sj),T1⟩
    | 1,hv=>cases hv;exact ⟨a2,A2,b2,rfl,B2.same (rL.trans sj),T2⟩
    | j+2,hv=>simp at hv
   nofun
   intro lf nlf
   refine zgo nlf (by rw[sz];decide) (yaq 5) (by simp) (fun H' v _=>∃ t,v=.ref t/\H' t=some (.tup [.str "days", .bl true,.bl false])) (fun v e H1 H2 s ⟨t,e1,e2⟩=>⟨t,e1,s _ _ e2⟩) (fun v e H1 ys zs hL ⟨t,e1,e2⟩=>⟨t,e1,by rw[zp (zaw e2 hL (by intro z;cases z))];exact e2⟩) ?_ ?_
   ·rintro k e H' Q' hk _ sH hq
    nofun
    refine ⟨_,aa,x,AA,bb,rfl,BB.same sH,TT,⟨by ac_rfl,by ac_rfl⟩,.inl ⟨(hb3.same sj).same sH,fun q H2 nq s2 e2=>?_⟩⟩
    exact hq _ _ s2 ⟨q,rfl,e2⟩
   rintro ys H1 sF eF hF
   nofun
   intro p1 np1
   have f2:=ze np1 (.tup [.str "days", .bl true,.bl false])
   have g2:=zq (.tup [.str "days", .bl true,.bl false]) np1
   generalize upd H1 p1 (.tup [.str "days", .bl true,.bl false])=H2 at f2 g2 ⊢
   nofun
   intro p2 np2
   have f3:=ze np2 (.lst [.ref p1])
   have g3:=zq (.lst [.ref p1]) np2
   generalize upd H2 p2 (.lst [.ref p1])=H3' at f3 g3 ⊢
   nofun
   refine ⟨p2,5,_,rfl,rfl,g3,by decide,by decide,by rw[sz];show 1*5<=16777216;decide,fun p3 np3=>?_⟩
   have f4:=ze np3 (.lst (yam (5:Int).toNat [V.ref p1]).flatten)
   have g4:=zq (.lst (yam (5:Int).toNat [V.ref p1]).flatten) np3
   generalize upd H3' p3 (.lst (yam (5:Int).toNat [V.ref p1]).flatten)=H4' at f4 g4 ⊢
   have f14:=f2.trans (f3.trans f4)
   have w1:=zme (K:=K) (f4 _ _ (f3 _ _ g2))
   have h5:RdV K H4' (.ref p3) (.list (yam 5 dD)):=.lst (SqL.of g4) (.cons w1 (.cons w1 (.cons w1 (.cons w1 (.cons w1 .nil)))))
   have hF':LL (fun v _=>∃ t,v=.ref t/\H4' t=some (.tup [.str "days", .bl true,.bl false])) ys (yaq 5):=hF.imp fun v _ ⟨t,e1,e2⟩=>⟨t,e1,f14 _ _ e2⟩
   refine ⟨.list (yam 5 dD),.list (yam 5 dD),.lst (SqL.of (f14 _ _ eF)) (zs0 hF'),h5,zpP,zpP,?_⟩
   rw[ztA]
   have sj4:=sj.trans (sF.trans f14)
   clear h5 hF' w1 g4 g3 g2 hF f2 f3 f4
   nofun
   refine ⟨aa,y1,y2,AA,bb,rfl,BB.same (sF.trans f14),TT,.inl ⟨hp3.same sj4,fun q5 H5' nq5 f5 g5=>?_⟩⟩
   nofun
   intro p6 np6
   have f6:=ze np6 (.tup [.str "days", .bl true,.bl false])
   refine ⟨dD,dD,zme (f6 _ _ g5),zme zh,zqv,zqv,?_⟩
   rw[ztK]
   nofun
   exact ⟨_,_,sj4.trans (f5.trans f6),rfl⟩
  ·rintro σ Hz ⟨z8,z9,sz',rfl⟩
   exact ⟨_,_,_,_,_,_,rL.trans sz',rfl⟩
 rintro σ H9 ⟨z3,z5,z6,z7,z8,z9,r9,rfl⟩
 nofun
 refine ⟨a,ns,9,rfl,(s8.trans r9).seq hS,?_⟩
 nofun
 obtain ⟨d0,ed0,d00,d01⟩:∃ d,d=cellAt ns 9 % 1000/\0<=d/\d<1000:=⟨_,rfl,by ac_rfl,by ac_rfl⟩
 dsimp only
 rw[<-ed0]
 refine ⟨a,ns,10,rfl,(s8.trans r9).seq hS,?_⟩
 nofun
 obtain ⟨d1,ed1,d10,d11⟩:∃ d,d=d0+1+cellAt ns 10 % 90/\d0<d/\d<1100:=⟨_,rfl,by ac_rfl,by ac_rfl⟩
 dsimp only
 rw[<-ed1]
 intro ld nld
 have rd:=r9.trans (ze nld (.lst [.int d0,.int d1]))
 have ed:=zq (.lst [.int d0,.int d1]) nld
 generalize upd H9 ld (.lst [.int d0,.int d1])=HD at rd ed ⊢
 have DD:zcr [d0,d1]:=⟨by simp,by simp,by simp;ac_rfl,fun d hd=>by simp at hd;ac_rfl⟩
 have D1:zcr [d0]:=⟨by simp,by simp,by simp,fun d hd=>by simp at hd;ac_rfl⟩
 have BB1:=B1'.same rd
 have BB2:=B2.same rd
 clear B1' B2 r9 ed0 ed1 nld
 nofun
 refine zgc (fun i σ H'=>∃ z10:Option V,Same HD H'/\σ=[some (.ref a),some (.int c0),some (.ref a1),z3,some (.ref a2),z5,z6,z7,z8,z9,z10,some (.int d0),some (.ref ld),none]) ⟨_,Same.refl _,rfl⟩ ?_ ?_
 ·rintro i σ H1 hi ⟨z10,r1,rfl⟩
  have i4:(i:Int)<4:=by ac_rfl
  nofun
  refine ⟨_,a2,_,A2,b2,rfl,BB2.same r1,T2,⟨by ac_rfl,by ac_rfl⟩,.inr ⟨ld,[d0,d1],rfl,r1 _ _ ed,DD,ycv 2,fun _ _ q2 H2 nq2 r2 e2=>?_,fun _ q=>by ac_rfl,fun q=>by rw[l2'] at q;simp at q;ac_rfl⟩⟩
  nofun
  intro p3 np3
  have r3:=ze np3 (.tup [.str "many", .bl true,.bl false])
  refine ⟨dM,dM,zja (r3 _ _ e2),zja zh,zhd,zhd,?_⟩
  have r13:=r1.trans (r2.trans r3)
  rw[zmZ]
  nofun
  refine ⟨_,a1,_,A1,b1,rfl,BB1.same r13,T1,⟨by ac_rfl,by ac_rfl⟩,.inr ⟨ld,[d0,d1],rfl,r13 _ _ ed,DD,ycv 2,fun q=>by simp at q;ac_rfl,fun q=>by simp at q;ac_rfl,fun _=>⟨by ac_rfl,fun H4 r4=>?_⟩⟩⟩
  nofun
  ·rename_i z
   exact absurd rfl z
  ·exact ⟨_,r13.trans r4,rfl⟩
 rintro σ H1 ⟨z10,r1,rfl⟩
 nofun
 refine ⟨4,a2,_,A2,b2,rfl,BB2.same r1,T2,⟨by decide,by decide⟩,.inr ⟨ld,[d0,d1],rfl,r1 _ _ ed,DD,ycv 2,fun _ q=>by ac_rfl,fun _ _ H2 r2=>?_,fun q=>by rw[l2'] at q;simp at q;ac_rfl⟩⟩
 nofun
 have r2':=r1.trans r2
 intro tm ntm
 have r3:=ze ntm (.tup [.str "many", .bl true,.bl false])
 have e3:=zq (.tup [.str "many", .bl true,.bl false]) ntm
 generalize upd H2 tm (.tup [.str "many", .bl true,.bl false])=H3 at r3 e3 ⊢
 nofun
 intro lm nlm
 have r4:=ze nlm (.lst [.non,.ref tm])
 have e4:=zq (.lst [.non,.ref tm]) nlm
 generalize upd H3 lm (.lst [.non,.ref tm])=H4 at r4 e4 ⊢
 have e34:=r4 _ _ e3
 have r44:=r2'.trans (r3.trans r4)
 have ed4:=r44 _ _ ed
 have BB4:=BB2.same r44
 have BA4:=BB1.same r44
 clear r1 r2 r3 r4 r2' e3 ntm nlm BB1 BB2 ed
 nofun
 obtain ⟨g,eg,g0⟩:∃ g:Nat,c0 / 4 % 2=(g:Int)/\m=499+g:=⟨(c0 / 4 % 2).toNat,by ac_rfl,by ac_rfl⟩
 dsimp only
 rw[eg]
 have g1:g=0\/g=1:=by ac_rfl
 obtain ⟨dv,edv,hdv⟩:∃ dv:V,atI ([.non,.ref tm]:List V) (g:Int)=some dv/\((g=0/\dv=.non)\/(g=1/\dv=.ref tm)):=by
  rcases g1 with rfl | rfl
  ·exact ⟨.non,rfl,.inl ⟨rfl,rfl⟩⟩
  ·exact ⟨.ref tm,rfl,.inr ⟨rfl,rfl⟩⟩
 refine ⟨lm,_,_,_,rfl,rfl,SqL.of e4,edv,?_⟩
 nofun
 refine ⟨ld,_,_,_,rfl,rfl,SqL.of ed4,(show atI [V.int d0,.int d1] 0=some (.int d0) from rfl),?_⟩
 nofun
 refine ⟨ld,_,_,_,rfl,rfl,SqL.of ed4,(show atI [V.int d0,.int d1] 1=some (.int d1) from rfl),?_⟩
 nofun
 rcases hdv with ⟨rfl,rfl⟩ | ⟨rfl,rfl⟩
 ·refine ⟨a2,_,_,A2,b2,rfl,BB4,T2,.inr ⟨d0,d1,rfl,rfl,⟨by ac_rfl,by ac_rfl,by ac_rfl⟩,fun q=>by ac_rfl,fun q H5 r5=>?_⟩⟩
  nofun
  refine ⟨.none,.none,.non,.non,zl8,zl8,?_⟩
  rw[zrU]
  nofun
  refine ⟨ld,_,rfl,SqL.of (r5 _ _ ed4),fun l6 nl6=>?_⟩
  rw[show zdQ [V.int d0,.int d1] none (some 1)=[V.int d0] from rfl]
  have r6:=r5.trans (ze nl6 (.lst [.int d0]))
  have e6:=zq (.lst [.int d0]) nl6
  generalize upd H5 l6 (.lst [.int d0])=H6 at r6 e6 ⊢
  nofun
  refine ⟨0,a2,_,A2,b2,rfl,BB4.same r6,T2,⟨by decide,by decide⟩,.inr ⟨l6,[d0],rfl,e6,D1,(show 1<=2 by decide),fun q=>by simp at q;ac_rfl,fun q=>by simp at q;ac_rfl,fun q=>⟨by decide,fun H7 r7=>?_⟩⟩⟩
  nofun
  refine ⟨.none,.none,.non,.non,zl8,zl8,?_⟩
  rw[zrU]
  have r67:=r6.trans r7
  have ed7:=r67 _ _ ed4
  have BA7:=BA4.same r67
  clear r5 r6 r7 e6 nl6
  nofun
  refine ⟨ld,_,_,_,rfl,rfl,SqL.of ed7,(show atI [V.int d0,.int d1] 0=some (.int d0) from rfl),?_⟩
  nofun
  refine ⟨ld,_,_,_,rfl,rfl,SqL.of ed7,(show atI [V.int d0,.int d1] 0=some (.int d0) from rfl),?_⟩
  nofun
  refine ⟨a1,_,_,A1,b1,rfl,BA7,T1,.inr ⟨d0,d0,rfl,rfl,⟨by ac_rfl,by ac_rfl,by ac_rfl⟩,fun q=>by ac_rfl,fun q H8 r8=>?_⟩⟩
  nofun
  ·nofun
   intro tp dp np ndp nep
   refine ⟨tp,_,dp,5,5,rfl,zh,T.clE .pay,T.zb6 .pay,T.zcz .pay,rfl,?_⟩
   rw[zad]
   refine ⟨tp,_,dp,_,_,rfl,zh,T.clE .pay,T.zcz .pay,(show ybx ("amount" : Str) (zhu .pay 5 5)=some (V.int 5) from rfl),?_⟩
   nofun
   refine ⟨.int 5,.int 5,.int _,.int _,zl5,zl5,?_⟩
   rw[zrT]
   exact h _
  ·rename_i z
   exact absurd rfl z
 ·refine ⟨a2,_,_,A2,b2,rfl,BB4,T2,.inr ⟨d0,d1,rfl,rfl,⟨by ac_rfl,by ac_rfl,by ac_rfl⟩,fun q q5 H5 nq5 r5 e5=>?_,fun q=>by ac_rfl⟩⟩
  nofun
  refine ⟨dM,dM,zja e5,zja (r5 _ _ e34),zhd,zhd,?_⟩
  rw[zmZ]
  nofun
  refine ⟨ld,_,rfl,SqL.of (r5 _ _ ed4),fun l6 nl6=>?_⟩
  rw[show zdQ [V.int d0,.int d1] none (some 1)=[V.int d0] from rfl]
  have r6:=r5.trans (ze nl6 (.lst [.int d0]))
  have e6:=zq (.lst [.int d0]) nl6
  generalize upd H5 l6 (.lst [.int d0])=H6 at r6 e6 ⊢
  nofun
  refine ⟨0,a2,_,A2,b2,rfl,BB4.same r6,T2,⟨by decide,by decide⟩,.inr ⟨l6,[d0],rfl,e6,D1,(show 1<=2 by decide),fun _ _ q7 H7 nq7 r7 e7=>?_,fun _ q=>by ac_rfl,fun q=>by simp at q;ac_rfl⟩⟩
  nofun
  have r67:=r6.trans r7
  refine ⟨dM,dM,zja e7,zja (r67 _ _ e34),zhd,zhd,?_⟩
  rw[zmZ]
  have ed7:=r67 _ _ ed4
  have BA7:=BA4.same r67
  clear r5 r6 r7 e6 nl6
  nofun
  refine ⟨ld,_,_,_,rfl,rfl,SqL.of ed7,(show atI [V.int d0,.int d1] 0=some (.int d0) from rfl),?_⟩
  nofun
  refine ⟨ld,_,_,_,rfl,rfl,SqL.of ed7,(show atI [V.int d0,.int d1] 0=some (.int d0) from rfl),?_⟩
  nofun
  refine ⟨a1,_,_,A1,b1,rfl,BA7,T1,.inr ⟨d0,d0,rfl,rfl,⟨by ac_rfl,by ac_rfl,by ac_rfl⟩,fun q=>by ac_rfl,fun q H8 r8=>?_⟩⟩
  nofun
  ·nofun
   intro tp dp np ndp nep
   refine ⟨tp,_,dp,5,5,rfl,zh,T.clE .pay,T.zb6 .pay,T.zcz .pay,rfl,?_⟩
   rw[zad]
   refine ⟨tp,_,dp,_,_,rfl,zh,T.clE .pay,T.zcz .pay,(show ybx ("amount" : Str) (zhu .pay 5 5)=some (V.int 5) from rfl),?_⟩
   nofun
   refine ⟨.int 5,.int 5,.int _,.int _,zl5,zl5,?_⟩
   rw[zrT]
   exact h _
  ·rename_i z
   exact absurd rfl z
end
theorem ztl {K:W.Frag} {mg:Str->Option Value} (T:Txt K mg) (zhI:Src K mg "table_of" zfe qal) (zla:Src K mg "begun" zjj qaq) (zed:Src K mg "running_sums" zcG qam) (zjP:Src K mg "joined" zhJ ["spans"]) (zhD:Src K mg "is_whole" zff qai) (zjY:Src K mg "summed" zhL qal) (zdU:Src K mg "_law_cell_at" zcH qav) (zfZ:Src K mg "_law_draws" zdo qaw) (zhQ:Src K mg "value_at" zfl qbh) (zgO:Src K mg "late_sums" zez qah) (zlg:Src K mg "moved" zi4 qan) (zd6:Src K mg "turning_days" zcI qah) (zfW:Src K mg "deeds_upto" zdr qab) (zjV:Src K mg "is_day" zht qai) (zgM:Src K mg "is_within" zei qax) (zj3:Src K mg "sum_by" zhT qaf) (zie:Src K mg "days_of" zgd qaf) (zfJ:Src K mg "rate_table" zdN qaf) (zeY:Src K mg "still_spans" zcW qbi) (zdG:Src K mg "_law_bad_days" zca qao) (zdf:Src K mg "_law_bad_pair" zb8 qao) (zjS:Src K mg "stands" zhz qan) (zfs:Src K mg "charged_by" zdp qbj) (zeW:Src K mg "check_terms" zcQ qay) (ze4:Src K mg "fallen_dues" zcV qaz) (zhU:Src K mg "are_days" zfj qba) (zc0:Src K mg "leaves_nothing" zbU qaj) (ziZ:Src K mg "burdens" zga qah) (zhs:Src K mg "do_deeds" zfm qbb) (zfv:Src K mg "check_days" zdP qab) (zir:Src K mg "as_pays" zgb qam) (zeb:Src K mg "debts_behind" zcD qaj) (ze2:Src K mg "accounts_at" zcR qab) (zg6:Src K mg "statement" zeD qag) (zik:Src K mg "account" zgk qag) (ziB:Src K mg "paid_on" zge qac) (zd7:Src K mg "statement_ok" zcE qbd) (znF:Src K mg "owed" zku qag) (zgZ:Src K mg "with_pays" zeE qac) (zic:Src K mg "ends_on" zgq qac) (zfu:Src K mg "least_paid" zdI qbe) (zg3:Src K mg "even_rows" zej qac) (zdR:Src K mg "is_even_rows" zcw qak) (zfx:Src K mg "least_even" zdk qab) (zfE:Src K mg "least_once" zdn qbf) (zhO:Src K mg "is_fewer" zfc qak) (zft:Src K mg "even_paper" zdl qab) (zhF:Src K mg "paper_ok" zfg qbg) (zgA:Src K mg "_law_once" zel qbk) (zf2:Src K mg "_law_asked" zdO qbl) (zmd:Src K mg "law" zks qbm) (zfC:zv K (cA K (Ek.cls .pay)) "word" "Pay.word" zfi qaa) (zeS:zv K (cA K (Ek.cls .turn)) "word" "Turn.word" zem qaa) (zeK:zv K (cA K (Ek.cls .base)) "word" "Entry.word" zdm qaa) (zhx:zv K (cA K "Pay") "__init__" "AmountEntry.__init__" zbk qas) (zg4:zv K (cA K "Turn") "__init__" "Entry.__init__" za4 qae) (zdT:zmM K (cA K "Entry") "__init__" "Entry.__init__" za4 qae) (zg1:zv K (cA K "Debt") "grow" "Debt.grow" zeo qau) (zgU:zv K (cA K "Debt") "__init__" "Debt.__init__" zey qar) (zg2:zv K (cA K "Debt") "owed" "Debt.owed" zeF qaa) (zc3:zv K (cA K "Debt") "principal" "Debt.principal" zbQ qaa) (zfA:zv K (cA K "Debt") "units" "Debt.units" zdC qaa) (zfL:zv K (cA K "Book") "count" "Book.count" zds qaa) (zc1:zv K (cA K "Book") "deed_days" "Book.deed_days" zbX qaa) (zgL:zv K (cA K "Book") "dues" "Book.dues" zek qaa) (zeg:zv K (cA K "Book") "entries" "Book.entries" zcq qaa) (zgI:zv K (cA K "Book") "fees" "Book.fees" zeC qaa) (zfR:zv K (cA K "Book") "grace" "Book.grace" zdB qaa) (zfX:zv K (cA K "Book") "lates" "Book.lates" zdJ qaa) (zgy:zv K (cA K "Book") "outs" "Book.outs" zer qaa) (zg0:zv K (cA K "Book") "pays" "Book.pays" zew qaa) (zfy:zv K (cA K "Book") "rates" "Book.rates" zdH qaa) (ze0:zv K (cA K "Book") "stills" "Book.stills" zcS qaa) (zfT:zv K (cA K "Book") "turns" "Book.turns" zdF qaa) (zcZ:zv K (cA K "Debt") "add_cents" "Debt.add_cents" zbS qad) (zg5:zv K (cA K "Debt") "turn" "Debt.turn" zet qaa) (zgV:zv K (cA K "Debt") "copy" "Debt.copy" zeq qaa) (zhB:zv K (cA K "Debt") "fee" "Debt.fee" zfb qad) (zgF:zv K (cA K "Debt") "lend" "Debt.lend" zeB qad) (zgY:zv K (cA K "Debt") "take" "Debt.take" zex qad) (zgT:zv K (cA K "Book") "__init__" "Book.__init__" zes qat) (zc4:zv K (cA K "Book") "with_more" "Book.with_more" zbW qbc) (zfP:zv K (cA K (Kd.cls .plain)) "year" "Count.year" zdA qaa) (zgR:zv K (cA K (Kd.cls .bank)) "year" "Bank.year" zeu qaa) (zf0:zv K (cA K (Kd.cls .plain)) "unit" "Count.unit" zbF qaa) (zgW:zv K (cA K (Kd.cls .bank)) "unit" "Count.unit" zbF qaa) (zfH:zv K (cA K (Kd.cls .plain)) "upto" "Count.upto" zbC qae) (zgQ:zv K (cA K (Kd.cls .bank)) "upto" "Count.upto" zbC qae) (zdV:zv K (cA K (Kd.cls .plain)) "weight" "Count.weight" zaZ qap) (zeL:zv K (cA K (Kd.cls .bank)) "weight" "Count.weight" zaZ qap) {P:Program} {w:World} {base:Heap}:Def P w K mg base 13 "law" qbm (zmt K):=by
 have zhX:=zoW (P:=P) (w:=w) (base:=base) zhI T
 have zcJ:=zsN (P:=P) (w:=w) (base:=base) zla T
 have zaY:=zlf (P:=P) (w:=w) (base:=base) zed T
 have zgD:=znU (P:=P) (w:=w) (base:=base) zg1 T
 have zb5:=znX (P:=P) (w:=w) (base:=base) zgU T
 have zap:=znP (P:=P) (w:=w) (base:=base) zg2 T
 have zaI:=zjW (P:=P) (w:=w) (base:=base) zc3 T
 have zfN:=znv (P:=P) (w:=w) (base:=base) zfA T
 have zjN:=zrv (P:=P) (w:=w) (base:=base) zjP T
 have zct:=zoZ (P:=P) (w:=w) (base:=base) zhD T
 have zfF:∀ kd:Kd,zu P w K mg base 1 (cA K kd.cls) "upto" qae (zi0 kd K):=fun kd=>by
  cases kd
  ·exact ziL .plain (by simp) zfH T
  ·exact ziL .bank (by simp) zgQ T
 have zhV:∀ kd:Kd,zu P w K mg base 1 (cA K kd.cls) "year" qaa (zgs kd K):=fun kd=>by
  cases kd
  ·exact zm0 .plain (by simp) zfP T
  ·exact znQ .bank (by simp) zgR T
 have zd5:=zlU (P:=P) (w:=w) (base:=base) zdT T
 have zeA:=znH (P:=P) (w:=w) (base:=base) "Turn" zg4 T
 have zaN:∀ k:Ek,zu P w K mg base 1 (cA K k.cls) "word" qaa (zbH k K):=fun k=>by
  cases k
  ·exact zpr .pay (by simp) zfC T
  ·exact znT .turn (by simp) zeS T
  ·exact znp .base (by simp) zeK T
 have zdZ:=zq1 (P:=P) (w:=w) (base:=base) zjY T
 have za7:=zmA (P:=P) (w:=w) (base:=base) zfL T
 have zc8:=zjT (P:=P) (w:=w) (base:=base) zc1 T
 have zb4:=zoh (P:=P) (w:=w) (base:=base) zgL T
 have zdS:=zkP (P:=P) (w:=w) (base:=base) zeg T
 have zgX:=zog (P:=P) (w:=w) (base:=base) zgI T
 have zbA:=znc (P:=P) (w:=w) (base:=base) zfR T
 have zbG:=zmr (P:=P) (w:=w) (base:=base) zfX T
 have zgE:=zol (P:=P) (w:=w) (base:=base) zgy T
 have zaK:=zoo (P:=P) (w:=w) (base:=base) zg0 T
 have zbD:=zm5 (P:=P) (w:=w) (base:=base) zfy T
 have zbd:=zlR (P:=P) (w:=w) (base:=base) ze0 T
 have zf5:=zmn (P:=P) (w:=w) (base:=base) zfT T
 have zaG:=zk4 (P:=P) (w:=w) (base:=base) zdU T
 have zbx:=zna (P:=P) (w:=w) (base:=base) zfZ T
 have zcy:=zpa zhQ T zcJ
 have zgN:=zn5 zgO T zaY zb4 zbA
 have zae:=zjF zcZ T zap
 have zgP:=znN zg5 T zap
 have zfo:=zsD zlg T zcJ
 have zd2:=zle zd6 T zbD zbG zaK zb4 zbA zbd
 have zbv:=zmV zfW T zgE zgX zf5 zaK zc8
 have zc6:=zqU zjV T zct
 have zd9:∀ kd:Kd,zu P w K mg base 2 (cA K kd.cls) "unit" qaa (zgw kd K):=fun kd=>by
  cases kd
  ·exact zis .plain (by simp) zf0 T zhV
  ·exact zis .bank (by simp) zgW T zhV
 have zhE:∀ kd:Kd,zu P w K mg base 2 (cA K kd.cls) "weight" qap (zgS kd K):=fun kd=>by
  cases kd
  ·exact zhf .plain (by simp) zdV T zfF
  ·exact zhf .bank (by simp) zeL T zfF
 have zcF:=zib "Pay" zhx T zd5
 have zgx:=zoc zgM T zct
 have zcm:=zq6 zj3 T zdZ zaN
 have zid:=zqz zie T zaN
 have zdz:=zmI zfJ T zhX zaN
 have ze5:=zlY zeY T zaN zjN
 have zdi:=zkn zdG T zbx
 have zdM:=zko zdf T zbx
 have zgz:=zn3 zgV T zb5
 have zhZ:=zps zhB T zae
 have zgK:=znZ zgF T zae
 have zgJ:=znR zgY T zae
 have zjU:=zq7 zjS T zfo
 have zfV:=znB zfs T zcJ zhE
 have zeX:=zlV zeW T zgx
 have zeZ:=zlL ze4 T zdZ zcm zfo
 have zhy:=zpf zhU T zc6
 have zaH:=zjK zc0 T zd9 za7
 have ziP:=zqG ziZ T zbd zbD zbG zgN zaY zaK zd2 zjU zcy
 have zh0:=zpi zhs T zgK zhZ zgP zgJ
 have zbn:=zon zgT T zeX zcm zid zdz ze5 zeZ
 have zag:=znn zfv T zhy zdS
 have ziK:=zqh zir T zcF
 have zaW:=zlc zeb T ziP zb5 zd9 za7 zgD zfV zaI zh0 zgz
 have zbb:=zlS ze2 T zbv zaW
 have zc7:=zjI zc4 T zbn
 have zb2:=znW zg6 T zbv zaW zfN zaI
 have ziQ:=zpJ zik T zbb
 have zck:=zpO ziB T zc7 ziK
 have zee:=zkR zd7 T zb2
 have ziD:=ztO znF T zap ziQ
 have zan:=znL zgZ T zag zck
 have zit:=zqf zic T zbb zan zap
 have zbw:=znJ zfu T ziD zck
 have zen:=zoe zg3 T zb2 zan
 have zaX:=zkV zdR T zee zan
 have zby:=zmC zfx T zag zbw
 have zf1:=zno zfE T zc6 zag zbw
 have zhv:=zpp zhO T zaH zaX
 have zfr:=zmU zft T zby zen
 have zhP:=zoX zhF T zag zaX zhv zaH
 have zcP:=zob zgA T zf1
 have za2:=znw zf2 T zan zit zby zfr zhP
 have zug:=zut zmd T zaG zbn zeA zdi zdM za2 zcP zcF
 exact zug
end My
local macro_rules | `(tactic| walk_at "m")=>do
 let [i,f,k,l,c,b]:=[`i,`f,`k,`l,`c,`b].map Lean.mkIdent | unreachable!
 `(tactic| ((case $i:ident=>k_is);(case $f:ident=>k_is);(case $k:ident=>k_is);(case $l:ident=>k_is);(case $c:ident=>k_is);(case $b:ident=>walk_at "s1")))
local macro_rules | `(tactic| walk_at "n")=>do
 let [a,l,c,k,b]:=[`a,`l,`c,`k,`b].map Lean.mkIdent | unreachable!
 `(tactic| ((case $a:ident=>k_is);(case $l:ident=>k_is);(case $c:ident=>k_is);(case $k:ident=>k_is);(case $b:ident=>walk_at "s1")))
local macro_rules | `(tactic| exists $x:term,$y:term,$z:term,$t:term,$u:term)=>do
 let [i,f,k,l,c,b]:=[`i,`f,`k,`l,`c,`b].map Lean.mkIdent | unreachable!
 `(tactic| (refine' L2.zF (m:=$x) (qual:=$y) (st:=$z) (ps:=$t) $u ?$i ?$f ?$k ?$l ?$c ?$b;walk_at "m"))
local macro_rules | `(tactic| exists $x:term,$y:term,$t:term)=>do
 let [X,G,a,l,c,k,b]:=[`KX,`G,`a,`l,`c,`k,`b].map Lean.mkIdent | unreachable!
 `(tactic| (refine' L2.zA (x:=$x) (st:=$y) (ps:=$t) $X $G ?$a ?$l ?$c ?$k ?$b;walk_at "n"))
open PySem PySem.W PyProof.Rows L2 My
set_option maxRecDepth 100000 in
set_option maxHeartbeats 0 in
theorem PySem.Challenge.cw_loanroll_k67_no_days_no_room_holds : PySem.Challenge.rw_loanroll_k67_no_days_no_room.Holds := by
 refine _root_.hd ?_
 k_fill
 refine zqV (l:=PySem.Challenge.rw_loanroll_k67_no_days_no_room) (lv:=13) (sp:=zmt) (x:="_law_script") (st:=zks) rfl rfl rfl ⟨rfl,by decide,by decide⟩ (fun w h Y=>PySem.W.kIn_of Y) ?F (fun K H a ns hl hS=>⟨a,ns,rfl,hS,hl,fun _=>rfl⟩)
 case F =>
  intro w mg h KX G
  have zmb:mg "all" = none:=mg_none_of KX G (by k_is)
  have zmO:mg "bool" = none:=mg_none_of KX G (by k_is)
  have zeH:mg "dict" = none:=mg_none_of KX G (by k_is)
  have zpc:mg "int" = none:=mg_none_of KX G (by k_is)
  have zT:mg "isinstance" = none:=mg_none_of KX G (by k_is)
  have zbP:mg "len" = none:=mg_none_of KX G (by k_is)
  have zbu:mg "list" = none:=mg_none_of KX G (by k_is)
  have zgl:mg "max" = none:=mg_none_of KX G (by k_is)
  have zi1:mg "min" = none:=mg_none_of KX G (by k_is)
  have zaV:mg "range" = none:=mg_none_of KX G (by k_is)
  have zjf:mg "set" = none:=mg_none_of KX G (by k_is)
  have zbN:mg "sorted" = none:=mg_none_of KX G (by k_is)
  have a_Bank:=by refine' zcO (x:="Bank") KX ?a;case a=>k_is
  have a_Book:=by refine' zcO (x:="Book") KX ?a;case a=>k_is
  have a_Count:=by refine' zcO (x:="Count") KX ?a;case a=>k_is
  have a_Debt:=by refine' zcO (x:="Debt") KX ?a;case a=>k_is
  have a_Entry:=by refine' zcO (x:="Entry") KX ?a;case a=>k_is
  have a_LoanError:=by refine' zcO (x:="LoanError") KX ?a;case a=>k_is
  have a_NoDays:=by refine' zcO (x:="NoDays") KX ?a;case a=>k_is
  have a_Pay:=by refine' zcO (x:="Pay") KX ?a;case a=>k_is
  have a_TooMany:=by refine' zcO (x:="TooMany") KX ?a;case a=>k_is
  have a_Turn:=by refine' zcO (x:="Turn") KX ?a;case a=>k_is
  have cls_Count:=by refine' zf4 a_Count ?_ ?_ ?_ ?_;all_goals k_is
  have zqn:=by refine' zqr a_Count ?_ ?_ ?_;all_goals k_is
  have cls_Bank:=by refine' zf4 a_Bank ?_ ?_ ?_ ?_;all_goals k_is
  have zrh:=by refine' zqr a_Bank ?_ ?_ ?_;all_goals k_is
  have zfP:=by exists "year","Count.year",zdA,qaa,a_Count
  have zf0:=by exists "unit","Count.unit",zbF,qaa,a_Count
  have zfH:=by exists "upto","Count.upto",zbC,qae,a_Count
  have zdV:=by exists "weight","Count.weight",zaZ,qap,a_Count
  have zgR:=by exists "year","Bank.year",zeu,qaa,a_Bank
  have zgW:=by exists "unit","Count.unit",zbF,qaa,a_Bank
  have zgQ:=by exists "upto","Count.upto",zbC,qae,a_Bank
  have zeL:=by exists "weight","Count.weight",zaZ,qap,a_Bank
  have ikK_Count:=by refine' zor a_Count ?_ ?_ ?_ ?_;all_goals k_is
  have kS_Count:=by refine' zoF (v:=false) (n:="str") a_Count ?_;kit_is
  have kK_Count_Count:=by refine' zhk (v:=true) a_Count a_Count ?_;kit_is
  have ikK_Bank:=by refine' zor a_Bank ?_ ?_ ?_ ?_;all_goals k_is
  have kS_Bank:=by refine' zoF (v:=false) (n:="str") a_Bank ?_;kit_is
  have kK_Bank_Count:=by refine' zhk (v:=true) a_Bank a_Count ?_;kit_is
  have zkq:=zgG KX G a_Bank
  have ziW:=zgG KX G a_Book
  have zkI:=zgG KX G a_Count
  have zki:=zgG KX G a_Debt
  have zkM:=zgG KX G a_Entry
  have zb1:=zgG KX G a_LoanError
  have zcn:=zgG KX G a_NoDays
  have zl9:=zgG KX G a_Pay
  have zbI:=zgG KX G a_TooMany
  have zky:=zgG KX G a_Turn
  have zw:=by refine' zf4 a_Book ?_ ?_ ?_ ?_;all_goals k_is
  have zhc:=by refine' zkh a_Book ?_ ?_;all_goals k_is
  have zB:=by refine' zf4 a_Debt ?_ ?_ ?_ ?_;all_goals k_is
  have zjc:=by refine' zkh a_Debt ?_ ?_;all_goals k_is
  have clE_Pay:=by refine' zf4 a_Pay ?_ ?_ ?_ ?_;all_goals k_is
  have clE_Turn:=by refine' zf4 a_Turn ?_ ?_ ?_ ?_;all_goals k_is
  have clE_Entry:=by refine' zf4 a_Entry ?_ ?_ ?_ ?_;all_goals k_is
  have zkY:=by
   refine' zar (name:="amount") a_Pay ?_
   k_is
  have zkB:=by
   refine' zar (name:="amount") a_Turn ?_
   k_is
  have zj0:=by
   refine' zar (name:="amount") a_Entry ?_
   k_is
  have zoi:=by
   refine' zar (name:="day") a_Pay ?_
   k_is
  have znd:=by
   refine' zar (name:="day") a_Turn ?_
   k_is
  have zl1:=by
   refine' zar (name:="day") a_Entry ?_
   k_is
  have znI:=by
   refine' zar (name:="rate") a_Pay ?_
   k_is
  have zlZ:=by
   refine' zar (name:="rate") a_Turn ?_
   k_is
  have zlj:=by
   refine' zar (name:="rate") a_Entry ?_
   k_is
  have zlK:=by
   refine' zar (name:="until") a_Pay ?_
   k_is
  have zk1:=by
   refine' zar (name:="until") a_Turn ?_
   k_is
  have zkr:=by
   refine' zar (name:="until") a_Entry ?_
   k_is
  have zkz:=by refine' zkh a_Pay ?_ ?_;all_goals k_is
  have zi5:=by refine' zkh a_Turn ?_ ?_;all_goals k_is
  have zfC:=by exists "word","Pay.word",zfi,qaa,a_Pay
  have zeS:=by exists "word","Turn.word",zem,qaa,a_Turn
  have zeK:=by exists "word","Entry.word",zdm,qaa,a_Entry
  have zhx:=by exists "__init__","AmountEntry.__init__",zbk,qas,a_Pay
  have zg4:=by exists "__init__","Entry.__init__",za4,qae,a_Turn
  have zdT:=by
   refine' ztD (m:="__init__") (qual:="Entry.__init__") (st:=za4) (ps:=qae) a_Entry ?x1 ?x2 ?x3 ?x4 ?k ?l ?c ?b
   (case x1|x2|x3=>k_is);(case x4=>rfl);(case k|l|c=>k_is)
   case b=>exact L2.us2 fun _ _=>rfl
  have zbM:=by
   refine' zar (name:="due_sums") a_Book ?_
   k_is
  have za3:=by
   refine' zar (name:="fee_sums") a_Book ?_
   k_is
  have zbt:=by
   refine' zar (name:="late_rows") a_Book ?_
   k_is
  have za5:=by
   refine' zar (name:="out_sums") a_Book ?_
   k_is
  have zaQ:=by
   refine' zar (name:="own_count") a_Book ?_
   k_is
  have zaF:=by
   refine' zar (name:="own_entries") a_Book ?_
   k_is
  have zaO:=by
   refine' zar (name:="own_grace") a_Book ?_
   k_is
  have za6:=by
   refine' zar (name:="pay_sums") a_Book ?_
   k_is
  have zbr:=by
   refine' zar (name:="rate_rows") a_Book ?_
   k_is
  have zbZ:=by
   refine' zar (name:="spans") a_Book ?_
   k_is
  have zaP:=by
   refine' zar (name:="turn_days") a_Book ?_
   k_is
  have zaB:=by
   refine' zar (name:="cent_units") a_Debt ?_
   k_is
  have zL:=by
   refine' zar (name:="owed_units") a_Debt ?_
   k_is
  have zE:=by
   refine' zar (name:="principal_cents") a_Debt ?_
   k_is
  have zg1:=by exists "grow","Debt.grow",zeo,qau,a_Debt
  have zgU:=by exists "__init__","Debt.__init__",zey,qar,a_Debt
  have zg2:=by exists "owed","Debt.owed",zeF,qaa,a_Debt
  have zc3:=by exists "principal","Debt.principal",zbQ,qaa,a_Debt
  have zfA:=by exists "units","Debt.units",zdC,qaa,a_Debt
  have zfL:=by exists "count","Book.count",zds,qaa,a_Book
  have zc1:=by exists "deed_days","Book.deed_days",zbX,qaa,a_Book
  have zgL:=by exists "dues","Book.dues",zek,qaa,a_Book
  have zeg:=by exists "entries","Book.entries",zcq,qaa,a_Book
  have zgI:=by exists "fees","Book.fees",zeC,qaa,a_Book
  have zfR:=by exists "grace","Book.grace",zdB,qaa,a_Book
  have zfX:=by exists "lates","Book.lates",zdJ,qaa,a_Book
  have zgy:=by exists "outs","Book.outs",zer,qaa,a_Book
  have zg0:=by exists "pays","Book.pays",zew,qaa,a_Book
  have zfy:=by exists "rates","Book.rates",zdH,qaa,a_Book
  have ze0:=by exists "stills","Book.stills",zcS,qaa,a_Book
  have zfT:=by exists "turns","Book.turns",zdF,qaa,a_Book
  have zcZ:=by exists "add_cents","Debt.add_cents",zbS,qad,a_Debt
  have zg5:=by exists "turn","Debt.turn",zet,qaa,a_Debt
  have zgV:=by exists "copy","Debt.copy",zeq,qaa,a_Debt
  have zhB:=by exists "fee","Debt.fee",zfb,qad,a_Debt
  have zgF:=by exists "lend","Debt.lend",zeB,qad,a_Debt
  have zgY:=by exists "take","Debt.take",zex,qad,a_Debt
  have zgT:=by exists "__init__","Book.__init__",zes,qat,a_Book
  have zc4:=by exists "with_more","Book.with_more",zbW,qbc,a_Book
  have x_NoDays:=by
   refine' zrW a_NoDays ?_
   k_exc
  have x_TooMany:=by
   refine' zrW a_TooMany ?_
   k_exc
  have e_TooMany_TooMany:=by refine' zqN a_TooMany a_TooMany ?_ ?_ ?_ ?_;all_goals k_is
  have eF_NoDays_TooMany:=by refine' zoy a_NoDays a_TooMany ?_ ?_ ?_ ?_;all_goals k_is
  have z_NoDays:=by refine' zsb a_NoDays ?_ ?_ ?_ ?_ ?_ ?_ ?_;all_goals k_is
  have z_TooMany:=by refine' zsb a_TooMany ?_ ?_ ?_ ?_ ?_ ?_ ?_;all_goals k_is
  have e_NoDays_NoDays:=by refine' zqN a_NoDays a_NoDays ?_ ?_ ?_ ?_;all_goals k_is
  have eF_TooMany_NoDays:=by refine' zoy a_TooMany a_NoDays ?_ ?_ ?_ ?_;all_goals k_is
  have k_NoDays_LoanError:=by refine' zhk (v:=true) a_NoDays a_LoanError ?_;kit_is
  have k_NoDays_TooMany:=by refine' zhk (v:=false) a_NoDays a_TooMany ?_;kit_is
  have k_TooMany_LoanError:=by refine' zhk (v:=true) a_TooMany a_LoanError ?_;kit_is
  have k_TooMany_NoDays:=by refine' zhk (v:=false) a_TooMany a_NoDays ?_;kit_is
  have zeV:=by refine' zfn (mg:=mg) (x:="FIRST_GUESS") (i:=1000000) KX G ?a;case a=>k_is
  have zhG:=by refine' zfn (mg:=mg) (x:="LAST_DAY") (i:=999999) KX G ?a;case a=>k_is
  have zg7:=by refine' zfn (mg:=mg) (x:="MOST_DAYS") (i:=360) KX G ?a;case a=>k_is
  have zcC:=by refine' zfn (mg:=mg) (x:="MOST_ENTRIES") (i:=500) KX G ?a;case a=>k_is
  have zfw:=by refine' zfn (mg:=mg) (x:="MOST_GRACE") (i:=366) KX G ?a;case a=>k_is
  have zfG:=by refine' zfn (mg:=mg) (x:="RATE_PARTS") (i:=10000) KX G ?a;case a=>k_is
  have zhI:=by exists "table_of",zfe,qal
  have zla:=by exists "begun",zjj,qaq
  have zed:=by exists "running_sums",zcG,qam
  have zjP:=by exists "joined",zhJ,["spans"]
  have zhD:=by exists "is_whole",zff,qai
  have zjY:=by exists "summed",zhL,qal
  have zdU:=by exists "_law_cell_at",zcH,qav
  have zfZ:=by exists "_law_draws",zdo,qaw
  have zhQ:=by exists "value_at",zfl,qbh
  have zgO:=by exists "late_sums",zez,qah
  have zlg:=by exists "moved",zi4,qan
  have zd6:=by exists "turning_days",zcI,qah
  have zfW:=by exists "deeds_upto",zdr,qab
  have zjV:=by exists "is_day",zht,qai
  have zgM:=by exists "is_within",zei,qax
  have zj3:=by exists "sum_by",zhT,qaf
  have zie:=by exists "days_of",zgd,qaf
  have zfJ:=by exists "rate_table",zdN,qaf
  have zeY:=by exists "still_spans",zcW,qbi
  have zdG:=by exists "_law_bad_days",zca,qao
  have zdf:=by exists "_law_bad_pair",zb8,qao
  have zjS:=by exists "stands",zhz,qan
  have zfs:=by exists "charged_by",zdp,qbj
  have zeW:=by exists "check_terms",zcQ,qay
  have ze4:=by exists "fallen_dues",zcV,qaz
  have zhU:=by exists "are_days",zfj,qba
  have zc0:=by exists "leaves_nothing",zbU,qaj
  have ziZ:=by exists "burdens",zga,qah
  have zhs:=by exists "do_deeds",zfm,qbb
  have zfv:=by exists "check_days",zdP,qab
  have zir:=by exists "as_pays",zgb,qam
  have zeb:=by exists "debts_behind",zcD,qaj
  have ze2:=by exists "accounts_at",zcR,qab
  have zg6:=by exists "statement",zeD,qag
  have zik:=by exists "account",zgk,qag
  have ziB:=by exists "paid_on",zge,qac
  have zd7:=by exists "statement_ok",zcE,qbd
  have znF:=by exists "owed",zku,qag
  have zgZ:=by exists "with_pays",zeE,qac
  have zic:=by exists "ends_on",zgq,qac
  have zfu:=by exists "least_paid",zdI,qbe
  have zg3:=by exists "even_rows",zej,qac
  have zdR:=by exists "is_even_rows",zcw,qak
  have zfx:=by exists "least_even",zdk,qab
  have zfE:=by exists "least_once",zdn,qbf
  have zhO:=by exists "is_fewer",zfc,qak
  have zft:=by exists "even_paper",zdl,qab
  have zhF:=by exists "paper_ok",zfg,qbg
  have zgA:=by exists "_law_once",zel,qbk
  have zf2:=by exists "_law_asked",zdO,qbl
  have zmd:=by exists "law",zks,qbm
  exact ⟨zmd,fun base=>ztl (⟨zmb,zmO,zeH,zpc,zT,zbP,zbu,zgl,zi1,zaV,zjf,zbN,(fun kd=>match kd with | .plain=>cls_Count | .bank=>cls_Bank),(fun kd=>match kd with | .plain=>zqn | .bank=>zrh),(fun kd=>match kd with | .plain=>ikK_Count | .bank=>ikK_Bank),(fun k=>match k with | .plain=>kK_Count_Count | .bank=>kK_Bank_Count),(fun kd=>match kd with | .plain=>kS_Count | .bank=>kS_Bank),zkq,ziW,zkI,zki,zkM,zb1,zcn,zl9,zbI,zky,zw,zhc,zB,zjc,(fun k=>match k with | .pay=>clE_Pay | .turn=>clE_Turn | .base=>clE_Entry),(fun k=>match k with | .pay=>zkY | .turn=>zkB | .base=>zj0),(fun k=>match k with | .pay=>zoi | .turn=>znd | .base=>zl1),(fun k=>match k with | .pay=>znI | .turn=>zlZ | .base=>zlj),(fun k=>match k with | .pay=>zlK | .turn=>zk1 | .base=>zkr),zkz,zi5,zbM,za3,zbt,za5,zaQ,zaF,zaO,za6,zbr,zbZ,zaP,zaB,zL,zE,x_NoDays,x_TooMany,e_TooMany_TooMany,eF_NoDays_TooMany,z_NoDays,z_TooMany,e_NoDays_NoDays,eF_TooMany_NoDays,k_NoDays_LoanError,k_NoDays_TooMany,k_TooMany_LoanError,k_TooMany_NoDays,zeV,zhG,zg7,zcC,zfw,zfG⟩:My.Txt _ mg) zhI zla zed zjP zhD zjY zdU zfZ zhQ zgO zlg zd6 zfW zjV zgM zj3 zie zfJ zeY zdG zdf zjS zfs zeW ze4 zhU zc0 ziZ zhs zfv zir zeb ze2 zg6 zik ziB zd7 znF zgZ zic zfu zg3 zdR zfx zfE zhO zft zhF zgA zf2 zmd zfC zeS zeK zhx zg4 zdT zg1 zgU zg2 zc3 zfA zfL zc1 zgL zeg zgI zfR zfX zgy zg0 zfy ze0 zfT zcZ zg5 zgV zhB zgF zgY zgT zc4 zfP zgR zf0 zgW zfH zgQ zdV zeL⟩
