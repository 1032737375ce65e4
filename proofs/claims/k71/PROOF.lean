import PyProof.Rows.All
import Wide.All
import OpenK.KSplit
import OpenK.KNot
import OpenK.KApp
import KE.KIsAll
import KE.RegKIsAll
import KE.LcSums
import KE.KItem
import KE.KSortTup
import KE.KSortAsk
import KE.KDictOf
import KE.KItemsList
import Wide.FinOn
import Lean
import PyProof.EqAt
import PyProof.EqKinds
import PyProof.TupleCall
import PySem.Challenge.RW_loanroll_k71_which_is_kinder
set_option Elab.async false
set_option linter.all false
set_option maxRecDepth 100000
set_option maxHeartbeats 20000000
noncomputable section
set_option genSizeOf false
namespace PySem.W.Fast
local macro_rules | `(command| #check [$x,*])=>do
 return Lean.mkNullNode (<-x.getElems.mapM λ x=>`(command| def $(Lean.mkIdent (.mkSimple s!"tw{x.raw.isNatLit?.get!}")):ident:=0))
#check [11692759271283553412,11879565108095411103,6872789842757496876,861502493610598483,8929427617084532050,11610452036141022277,1256098480902502473,5065591819665991627,5496849259710009554,8831155922039959720,627528348114124221,1035953614122953912,17071660069713835940,4295534447537059203,7774113678449685934,13281655086600605979,11284616107681220019,5711620825125641002,9867714693123648676,16947378819872066576,1952406642789878711,11070388883789476980,2369294140325686055,10390936311373634846,12855510547181587295,12361736095285214711,15916013147842562308,10338398162516547025,14671739901194505220,14938211915633500526,8997383693586321770,2333105410213810865,16797375974695604193,9586009075069172419,13381394916179292409,16412085850373738351,8319933024895762948,11489344026974618541,9637061981482878934,11219443903484984970,3592811809046731828,15575547313140297934,4538635040379822027,354308444213283272,10745233467358560665,10510019762269167821,17267597263503486738,15831126876759372255,8331849164307833061,14961746396406840608,17590876675597686902,16839002366802243188,14219159868682941630,11205608169257636508,12921946191010883867,5323657890516693427,14520296925931582552,28018229315631829,15254633091992210921,8255277752353900283,9592521066531166775,2997492091776894028,14689541978594310382,11962351593759143498,12930229547647579594,9553971096990549364,7900394595670775223,2107523057676978006,18335596039185421423,16212330677787901120,5171440476677080432,16060203290454839817,8492135340293348127,13459084325293418506,12396662096508845406,16531682779099013679,11844019762684407370,3300454383303005205,7424060955962978353,5239429619861171699,6701911527682315725,5101696844757716304,10295913840692754127,14081431093454284249,7249310025045793396,16902440903046159558,15699961213505342161,2424988045566436242,2144661209622563809,16145670418848962200,3721919958574915784,2455152089536381482,11266997524610791606,1692201390411429781,11151835277377553703,2990168724187919761,2261719852989239553,5462360663327728810,10519837036962490867,15539815450414544023,172746767574481773,11485923223005469204,15621415185263527259,10953238642706405951,8159993647027272844,16309811473084048462,4102176305081739490,17312402878845073609,9201617497623189827,13557862171009465336,10052031235695348791,10876078143196172821,6145912378217320015,8834805137890396735,9495317472360511255,16859961878692490766,16120054744476736488,10958628066121416707,10550934584343373414,15499940227032437249,2869065659524454656,17155049476370652306,4884199854448574,15675013803050531044,5388589039460942527,5378528727604396283,15052318979288761249,13769103115541136327,12088173506995129815,5832305185047221409,13631397514672939371,3726453103677007866,12090033642099325131,3328118118096588273,16765560720781731146,7592715696027808041,14842496431369740429,3641951560692057861,13812277999558781770,8297923619242306668,13539809779269347639,5702276774652866934,14564555370662651082,11829361678007005,16103829930404553856,1205274952441263945,7050804516273991350,360634875079729221,14424681132571578402,5444512763150141072,6356304189028158447,991626836265849350,3215387988796971590,7476452910721959123,1342123614928995077,14454166528178196959,15565715512253457277,14611616552423853409,9116068151291705539,16035376269474964883,8757050672659960515,9947508896943372755,4189273013823423559,8919978131948313185,7837367980739423823,5344687154915797982,14963028359598502718,2789304352393801511,5217270863462422736,14261769069557060686,2213964242967304950,16864618592142003386,13913613514976480042,2931988195819169919,2244103112122482387,14538725608371270373,17658959251048325594,2567597102152627588,11317637306720784765,10294118229990073760,2358075552688931204,7485256538410118956,4309217394794523951,17916429707943930468,18367749455379333440,12770481643036789091,14935156969734317764,12459912946257978736,18441984877410159329,5890639436620234070,16109456028575089023,12738610918357793766,14785633479632635281,786537726763496527,2314633323536394700,17937168697417666835,10159399881129095643,9768418358887946270,18384110700954362821,11095110211248682772]
#check [4772062507164038959,11308061921803828041,6194202620331982285,12826555694032677247,4860023922305330110,12297992134047619483,16203965252921439515,4026147355466621588,5992840812097835891,17163426234232328066,14135006944967825841,10988312798546598065,17592209452093105858,10792498714594961201,16409965706819354750,866717566613908145,3374319085511977134,1293241653719404408,12960429369202013873,1915925776726481438,15214748959534726111,6084841979344569690,13343918040275786880,4334401890000744311,11481637867367846703,8498532028676091811,14196522196718054806,6657536258744368796,17817366049700826239,727553628536289456,4493901809537577575,12269216009862288129,11907897558876765624,896878414759379649,1467881925912835984,8185220541750880888,17016834523296244275,6880980288501444468,5342471268416680606,15861351967447197489,18400553757987027518,14594842627406614536,11468729153070441980,506581581156960101,17271881437230615512,14479964200598819128,7164969610272591079,12132596417379514657,5920806927976990809,17890440400047909864,896239598344801917,14036186469904095446,7007286002206832825,3365755272349913518,1401067106901849026,12382822922155266910,5289818103960998278,18095796173783872564,8565224436197482051,4607425872040536859,4993863958327201973,14202271707224943307,12330612334027959195,15433366417846715934,16101134707931498060,18407495941553956032,12715800853834201459,18004296560267143027,296083027919845158,5522115075389312692,726351398001015727,4548300405975405348,9388066449989048879,6714880395473160397,4323258101793500111,13674586047789940208,12670982853097334264,17410218998227585676,4561898282857576226,7212858340449540239,14564479935002850509,17659185236578331656,16493865465440409018,13567515925198824819,17382457898008728272,819570635367399668,2474200967059427378,17952953904234253443,15797354312348517276,14594121865129679737,12991707099607933795,10801879617336347724,17021493897406092494,525804813940649037,7086961617601330827,2187251505897268136,13313058339493701161,7764699552788554220,9358312197846296583,17508347553164502932,2228412568605170491,8219003486749837733,8899516883271353254,17292613610259460706,4039707410889071942,10236332898609347644,9744259246892133002,10470340158578859262,6105849179199505303,18418582437962087742,8374155422468719031,6548459193220583526,11524815483048965402,17986951261819808105,13444670453868202053,14664691819916384248,11738243743197964597,18383651708701053236,16636501806038632012,13813548295540068894,694261584828832409,14154597600763967237,13385558918117058561,8002303944043701648,12740759652641322565,10341888390210383824,2576523973992343609,599730875272715187,3985964047577975286,13710940844802916613,9757595895972200118,9045458381397004210,14993981098963755598,3953844824629472508,15240619367488684849,12369848792361866835,12681666616541194006,16005714805435085966,9381626543082597023,18101783494082082527,6798380500665416597,6331431999304432861,10161179621583223854,622995879521568732,8535803893964050539,9584292182412213727,4449297822257671152,1599053048872161195,8274446707539698164,9399754086935153974,9689729476882780088,16378183091871739711,2386784164831690217,13996866031312336078,17883462748017686043,3436067635600285980,5960047855520388891,8232614014015475128,247591363613054380,13439652990877377571,15541240446876304647,5137589814051832496,12887044766017154078,3270257207059953099,7501186508268903616,6329614223026926184,8422229294311615681,14022695629967993375,14727194681476072466,4171853373547519906,8737599933303070863,12125097214300078407,4015202173357781934,7933485763601977624,7374399212775623666,12468840222048715292,1000662321505670351,6208910965292489261,3831019782443316194,2810200551564342888,13215348057498601715,13034982811429478159,13366278800048369731,14284835775768690865,9972681490609642005,6056707288978253535,16298917771340976007,15779231459743154856,7937976987201723653,9848817304349107530,10479991185640055810,87601786513091389,16132249320637822498,4906484309439969231,3997487885647526937,2773992215795510196,6216382948874008006,11898673842065290130,8757255369765604158,6128106870883400570]
#check [11717715558655726156,13861322856664149509,8222940686941784037,8006371003960147343,651700358538967526,11566098044289413073,2400638427578300857,6188973233030003785,14441679199631801671,12315944733273679750,7873748247521183178,12727641955093265886,11212356425047092601,8865387616306378214,7509565986652818475,609457278022895560,2295934692909999376,5498123283257192965,11267315532378154396,1717767836212652739,9919008367099125623,15978794797337165890,12549542988036985293,11421057715548341654,14553807712399142462,13484562703626004877,15743010393045028110,11449968299874610285,14847308668706973960,14329579894275425762,11033627544408312984,8356303796347215682,4547051000311932777,16670775579421159206,15504105790966721872,4490611911172417597,5783627655825047438,2353497105660221152,3778530596728393105,17852080271459398996,4734895289157585001,16053306600634468012,15481805183316651443,4313010194945074917,1956260828630720203,4859391219904099992,14935467056822913822,15042883488752021643,2692750590507578028,5000232492035539693,16919654943277366748,14647417624928369756,17013487888433625170,7867829370405329436,5994696166404524948,17187875760726034783,16248296213531012650,9510108024173832781,3075201292733833056,15142666989864626641,2080317491765294665,5622701340561072331,6420159726195949164,12099505692703838030,14736888041290939073,2046362190076281809,6968137755033780318,5072417060200589145,12488014758255163090,12768989823518198380,6702445572142316249,14577027041581768965,17691633702590694504,7220529860990300233,11076892268299887525,6327569006664949090,542563422162235373,11513857634932158529,13421457143807847188,6945566481307383155,18031968618487185184,9113380124883318265,12138319994727072339,17338325484393633139,15752536640612570366,9646623106273453227,5483103596317574428,6607644564249050058,1825952489489211193,10842938092177581297,14332157829676619468,523537741815420091,9331231397406362311,211337195705725219,16766484511958638138,6549852094080907030,2741014181512449073,6229817132586351632,7091221385724896812,9977182230042388008,938635154573522699,14387916025512776202,7350462372000428638,443766864951011646,1198783387198779033,258204147387103276,10539347186207431242,15326580083554890809,890339118813698166,12747814925858328940,12408111787983249662,14061609134260724683,12003660372656728261,8752102160057688731,9950792792127014553,10888863842102328177,8171798328758944481,16721508838639397229,15166322114958858414,17318462890700432884,13855379610559885079,4683681711962371626,9402243437249704421,11853640710764476214,5610444585433571239,14958820412457663293,908480701973217441,8739830900816887780,13348088958985639553,16682895059504647277,16756451883985382160,14904681115217272601,6170744672141170255,17613222154834848340,16955839230299176341,15401437161963490237,11823594873375168262,13135312941875745310,17963105932079019327,643336161829623379,13601115934706021691,10374632558016547081,1956775160557780875,3543459598558145280,5404398260228975080,8047209995159408440,16003985067176294414,18361725300881549022,2956708394376553000,1532491051758110099,4470585836733325578,1630143524128594353,17577329170770402720,1864683662541468164,1937721966566455358,15733337929971156237,13437419889732721216,15925456577456769635,5010956058597451964,8392358500681263680,561727478393794602,5233118043267047457,4051853165826885262,6046103115902281144,14746253646979254834,14592624751514493413,10826640976665885199,2527701527901579348,8833860146974802555,15012102849882553082,16615150188913437886,11662115353561507501,3676754643040562684,1891733041441978011,17348111734160510231,8212203176049278890,5662061979359257339,17170472223608059050,1835201335921387983,5459702643516471331,14995258362815363992,1158361714356455011,15870398105094248349,9969077435446430640,740290905518256060,15227483606004533461,9615563845995560447,16753820520455620202,13069393092227542028,13705283562680751584,10149570385669482864,855453113358079251,3419001889969749887,17590705303994421779,8972062959192195235,15438627641174518403,12528533614272120300,2827255003249426055,6408400580700104982,8428246938381088814]
#check [7943549864190904611,1495895850433845275,16822532161544500889,12091130801917272685,5872530126848033075,8318101203651539667,17260811203177919210,6128145076113358165,3049343062529576306,10258873121960336067,14849461344987154502,16226643914720891334,14859695947638507448,8760152093665844161,6124413428159637790,4699756791338806529,1835071406663858368,6030501089693204938,9304451534382375720,256976265262469064,11161164713144168021,14398111036562950334,9404705873571188630,3992765435912101610,8157277791214410489,17760279517084355780,15235614512728720,13367274342830030513,1070438729232803039,13669536469129627823,15554417296805563061,5285915839522022235,16140922888777852060,13462424878891718212,2466311954974566718,9630203353718772412,4321966507151631593,12773500944031208451,7001957589650049515,446995266069924076,3303267245142563540,10510056951384868246,6472337539984862722,15895094517606616290,8995945545434573385,2629151800749243262,17678831435119133177,14782954611325821827,3238445694619138142,8909772338491405060,11692469974320434101,2135409205425526673,9320515035125037321,209982475168477708,2259672571474061568,17483705464198625004,12798174099139212305,6542358382571353910,14170518179582410385,18105302477358141223,10879749546641988924,17351735930882485243,10624116801336726872,8432719020341155521,16860917588515726111,16873086082458093902,11824586356888161845]
end PySem.W.Fast
set_option maxHeartbeats 0 in
open_top hd for PySem.Challenge.rw_loanroll_k71_which_is_kinder
local macro_rules | `(tactic| walk_at "o") => `(tactic| first | lia | omega)
local macro_rules | `(tactic| ac_rfl)=>`(tactic| walk_at "o")
open List renaming getElem?_eq_getElem→yaa,length_map→yab,length_append→yac,getElem?_eq_some_iff→yad,mem_map→yae,getD_eq_getElem?_getD→yaf,getElem?_map→yag,mem_of_getElem?→yah,mem_append_right→yai,mem_cons→yaj,mem_cons_of_mem→yak,mem_cons_self→yal,mem_append→yam,size_toArray→yan,length_take→yao,getElem?_eq_none→yap,mem_filter→yaq,range→yar,take_of_length_le→yas,map_append→yat,filter_cons_of_pos→yau,filter_cons_of_neg→yav,mem_iff_getElem→yaw,replicate→yax,length_drop→yay,mem_map_of_mem→yaz,length_cons→yba,length_filter_le→ybb,mem_singleton→ybc,pairwise_iff_getElem→ybd,filterMap_cons→ybe,map_cons→ybf,mem_append_left→ybg,not_mem_nil→ybh,take_add_one→ybi,pairwise_map→ybj,filter_append→ybk,toArray→ybl,map_congr_left→ybm,nodup_cons→ybn,getElem?_append_right→ybo,pairwise_cons→ybp,getElem?_append_left→ybq,replicate_succ→ybr,length_singleton→ybs,ext_getElem?→ybt,length_range→ybu,map_map→ybv,append_nil→ybw,pairwise_append→ybx,pairwise_singleton→yby,findIdx?_eq_some_iff_getElem→ybz,foldl_cons→yca,forIn_cons→ycb,eraseIdx_eq_take_drop_succ→ycc,any_eq_true→ycd,lookup→yce,getElem?_range→ycf,filter_eq_nil_iff→ycg,getElem_mem→ych,mem_range→yci,length_eraseIdx_of_lt→ycj,flatten_cons→yck,append_assoc→ycl,findIdx?_eq_none_iff→ycm,length_erase_of_mem→ycn,map_replicate→yco,length_pos_of_mem→ycp,range_succ→ycq,mem_iff_getElem?→ycr,mem_erase_of_ne→ycs,filter_cons→yct,getElem_map→ycu,toList_toArray→ycv,map_set→ycw,find?_eq_none→ycx,any_cons→ycy
open Nat renaming le_refl→ycz,ne_of_lt→yda,lt_of_lt_of_le→ydb,zero_le→ydc,lt_of_le_of_lt→ydd,le_trans→yde,lt_irrefl→ydf,lt_succ_self→ydg,lt_succ_of_lt→ydh,lt_trichotomy→ydi,ne_of_gt→ydj,le_succ→ydk,not_lt_zero→ydl,le_of_lt→ydm,lt_trans→ydn,sub_self→ydo,zero_add→ydp
open PySem.Heap renaming get?_push_of_some→ydq,lt_size→ydr,get?_push_size→yds,get?_update_ne→ydt,size_push→ydu,get?_update_self→ydv,get?_none_of_le→ydw
open Int renaming le_refl→ydx,emod_nonneg→ydy,emod_lt_of_pos→ydz,zero_add→yea,lt_or_le→yeb,mul_nonneg→yec
open Array renaming length_toList→yed,getElem?_eq_getElem→yee,getD_eq_getD_getElem?→yef,forIn_toList→yeg,getElem?_toList→yeh,getD→yei,size_map→yej
namespace L2
open PySem PySem.Spec PyProof.Rows
noncomputable abbrev Key:=Sum Int Str
noncomputable def zrh:Key->Value->Bool
 | .inl k,v=>Value.isInt k v
 | .inr x,v=>Value.isStrOf x v
noncomputable def ztA (w:World):Key->Int
 | .inl k=>hashInt k
 | .inr x=>hashStr w x
theorem zaD:∀ {k:Key} {v:Value},zrh k v=true->(∃ i t,k=Sum.inl i/\v=Value.int i t)\/(∃ x t,k=Sum.inr x/\v=Value.str x t)
 | .inl i,v,h=>by
  obtain ⟨t,e⟩:=Value.isInt_shape (k:=i) (v:=v) h
  exact .inl ⟨i,t,rfl,e⟩
 | .inr x,v,h=>by
  obtain ⟨t,e⟩:=Value.isStrOf_shape (x:=x) (v:=v) h
  exact .inr ⟨x,t,rfl,e⟩
theorem zsD (a b:Int):decide ((Sum.inl a:Key)=Sum.inl b)=(a == b):=by
 by_cases e:a=b
 ·subst e;simp
 ·have h:¬ (Sum.inl a:Key)=Sum.inl b:=fun q=>e (Sum.inl.inj q)
  rw[decide_eq_false h]
  exact (beq_eq_false_iff_ne.mpr e).symm
theorem zsE (a b:Str):decide ((Sum.inr a:Key)=Sum.inr b)=decide (a=b):=by
 by_cases e:a=b
 ·subst e;simp
 ·have h:¬ (Sum.inr a:Key)=Sum.inr b:=fun q=>e (Sum.inr.inj q)
  rw[decide_eq_false h,decide_eq_false e]
theorem zsB (a:Int) (b:Str):decide ((Sum.inl a:Key)=Sum.inr b)=false:=decide_eq_false (fun q=>nomatch q)
theorem zsp (a:Str) (b:Int):decide ((Sum.inr a:Key)=Sum.inl b)=false:=decide_eq_false (fun q=>nomatch q)
noncomputable def zrz (prog:Program) (w:World):PySem.KeyKind prog w Key where
 is:=zrh
 hash:=ztA w
 inj:=fun v a b ha hb=>by
  rcases zaD ha with ⟨i,t,rfl,rfl⟩ | ⟨x,t,rfl,rfl⟩
  ·rcases zaD hb with ⟨j,u,rfl,e⟩ | ⟨y,u,rfl,e⟩
   ·injection e with e1 _;rw[e1]
   ·exact nomatch e
  ·rcases zaD hb with ⟨j,u,rfl,e⟩ | ⟨y,u,rfl,e⟩
   ·exact nomatch e
   ·injection e with e1 _;rw[e1]
 byValue:=fun k v h=>by
  rcases zaD h with ⟨i,t,rfl,rfl⟩ | ⟨x,t,rfl,rfl⟩ <;> rfl
 pyHash:=fun hv h=>by
  rcases zaD hv with ⟨i,t,rfl,rfl⟩ | ⟨x,t,rfl,rfl⟩
  ·exact wpAny_pyHash_int h
  ·exact wpAny_pyHash_str h
 eqBool:=fun hu hv h=>by
  rcases zaD hu with ⟨i,t,rfl,rfl⟩ | ⟨x,t,rfl,rfl⟩
  ·rcases zaD hv with ⟨j,u,rfl,rfl⟩ | ⟨y,u,rfl,rfl⟩
   ·rw[zsD] at h;exact wpAny_eqBool_int h
   ·rw[zsB] at h;exact SeqAt.EqAt.int_str i t y u _ _ _ _ h
  ·rcases zaD hv with ⟨j,u,rfl,rfl⟩ | ⟨y,u,rfl,rfl⟩
   ·rw[zsp] at h;exact SeqAt.EqAt.str_int x t j u _ _ _ _ h
   ·rw[zsE] at h;exact wpAny_eqBool_str h
 «strs»:=fun k x t v h=>by
  rcases zaD h with ⟨i,u,rfl,e⟩ | ⟨y,u,rfl,e⟩
  ·exact nomatch e
  ·injection e with e1 _
   subst e1
   cases v <;> rfl
inductive V where
 | non | bl (b:Bool) | int (i:Int) | str (x:Str) | byt (b:Array UInt8) | flt (b:UInt64) | ref (a:Addr) | ty (n:String)
 deriving DecidableEq
noncomputable def RelV:V->Value->Prop
 | .non,u=>u=Value.none
 | .bl b,u=>u=Value.bool b
 | .int i,u=>∃ t,u=Value.int i t
 | .str x,u=>∃ t,u=Value.str x t
 | .byt b,u=>∃ t,u=Value.bytes b t
 | .flt b,u=>∃ t,u=Value.float b t
 | .ref a,u=>u=Value.ref a
 | .ty n,u=>u=Value.type n
noncomputable abbrev Vals:List V->List Value->Prop:=Paired RelV
theorem Vals.length {xs:List V} {us:List Value} (r:Vals xs us):xs.length=us.length:=Paired.length r
theorem Vals.get:∀ {xs:List V} {us:List Value} {i:Nat} {x:V},Vals xs us->xs[i]?=some x->∃ u,us[i]?=some u/\RelV x u
 | _,_,_,_,.nil,e=>by simp at e
 | _,_,0,_,.cons r _,e=>by simp at e;subst e;exact ⟨_,rfl,r⟩
 | _,_,i+1,x,.cons _ t,e=>by
  obtain ⟨u,h1,h2⟩:=Vals.get (i:=i) (x:=x) t (by simpa using e)
  exact ⟨u,by simpa using h1,h2⟩
theorem Vals.set {x:V} {u:Value} (r:RelV x u):∀ {xs:List V} {us:List Value} (i:Nat),Vals xs us->Vals (xs.set i x) (us.set i u)
 | _,_,_,.nil=>.nil
 | _,_,0,.cons _ t=>.cons r t
 | _,_,i+1,.cons q t=>.cons q (Vals.set r i t)
theorem Vals.append:∀ {xs ys:List V} {us ws:List Value},Vals xs us->Vals ys ws->Vals (xs++ys) (us++ws)
 | _,_,_,_,.nil,s=>s
 | _,_,_,_,.cons r t,s=>.cons r (Vals.append t s)
theorem Vals.take:∀ {xs:List V} {us:List Value} (n:Nat),Vals xs us->Vals (xs.take n) (us.take n)
 | _,_,0,_=>.nil
 | _,_,_+1,.nil=>.nil
 | _,_,n+1,.cons r t=>.cons r (Vals.take n t)
theorem Vals.drop:∀ {xs:List V} {us:List Value} (n:Nat),Vals xs us->Vals (xs.drop n) (us.drop n)
 | _,_,0,r=>r
 | _,_,_+1,.nil=>.nil
 | _,_,n+1,.cons _ t=>Vals.drop n t
noncomputable def zf0:Option V->Option Value->Prop
 | some v,some u=>RelV v u
 | none,none=>True
 | _,_=>False
noncomputable def KV {κ:Type}:List (κ × V)->List (κ × Value)->Prop:=Paired fun (p:κ × V) (q:κ × Value)=>p.1=q.1/\RelV p.2 q.2
inductive HO where
 /-- a list -/
 | lst (xs:List V)
 /-- a tuple (never changes) -/
 | tup (xs:List V)
 /-- a dict whose keys are ints and texts;one whose keys are tuples of ints and texts (the empty one is both) -/
 | dK (kvs:List (Key × V))
 /-- a set of ints: its members,its size -/
 | set (S:Int->Bool) (n:Nat)
 /-- an instance of the class at C,its dict at dx,its attributes -/
 | ins (C dx:Addr) (fs:List (Str × V))
 /-- the dict of the instance at x -/
 | own (x:Addr)
 /-- the dict of an exception -/
 | xd (fs:List (Str × V))
 /-- a bound method,f of x -/
 | met (f x:Addr)
 /-- a range object lo,lo+1,.. below hi -/
 | rng (lo hi:Int)
 /-- a thing that is known to the object (the script;a dict while a loop walks it): read,never written while it is so -/
 | frz (o:Obj) (u:HO)
 /-- a code object's table -/
 | tbl (ps:Array Value)
 /-- any other thing,by what is true of its one object (a def of one's own: zj4 a S n:=HO.ext fun h=>..) -/
 | ext (φ:Heap->Prop)
noncomputable abbrev Hp:=Addr->Option HO
noncomputable def upd (H:Hp) (a:Addr) (o:HO):Hp:=fun b=>if b=a then some o else H b
theorem zf {H:Hp} {a:Addr} {o:HO}:upd H a o a=some o:=by unfold upd;rw[if_pos rfl]
theorem zt {H:Hp} {a b:Addr} {o:HO} (h:b≠a):upd H a o b=H b:=by unfold upd;rw[if_neg h]
theorem zaA {H:Hp} {a:Addr} {o u:HO}:upd (upd H a o) a u=upd H a u:=by
 funext b;unfold upd;split <;> rfl
theorem za6 {H:Hp} {a b:Addr} {o u:HO} (h:H a=some o) (h':H b=some u) (d:o≠u):a≠b:=by
 intro e;subst e;rw[h] at h';exact d (Option.some.inj h')
theorem zai {H:Hp} {a b:Addr} {o:HO} (h:H a=some o) (h':H b=none):a≠b:=by
 intro e;subst e;rw[h] at h';cases h'
section
variable (P:Program) (w:World)
noncomputable def zaf (H:Hp) (h:Heap) (a:Addr):HO->Prop
 | .lst xs=>xs.length<=sizeLine/\∃ (its:List Value) (n:Nat),Vals xs its/\h.get? a=some { cls:=.type "list", data:=.seq its.toArray n }
 | .tup xs=>xs.length<=sizeLine/\∃ its:List Value,Vals xs its/\IsTup h a its.toArray
 | .dK kvs=>kvs.length<=sizeLine/\(a == sysModules)=false/\∃ vs,KV kvs vs/\h.DictOf (zrz P w) a vs
 | .set S n=>h.SetOf (intKind P w) a S n
 | .ins C dx fs=>H dx=some (.own a)/\fs.length<=1000/\dx≠a/\h.get? a=some (PySem.W.instObj C dx) /\
   ∃ mA,h.Ns1 dx mA/\(∀ f,zf0 (fs.lookup f) (mA f))/\PySem.Within mA (fs.map (·.1))
 | .own _=>∃ o,h.get? a=some o
 | .xd fs=>∃ mA,h.Ns1 a mA/\∀ f,zf0 (fs.lookup f) (mA f)
 | .rng lo hi=>∃ t u v,h.get? a=some { cls:=.type "range", data:=.fields #[.int lo t,.int hi u,.int 1 v] }
 | .frz o u=>h.get? a=some o/\zaf H h a u
 | .tbl ps=>h.get? a=some { cls:=.none,data:=.fields ps }
 | .met f x=>h.get? a=some (PySem.W.methodObj (.ref f) (.ref x))
 | .ext φ=>φ h/\(∃ o,h.get? a=some o)/\∀ h1 h2:Heap,φ h1->(∀ o,h1.get? a=some o->h2.get? a=some o)->φ h2
def HOk (H:Hp) (h:Heap):Prop:=∀ a o,H a=some o->zaf P w H h a o
end
section
variable {P:Program} {w:World} {H H':Hp} {h h':Heap} {a:Addr} {o:HO}
theorem zaf.lt (x:zaf P w H h a o):a<h.objs.size:=by
 cases o with
 | lst xs=>obtain ⟨_,_,_,_,e⟩:=x;exact ydr e
 | tup xs=>obtain ⟨_,_,_,p⟩:=x;exact p.lt
 | dK kvs=>obtain ⟨_,_,_,_,o,_,_,e,_⟩:=x;exact ydr e
 | set S n=>obtain ⟨o,_,_,_,e,_⟩:=x;exact ydr e
 | ins C dx fs=>obtain ⟨_,_,_,e,_⟩:=x;exact ydr e
 | own y=>obtain ⟨_,e⟩:=x;exact ydr e
 | xd fs=>obtain ⟨_,⟨_,_,_,e,_⟩,_⟩:=x;exact ydr e
 | rng lo hi=>obtain ⟨_,_,_,e⟩:=x;exact ydr e
 | frz ob u=>obtain ⟨e,_⟩:=x;exact ydr e
 | tbl ps=>exact ydr (show h.get? a=some _ from x)
 | met f y=>exact ydr (show h.get? a=some _ from x)
 | ext φ=>obtain ⟨_,⟨_,e⟩,_⟩:=x;exact ydr e
theorem zaf.stay (x:zaf P w H h a o) (k:∀ b u,(b=a\/H b=some (.own a))->h.get? b=some u->h'.get? b=some u)
  (ho:∀ b,H b=some (.own a)->H' b=some (.own a)) (ht:∀ b xs,H b=some (.tup xs)->H' b=some (.tup xs)):zaf P w H' h' a o:=by
 induction o with
 | lst xs=>obtain ⟨z,its,n,r,e⟩:=x;exact ⟨z,its,n,r,k _ _ (.inl rfl) e⟩
 | tup xs=>obtain ⟨z,its,r,ob,e,c⟩:=x;exact ⟨z,its,r,ob,k _ _ (.inl rfl) e,c⟩
 | dK kvs=>obtain ⟨z,y,vs,r,ob,es,ep,e,c⟩:=x;exact ⟨z,y,vs,r,ob,es,ep,k _ _ (.inl rfl) e,c⟩
 | set S n=>obtain ⟨ob,es,ep,t,e,c⟩:=x;exact ⟨ob,es,ep,t,k _ _ (.inl rfl) e,c⟩
 | ins C dx fs =>
  obtain ⟨d,z,ne,e,mA,⟨od,es,ep,e2,c⟩,r⟩:=x
  exact ⟨ho _ d,z,ne,k _ _ (.inl rfl) e,mA,⟨od,es,ep,k _ _ (.inr d) e2,c⟩,r⟩
 | own y=>obtain ⟨ob,e⟩:=x;exact ⟨ob,k _ _ (.inl rfl) e⟩
 | xd fs=>obtain ⟨mA,⟨od,es,ep,e,c⟩,r⟩:=x;exact ⟨mA,⟨od,es,ep,k _ _ (.inl rfl) e,c⟩,r⟩
 | rng lo hi=>obtain ⟨t,u,v,e⟩:=x;exact ⟨t,u,v,k _ _ (.inl rfl) e⟩
 | frz ob u ih=>obtain ⟨e,q⟩:=x;exact ⟨k _ _ (.inl rfl) e,ih q⟩
 | tbl ps =>
  have e:h.get? a=some { cls:=.none,data:=.fields ps }:=x
  show h'.get? a=some { cls:=.none,data:=.fields ps }
  exact k a _ (.inl rfl) e
 | met f y =>
  have e:h.get? a=some (PySem.W.methodObj (.ref f) (.ref y)):=x
  show h'.get? a=some (PySem.W.methodObj (.ref f) (.ref y))
  exact k a _ (.inl rfl) e
 | ext φ=>obtain ⟨p,⟨o,e⟩,st⟩:=x;exact ⟨st _ _ p fun o q=>k _ _ (.inl rfl) q,⟨o,k _ _ (.inl rfl) e⟩,st⟩
theorem HOk.lt (x:HOk P w H h) (e:H a=some o):a<h.objs.size:=(x a o e).lt
theorem HOk.fresh (x:HOk P w H h) (e:h.objs.size<=a):H a=none:=by
 cases q:H a with
 | none=>rfl
 | some u=>exact absurd (ydb (x.lt q) e) (ydf _)
theorem HOk.kept (x:HOk P w H h) (k:∀ b u,h.get? b=some u->h'.get? b=some u):HOk P w H h':=fun a o e =>
 (x a o e).stay (fun b u _ q=>k b u q) (fun _ q=>q) fun _ _ q=>q
theorem HOk.laid (x:HOk P w H h) (k:∀ b u,h.get? b=some u->h'.get? b=some u) (hp:h.objs.size<=a) (new:zaf P w (upd H a o) h' a o):HOk P w (upd H a o) h':=fun b u e=>by
 have hn:=x.fresh hp
 by_cases hb:b=a
 ·subst hb;rw[zf] at e;cases e;exact new
 ·rw[zt hb] at e
  exact (x b u e).stay (fun c v _ q=>k c v q) (fun c q=>by rw[zt (zai q hn)];exact q) fun c xs q=>by rw[zt (zai q hn)];exact q
end
def Rd (H:Hp) (a:Addr) (u:HO):Prop:=H a=some u\/∃ o,H a=some (.frz o u)
theorem Rd.ok {P:Program} {w:World} {H:Hp} {h:Heap} {a:Addr} {u:HO} (r:Rd H a u) (x:HOk P w H h):zaf P w H h a u:=by
 rcases r with r | ⟨o,r⟩
 ·exact x a u r
 ·obtain ⟨_,q⟩:=x a _ r
  exact q
noncomputable def Mut:Option HO->Prop
 | some (.lst _)=>True
 | some (.dK _)=>True
 | some (.set _ _)=>True
 | some (.ins _ _ _)=>True
 | some (.ext _)=>True
 | _=>False
section
variable {P:Program} {w:World} {H:Hp} {h h':Heap} {x e:Addr} {o':HO}
theorem HOk.write (ok:HOk P w H h) (mu:Mut (H x)) (he:e=x\/H e=some (.own x)) (k:∀ b u,b≠e->h.get? b=some u->h'.get? b=some u) (heo:∃ u,h'.get? e=some u)
  (new:zaf P w (upd H x o') h' x o'):HOk P w (upd H x o') h':=fun b u q=>by
 have nown:∀ c y,H c=some (.own y)->c≠x:=fun c y r z=>by subst z;rw[r] at mu;exact mu
 have ntup:∀ c xs,H c=some (.tup xs)->c≠x:=fun c xs r z=>by subst z;rw[r] at mu;exact mu
 by_cases hb:b=x
 ·subst hb;rw[zf] at q;cases q;exact new
 ·rw[zt hb] at q
  by_cases hbe:b=e
  ·have q':H b=some (.own x):=by
    rcases he with z | z
    ·exact absurd (hbe.trans z) hb
    ·rw[hbe];exact z
   rw[q] at q';cases q'
   obtain ⟨v,hv⟩:=heo
   exact ⟨v,by rw[hbe];exact hv⟩
  ·refine (ok b u q).stay (fun c v hc r=>k c v ?_ r) (fun c r=>by rw[zt (nown c b r)];exact r) fun c xs r=>by rw[zt (ntup c xs r)];exact r
   rcases hc with rfl | hc
   ·exact hbe
   ·rintro rfl
    rcases he with z | z
    ·exact nown c b hc z
    ·rw[hc] at z;cases z;exact hb rfl
end
set_option genInjectivity false
structure Un (fs ex:List Addr) (H H':Hp) (h h':Heap):Prop where
 keep:∀ b o,h.get? b=some o->H b=none->b ∉ fs->b ∉ ex->h'.get? b=some o
 slot:∀ b o,h.get? b=some o->H b=none->b∈fs->b ∉ ex->∃ sl,h'.get? b=some { o with slots:=sl }
 free:∀ b o,h.get? b=some o->H b=none->b ∉ ex->H' b=none
 there:∀ b o,h.get? b=some o->b ∉ ex->∃ o',h'.get? b=some o'
 tups:∀ b xs,H b=some (.tup xs)->H' b=some (.tup xs)
 frzs:∀ b o u,H b=some (.frz o u)->H' b=some (.frz o u)
 tbls:∀ b ps,H b=some (.tbl ps)->∃ more,H' b=some (.tbl (ps++more))
section
variable {fs fs' ex ex':List Addr} {H H1 H2:Hp} {h h1 h2 h':Heap} {a x e:Addr} {o:HO}
theorem Un.any (u:Un fs ex H H1 h h1) {b:Addr} {ob:Obj} (q:h.get? b=some ob) (n:H b=none) (hx:b ∉ ex):∃ sl,h1.get? b=some { ob with slots:=sl }:=by
 by_cases hb:b∈fs
 ·exact u.slot b ob q n hb hx
 ·exact ⟨ob.slots,u.keep b ob q n hb hx⟩
theorem Un.kept (k:∀ b u,h.get? b=some u->h'.get? b=some u):Un fs ex H H h h' :=
 ⟨fun b ob q _ _ _=>k b ob q,fun b ob q _ _ _=>⟨ob.slots,k b ob q⟩,fun _ _ _ n _=>n,fun b ob q _=>⟨ob,k b ob q⟩,fun _ _ q=>q,fun _ _ _ q=>q,fun _ ps q=>⟨#[],by rw[q];simp⟩⟩
theorem Un.refl:Un fs ex H H h h:=Un.kept fun _ _ q=>q
theorem Un.laid (k:∀ b u,h.get? b=some u->h'.get? b=some u) (hp:h.objs.size<=a) (hn:H a=none):Un fs ex H (upd H a o) h h' where
 keep:=fun b u q _ _ _=>k b u q
 slot:=fun b u q _ _ _=>⟨u.slots,k b u q⟩
 free:=fun b u q n _=>by rw[zt (yda (ydb (ydr q) hp))];exact n
 there:=fun b u q _=>⟨u,k b u q⟩
 tups:=fun b xs q=>by rw[zt (zai q hn)];exact q
 frzs:=fun b u xs q=>by rw[zt (zai q hn)];exact q
 tbls:=fun b ps q=>⟨#[],by rw[zt (zai q hn),q];simp⟩
theorem Un.write (mu:Mut (H x)) (he:e=x\/H e=some (.own x)) (k:∀ b u,b≠e->h.get? b=some u->h'.get? b=some u) (heo:∃ u,h'.get? e=some u):Un fs ex H (upd H x o) h h':=by
 have hx:∀ b,H b=none->b≠x:=fun b n z=>by subst z;rw[n] at mu;exact mu
 have hb:∀ b,H b=none->b≠e:=fun b n z=>by
  subst z
  rcases he with r | r
  ·exact hx b n r
  ·rw[n] at r;cases r
 have hm:∀ b u,H b=some u->¬ Mut (some u)->b≠x:=fun b u q nm z=>by subst z;rw[q] at mu;exact nm mu
 refine ⟨fun b u q n _ _=>k b u (hb b n) q,fun b u q n _ _=>⟨u.slots,k b u (hb b n) q⟩,fun b u q n _=>by rw[zt (hx b n)];exact n,fun b u q _=>?_,
  fun b xs q=>by rw[zt (hm b _ q fun z=>z)];exact q,fun b u xs q=>by rw[zt (hm b _ q fun z=>z)];exact q,fun b ps q=>⟨#[],by rw[zt (hm b _ q fun z=>z),q];simp⟩⟩
 by_cases hbe:b=e
 ·subst hbe;exact heo
 ·exact ⟨u,k b u hbe q⟩
end
noncomputable def trk (h:Heap) (H:Hp):List Addr:=(yar h.objs.size).filter fun a=>(H a).isSome
noncomputable def zgT (h:Heap) (H:Hp):Heap:=PySem.W.hideAll h (trk h H)
theorem zpz (h:Heap) (H:Hp):(zgT h H).objs.size=h.objs.size:=PySem.W.hideAll_size _ _
theorem zqP {h:Heap} {H:Hp} {b:Addr} {o:Obj} (e:h.get? b=some o) (n:H b=none):(zgT h H).get? b=some o :=
 PySem.W.hideAll_get _ e fun hm=>by
  have q:(H b).isSome=true:=(yaq.mp hm).2
  rw[n] at q;simp at q
theorem zrT {h:Heap} {H:Hp} {b:Addr} {o:Obj} (e:(zgT h H).get? b=some o):h.get? b=some o/\H b=none:=by
 have e':h.get? b=some o:=PySem.W.of_hideAll (trk h H) e
 refine ⟨e',?_⟩
 cases q:H b with
 | none=>rfl
 | some x =>
  have hm:b∈trk h H:=yaq.mpr ⟨yci.mpr (ydr e'),by simp[q]⟩
  have z:(zgT h H).get? b=none:=PySem.W.hideAll_none (trk h H) hm
  rw[z] at e;cases e
noncomputable def zro (g h:Heap) (L:Addr):List (Addr × Obj):=(yar h.objs.size).filterMap fun a=>if a=L\/(g.get? a).isSome=true then none else (h.get? a).map fun o=>(a,o)
noncomputable def rest (g h:Heap) (L d:Addr):List (Addr × Obj):=(zro g h L).filter fun p=>decide (p.1≠d)
structure Mod (K:W.Frag) (mg:Str->Option Value) (base:Heap):Prop where
 kin:K.In base
 glob:base.Ns mainGlobals mg
 blt:∃ mb,base.Ns builtinsNs mb/\∀ x:Str,x ≠ "__name__" -> mb x=bootBuiltins x
 nolimit:base.NoLimit
structure Cx where
 prog:Program
 w:World
 K:W.Frag
 mg:Str->Option Value
 base:Heap
 A:Around
 N:List Str
 s₀:Shared
 H₀:Hp
 env:Env
 outer:List Env
 stack:List Env
 ex:List Addr
 fn:Str->Bool
 calm:Bool
 pn:List (Addr × Obj)
 xe:Value->Shared->Prop
noncomputable def frs (l:List Env):List Addr:=l.filterMap (·.frame)
noncomputable abbrev Cx.fs (X:Cx):List Addr:=frs X.outer
def Vis (sc:Scope) (x:Str):Prop:=sc.names.lookup x=some .local\/sc.names.lookup x=some .cell\/sc.names.lookup x=some .free
def Loc (sc:Scope) (x:Str):Prop:=sc.names.lookup x=some .local\/sc.names.lookup x=some .cell
def Look (env:Env) (h:Heap) (m:Str->Option Value) (x:Str) (u:Value):Prop :=
 (env.kindOf x=some .local/\m x=some u)\/((env.kindOf x=some .cell\/env.kindOf x=some .free)/\∃ c,env.cells.lookup x=some c/\h.IsCell c (some u))
structure Cx.Ok (X:Cx):Prop where
 mod:Mod X.K X.mg X.base
 kind:X.env.scope.kind=.function
 glob:X.env.globals=mainGlobals
 blt:X.env.builtins=builtinsNs
 above:X.s₀.heap.objs.size<=X.env.locals
 inj:∀ x y c,X.env.cells.lookup x=some c->X.env.cells.lookup y=some c->x=y
 has:∀ x,(X.env.kindOf x=some .cell\/X.env.kindOf x=some .free)->∃ c,X.env.cells.lookup x=some c
 cab:∀ x c,X.fn x=true->X.env.cells.lookup x=some c->X.s₀.heap.objs.size<=c
 hd:X.calm=true->X.A.handled=none
 frames:X.A.frames=some X.stack
 stk:X.stack=X.outer\/(X.stack=X.env::X.outer/\X.env.frame=some X.env.locals)
 exf:∀ b∈X.ex,b≠X.env.locals/\∀ x c,X.env.cells.lookup x=some c->c≠b
 bs:∀ b o,X.base.get? b=some o->X.s₀.heap.get? b=some o/\X.H₀ b=none
 bsz:X.base.objs.size<=X.s₀.heap.objs.size
 noex:∀ b o,X.base.get? b=some o->b ∉ X.ex
 exfs:∀ b∈X.ex,b ∉ X.fs
 funs:X.s₀.heap.FunFrames X.base X.outer
 frf:∀ b∈X.fs,X.H₀ b=none
structure Inv (X:Cx) (pins:List (Addr × Obj)) (σ:List (Option V)) (H:Hp) (s:Shared):Prop where
 ok:X.Ok
 os:s.os=X.s₀.os
 bare:AllBare s.gens
 base:Un X.fs X.ex X.H₀ H X.s₀.heap s.heap
 loc:∃ m,s.heap.Ns X.env.locals m/\∀ (i:Nat) (x:Str) (v:V),X.N[i]?=some x->σ[i]?=some (some v)->Vis X.env.scope x->∃ u,RelV v u/\Look X.env s.heap m x u
 cell:∀ x c,X.env.cells.lookup x=some c->∃ v,s.heap.IsCell c v
 free:H X.env.locals=none
 freeC:∀ x c,X.env.cells.lookup x=some c->H c=none
 pin:∀ p∈X.pn++pins,s.heap.get? p.1=some p.2/\H p.1=none/\p.1≠X.env.locals/\p.1 ∉ X.fs/\∀ v,p.2.data≠.cell v
 hok:HOk X.prog X.w H s.heap
 len:σ.length=X.N.length
section
variable {X:Cx} {pins:List (Addr × Obj)} {σ:List (Option V)} {H H':Hp} {s:Shared} {h':Heap}
theorem Cx.Ok.nofr (ok:X.Ok) {b:Addr} {o:Obj} (e:X.base.get? b=some o):b ∉ X.fs:=fun hb=>by
 have:=(ok.funs.mem hb).1
 rw[e] at this;cases this
theorem Inv.bs (I:Inv X pins σ H s):∀ b o,X.base.get? b=some o->s.heap.get? b=some o/\H b=none:=fun b o e =>
 ⟨I.base.keep b o (I.ok.bs b o e).1 (I.ok.bs b o e).2 (I.ok.nofr e) (I.ok.noex b o e),I.base.free b o (I.ok.bs b o e).1 (I.ok.bs b o e).2 (I.ok.noex b o e)⟩
theorem Inv.bk (I:Inv X pins σ H s):∀ b o,X.base.get? b=some o->s.heap.get? b=some o:=fun b o e=>(I.bs b o e).1
theorem Inv.mod (I:Inv X pins σ H s):Mod X.K X.mg X.base:=I.ok.mod
theorem Inv.kIn (I:Inv X pins σ H s):X.K.In s.heap:=I.ok.mod.kin.keeps I.bk
theorem Inv.lt (I:Inv X pins σ H s):X.env.locals<s.heap.objs.size:=let ⟨_,hn,_⟩:=I.loc;hn.lt
theorem Inv.sz (I:Inv X pins σ H s):X.s₀.heap.objs.size<=s.heap.objs.size:=yde I.ok.above (ydm I.lt)
theorem Inv.nofs (I:Inv X pins σ H s) {a:Addr} (h:s.heap.objs.size<=a):a ∉ X.fs:=fun hb=>by
 obtain ⟨_,o,ho,_⟩:=I.ok.funs.mem hb
 exact absurd (ydb (ydr ho) (yde I.sz h)) (ydf _)
theorem Inv.cne (I:Inv X pins σ H s):∀ x c,X.env.cells.lookup x=some c->c≠X.env.locals:=fun x c e z=>by
 obtain ⟨v,o,ho,hd⟩:=I.cell x c e
 obtain ⟨m,⟨o',es,ep,ho',hd',_⟩,_⟩:=I.loc
 rw[z,ho'] at ho;cases ho;rw[hd'] at hd;cases hd
theorem Inv.funs (I:Inv X pins σ H s):s.heap.FunFrames X.base X.outer:=by
 have all:∀ (l:List Env),(∀ b∈frs l,b∈X.fs)->X.s₀.heap.FunFrames X.base l->s.heap.FunFrames X.base l:=by
  intro l
  induction l with
  | nil=>intro _ _;trivial
  | cons env r ih =>
   intro hs hl
   obtain ⟨hk,⟨L,o,hf,hn,ho,hd⟩,hr⟩:=hl
   have hL:L∈X.fs:=hs L (by unfold frs;rw[ybe,hf];exact yal)
   obtain ⟨sl,e⟩:=I.base.slot L o ho (I.ok.frf L hL) hL fun z=>I.ok.exfs L z hL
   exact ⟨hk,⟨L,_,hf,hn,e,hd⟩,ih (fun b hb=>hs b (by unfold frs;rw[ybe,hf];exact yak _ hb)) hr⟩
 exact all X.outer (fun _ hb=>hb) I.ok.funs
theorem Inv.stack (I:Inv X pins σ H s):s.heap.FunFrames X.base X.stack:=by
 rcases I.ok.stk with e | ⟨e,hf⟩
 ·rw[e];exact I.funs
 ·rw[e]
  obtain ⟨m,hn,_⟩:=I.loc
  refine .cons (by rw[I.ok.kind];decide) hf hn ?_ I.funs
  exact ydw (yde I.ok.bsz I.ok.above)
theorem Inv.zgA (I:Inv X pins σ H s):∀ b∈frs X.stack,b∈X.env.locals::X.fs:=fun b hb=>by
 rcases I.ok.stk with e | ⟨e,hf⟩
 ·rw[e] at hb;exact yak _ hb
 ·rw[e] at hb
  unfold frs at hb
  rw[ybe,hf] at hb
  exact hb
theorem Inv.zos (I:Inv X pins σ H s):∀ b∈frs X.stack,H b=none:=fun b hb=>by
 rcases yaj.mp (I.zgA b hb) with e | hb
 ·rw[e];exact I.free
 ·obtain ⟨_,o,ho,_⟩:=I.ok.funs.mem hb
  exact I.base.free b o ho (I.ok.frf b hb) fun z=>I.ok.exfs b z hb
theorem Inv.step {g':Array GenState} {t':Nat} {d':Drawn} {ch:List Addr} (I:Inv X pins σ H s)
  (hch:∀ b∈ch,(b∈X.ex\/X.s₀.heap.objs.size<=b)/\b≠X.env.locals/\(∀ x c,X.env.cells.lookup x=some c->c≠b)/\∀ p∈X.pn++pins,p.1≠b)
  (keep:∀ b o,b≠X.env.locals->b ∉ X.fs->b ∉ ch->s.heap.get? b=some o->H b=none->h'.get? b=some o)
  (slot:∀ b o,b≠X.env.locals->b∈X.fs->b ∉ ch->s.heap.get? b=some o->H b=none->∃ sl,h'.get? b=some { o with slots:=sl }) (free:∀ b o,b ∉ ch->s.heap.get? b=some o->H b=none->H' b=none)
  (there:∀ b o,b ∉ ch->s.heap.get? b=some o->∃ o',h'.get? b=some o')
  (tups:∀ b xs,H b=some (.tup xs)->H' b=some (.tup xs)) (frzs:∀ b o u,H b=some (.frz o u)->H' b=some (.frz o u)) (tbls:∀ b ps,H b=some (.tbl ps)->∃ more,H' b=some (.tbl (ps++more)))
  (ns:∀ m,s.heap.Ns X.env.locals m->h'.Ns X.env.locals m) (hok:HOk X.prog X.w H' h') (hg:AllBare g') :
  Inv X pins σ H' { s with heap:=h',gens:=g',drawn:=d',toks:=t' }:=by
 have neL:∀ b o,X.s₀.heap.get? b=some o->b≠X.env.locals:=fun b o e=>yda (ydb (ydr e) I.ok.above)
 have neC:∀ b o,X.s₀.heap.get? b=some o->b ∉ X.ex->b ∉ ch:=fun b o e hx hb=>by
  rcases (hch b hb).1 with z | z
  ·exact hx z
  ·exact absurd (ydb (ydr e) z) (ydf _)
 have cellK:∀ x c,X.env.cells.lookup x=some c->∀ v,s.heap.IsCell c v->h'.IsCell c v:=fun x c e v ⟨o,ho,hd⟩=>by
  have nch:c ∉ ch:=fun z=>(hch c z).2.2.1 x c e rfl
  by_cases hc:c∈X.fs
  ·obtain ⟨sl,q⟩:=slot c o (I.cne x c e) hc nch ho (I.freeC x c e)
   exact ⟨_,q,hd⟩
  ·exact ⟨o,keep c o (I.cne x c e) hc nch ho (I.freeC x c e),hd⟩
 refine ⟨I.ok,I.os,hg,⟨fun b o e n hb hx=>?_,fun b o e n hb hx=>?_,fun b o e n hx=>?_,fun b o e hx=>?_,fun b xs e=>tups b xs (I.base.tups b xs e),fun b o xs e=>frzs b o xs (I.base.frzs b o xs e),fun b ps e=>?_⟩,?_,fun x c e=>?_,?_,fun x c e=>?_,fun p hp=>?_,hok,I.len⟩
 ·exact keep b o (neL b o e) hb (neC b o e hx) (I.base.keep b o e n hb hx) (I.base.free b o e n hx)
 ·obtain ⟨sl,e1⟩:=I.base.slot b o e n hb hx
  obtain ⟨sl',e2⟩:=slot b _ (neL b o e) hb (neC b o e hx) e1 (I.base.free b o e n hx)
  exact ⟨sl',e2⟩
 ·obtain ⟨o',e1⟩:=I.base.there b o e hx
  exact free b o' (neC b o e hx) e1 (I.base.free b o e n hx)
 ·obtain ⟨o',e1⟩:=I.base.there b o e hx
  exact there b o' (neC b o e hx) e1
 ·obtain ⟨m1,e1⟩:=I.base.tbls b ps e
  obtain ⟨m2,e2⟩:=tbls b _ e1
  exact ⟨m1++m2,by rw[e2,Array.append_assoc]⟩
 ·obtain ⟨m,hn,hl⟩:=I.loc
  refine ⟨m,ns m hn,fun i x v e1 e2 e3=>?_⟩
  obtain ⟨u,r,l⟩:=hl i x v e1 e2 e3
  refine ⟨u,r,?_⟩
  rcases l with l | ⟨k,c,e,z⟩
  ·exact .inl l
  ·exact .inr ⟨k,c,e,cellK x c e _ z⟩
 ·obtain ⟨v,z⟩:=I.cell x c e
  exact ⟨v,cellK x c e v z⟩
 ·obtain ⟨m,⟨o,_,_,ho,_⟩,_⟩:=I.loc
  exact free _ o (fun z=>(hch _ z).2.1 rfl) ho I.free
 ·obtain ⟨v,o,ho,hd⟩:=I.cell x c e
  exact free c o (fun z=>(hch c z).2.2.1 x c e rfl) ho (I.freeC x c e)
 ·obtain ⟨e,n,ne,nf,d⟩:=I.pin p hp
  have nch:p.1 ∉ ch:=fun z=>(hch p.1 z).2.2.2 p hp rfl
  exact ⟨keep p.1 p.2 ne nf nch e n,free p.1 p.2 nch e n,ne,nf,d⟩
theorem Inv.un {t':Nat} (I:Inv X pins σ H s) (u:Un X.fs [] H H' s.heap h') (hok:HOk X.prog X.w H' h'):Inv X pins σ H' { s with heap:=h',toks:=t' }:=by
 obtain ⟨m,⟨o,es,ep,ho,r⟩,_⟩:=id I.loc
 obtain ⟨sl,hL⟩:=u.any ho I.free (by simp)
 exact I.step (g':=s.gens) (d':=s.drawn) (ch:=[]) (fun _ z=>nomatch z) (fun b o _ hb _ e n=>u.keep b o e n hb (by simp)) (fun b o _ hb _ e n=>u.slot b o e n hb (by simp)) (fun b o _ e n=>u.free b o e n (by simp)) (fun b o _ e=>u.there b o e (by simp)) u.tups u.frzs u.tbls (fun m' hm=>by
  obtain ⟨o',es',ep',ho',r'⟩:=hm
  rw[ho] at ho';cases ho'
  exact ⟨_,es',ep',hL,r'⟩) hok I.bare
theorem Inv.call {g':Array GenState} {t':Nat} {d':Drawn} {ch:List Addr} (I:Inv X pins σ H s) (u:Un (frs X.stack) ch H H' s.heap h') (hok:HOk X.prog X.w H' h') (hg:AllBare g')
  (hch:∀ b∈ch,(b∈X.ex\/X.s₀.heap.objs.size<=b)/\b≠X.env.locals/\(∀ x c,X.env.cells.lookup x=some c->c≠b)/\∀ p∈X.pn++pins,p.1≠b) :
  Inv X pins σ H' { s with heap:=h',gens:=g',drawn:=d',toks:=t' }:=by
 obtain ⟨m,⟨o,es,ep,ho,r⟩,_⟩:=id I.loc
 obtain ⟨sl,hL⟩:=u.any ho I.free fun z=>(hch _ z).2.1 rfl
 exact I.step (ch:=ch) hch (fun b o hL hb hc e n=>u.keep b o e n (fun z=>(yaj.mp (I.zgA b z)).elim hL hb) hc) (fun b o _ _ hc e n=>u.any e n hc) (fun b o hc e n=>u.free b o e n hc) (fun b o hc e=>u.there b o e hc) u.tups u.frzs u.tbls (fun m' hm=>by
  obtain ⟨o',es',ep',ho',r'⟩:=hm
  rw[ho] at ho';cases ho'
  exact ⟨_,es',ep',hL,r'⟩) hok hg
theorem Inv.turned {t':Nat} {it:Addr} (I:Inv X pins σ H s) (k:∀ b o,b≠it->s.heap.get? b=some o->h'.get? b=some o) (hn:H it=none) (hL:it≠X.env.locals)
  (h1:it∈X.ex\/X.s₀.heap.objs.size<=it) (h2:∀ x c,X.env.cells.lookup x=some c->c≠it) (h3:∀ p∈X.pn++pins,p.1≠it):Inv X pins σ H { s with heap:=h',toks:=t' }:=by
 have nit:∀ b u,H b=some u->b≠it:=fun b u e z=>by rw[z,hn] at e;cases e
 refine I.step (g':=s.gens) (d':=s.drawn) (ch:=[it]) (fun b hb=>?_) (fun b o _ _ hc e _=>k b o (fun z=>hc (by simp[z])) e) (fun b o _ _ hc e _=>⟨o.slots,k b o (fun z=>hc (by simp[z])) e⟩) (fun _ _ _ _ n=>n)
  (fun b o hc e=>⟨o,k b o (fun z=>hc (by simp[z])) e⟩) (fun _ _ e=>e) (fun _ _ _ e=>e) (fun b ps e=>⟨#[],by rw[e];simp⟩) (fun m hm=>?_) (fun b u e=>?_) I.bare
 ·have e:b=it:=by simpa using hb
  subst e
  exact ⟨h1,hL,h2,h3⟩
 ·obtain ⟨o,es,ep,ho,r⟩:=hm
  exact ⟨o,es,ep,k _ o (Ne.symm hL) ho,r⟩
 ·refine (I.hok b u e).stay (fun c v hc q=>k c v ?_ q) (fun _ q=>q) fun _ _ q=>q
  rcases hc with z | z
  ·rw[z];exact nit b u e
  ·exact nit c _ z
theorem Inv.tok (I:Inv X pins σ H s) (t:Nat):Inv X pins σ H { s with toks:=t }:=I.un (h':=s.heap) (t':=t) Un.refl I.hok
theorem Inv.kept {t':Nat} (I:Inv X pins σ H s) (k:∀ b u,s.heap.get? b=some u->h'.get? b=some u):Inv X pins σ H { s with heap:=h',toks:=t' }:=I.un (Un.kept k) (I.hok.kept k)
theorem Inv.laid {a:Addr} {o:HO} {t':Nat} (I:Inv X pins σ H s) (k:∀ b u,s.heap.get? b=some u->h'.get? b=some u) (hp:s.heap.objs.size<=a) (new:zaf X.prog X.w (upd H a o) h' a o) :
  Inv X pins σ (upd H a o) { s with heap:=h',toks:=t' }:=I.un (Un.laid k hp (I.hok.fresh hp)) (I.hok.laid k hp new)
theorem Inv.write {x e:Addr} {o:HO} {t':Nat} (I:Inv X pins σ H s) (mu:Mut (H x)) (he:e=x\/H e=some (.own x)) (k:∀ b u,b≠e->s.heap.get? b=some u->h'.get? b=some u) (heo:∃ u,h'.get? e=some u)
  (new:zaf X.prog X.w (upd H x o) h' x o):Inv X pins σ (upd H x o) { s with heap:=h',toks:=t' }:=I.un (Un.write mu he k heo) (I.hok.write mu he k heo new)
theorem Inv.zkz {pins':List (Addr × Obj)} (I:Inv X pins σ H s) (h:∀ p∈pins',s.heap.get? p.1=some p.2/\H p.1=none/\p.1≠X.env.locals/\p.1 ∉ X.fs/\∀ v,p.2.data≠.cell v):Inv X pins' σ H s :=
 ⟨I.ok,I.os,I.bare,I.base,I.loc,I.cell,I.free,I.freeC,fun p hp=>(yam.mp hp).elim (fun z=>I.pin p (ybg _ z)) (h p),I.hok,I.len⟩
theorem zl5 {N:List Str} (hN:N.Nodup) {i j:Nat} {x:Str} (a:N[i]?=some x) (b:N[j]?=some x):i=j:=by
 obtain ⟨h1,e1⟩:=yad.mp a
 obtain ⟨h2,e2⟩:=yad.mp b
 exact (List.getElem_inj hN).mp (e1.trans e2.symm)
theorem zpA {M:Model} {A:Around} {E:Value->Shared->Prop} {i:Nat} {x:Str} {v:V} {u:Value} {Q:Unit->Shared->Prop} (I:Inv X pins σ H s) (hN:X.N.Nodup) (hi:X.N[i]?=some x) (hx:Loc X.env.scope x) (r:RelV v u)
  (h:∀ s',Inv X pins (σ.set i (some v)) H s'->(∃ a,Heap.SameBut a s.heap s'.heap/\(a=X.env.locals\/X.env.cells.lookup x=some a))->Q () s') (hf:X.fn x=true\/X.env.scope.names.lookup x=some .local:=by first | exact .inl rfl | exact .inr rfl | assumption):wpAny M A (storeName X.env x u) Q E s:=by
 obtain ⟨m,hn,hl⟩:=id I.loc
 have hcls:(X.env.scope.kind == .class || (X.env.scope.kind == .module && X.env.locals != X.env.globals))=false:=by rw[I.ok.kind];rfl
 have hiσ:i<σ.length:=by rw[I.len];exact (yad.mp hi).1
 have cne:=I.cne
 have tracked:∀ {a:Addr} {h':Heap},(∃ o,s.heap.get? a=some o/\H a=none)->Heap.SameBut a s.heap h'->HOk X.prog X.w H h':=fun {a h'} ha hs b ob e=>by
  obtain ⟨_,_,hfree⟩:=ha
  refine (I.hok b ob e).stay (fun c w' hc q=>(hs.2 c ?_).trans q) (fun _ q=>q) fun _ _ q=>q
  rintro rfl
  rcases hc with rfl | hc
  ·rw[hfree] at e;cases e
  ·rw[hfree] at hc;cases hc
 rcases hx with hk | hk
 ·refine wpAny_storeName_local hk hn (fun h' hn' hs=>?_) hcls
  obtain ⟨oL,_,_,hoL,_⟩:=id hn
  refine h _ ⟨I.ok,I.os,I.bare,⟨fun b o e n hb hx=>?_,fun b o e n hb hx=>?_,I.base.free,fun b o e hx=>?_,I.base.tups,I.base.frzs,I.base.tbls⟩,⟨_,hn',fun j y v' e1 e2 e3=>?_⟩,fun y c e=>?_,I.free,I.freeC,fun p hp=>?_,tracked ⟨oL,hoL,I.free⟩ hs,by simpa using I.len⟩ ⟨_,hs,.inl rfl⟩
  ·exact (hs.2 b (yda (ydb (ydr e) I.ok.above))).trans (I.base.keep b o e n hb hx)
  ·obtain ⟨sl,e1⟩:=I.base.slot b o e n hb hx
   exact ⟨sl,(hs.2 b (yda (ydb (ydr e) I.ok.above))).trans e1⟩
  ·obtain ⟨o',e1⟩:=I.base.there b o e hx
   exact ⟨o',(hs.2 b (yda (ydb (ydr e) I.ok.above))).trans e1⟩
  ·by_cases hj:j=i
   ·subst hj
    rw[hi] at e1;cases e1
    rw[List.getElem?_set_self hiσ] at e2
    cases e2
    exact ⟨u,r,.inl ⟨hk,by simp⟩⟩
   ·rw[List.getElem?_set_ne (Ne.symm hj)] at e2
    obtain ⟨u',r',q⟩:=hl j y v' e1 e2 e3
    refine ⟨u',r',?_⟩
    rcases q with ⟨k,e⟩ | ⟨k,c,e,z⟩
    ·refine .inl ⟨k,?_⟩
     have:y≠x:=fun e=>hj (zl5 hN e1 (e ▸ hi))
     simp[this,e]
    ·exact .inr ⟨k,c,e,z.sameBut hs (cne y c e)⟩
  ·obtain ⟨w',z⟩:=I.cell y c e
   exact ⟨w',z.sameBut hs (cne y c e)⟩
  ·obtain ⟨e,n,ne,nf,d⟩:=I.pin p hp
   exact ⟨(hs.2 p.1 ne).trans e,n,ne,nf,d⟩
 ·have hfn:X.fn x=true:=by
   rcases hf with z | z
   ·exact z
   ·rw[z] at hk;cases hk
  obtain ⟨c,hc⟩:=I.ok.has x (.inl hk)
  obtain ⟨w',z⟩:=I.cell x c hc
  refine wpAny_storeName_cell I.ok.kind hk hc z (fun h' hc' hs=>?_)
  obtain ⟨oc,hoc,hocd⟩:=id z
  refine h { s with heap:=h' } ⟨I.ok,I.os,I.bare,⟨fun b o e n hb hx=>?_,fun b o e n hb hx=>?_,I.base.free,fun b o e hx=>?_,I.base.tups,I.base.frzs,I.base.tbls⟩,⟨m,hn.sameBut hs (Ne.symm (cne x c hc)),fun j y v' e1 e2 e3=>?_⟩,fun y c' e=>?_,I.free,I.freeC,fun p hp=>?_,tracked ⟨oc,hoc,I.freeC x c hc⟩ hs,by simpa using I.len⟩ ⟨c,hs,.inr hc⟩
  ·exact (hs.2 b (yda (ydb (ydr e) (I.ok.cab x c hfn hc)))).trans (I.base.keep b o e n hb hx)
  ·obtain ⟨sl,e1⟩:=I.base.slot b o e n hb hx
   exact ⟨sl,(hs.2 b (yda (ydb (ydr e) (I.ok.cab x c hfn hc)))).trans e1⟩
  ·obtain ⟨o',e1⟩:=I.base.there b o e hx
   exact ⟨o',(hs.2 b (yda (ydb (ydr e) (I.ok.cab x c hfn hc)))).trans e1⟩
  ·by_cases hj:j=i
   ·subst hj
    rw[hi] at e1;cases e1
    rw[List.getElem?_set_self hiσ] at e2
    cases e2
    exact ⟨u,r,.inr ⟨.inl hk,c,hc,hc'⟩⟩
   ·rw[List.getElem?_set_ne (Ne.symm hj)] at e2
    obtain ⟨u',r',q⟩:=hl j y v' e1 e2 e3
    refine ⟨u',r',?_⟩
    rcases q with q | ⟨k,c',e,z'⟩
    ·exact .inl q
    ·refine .inr ⟨k,c',e,z'.sameBut hs ?_⟩
     rintro rfl
     exact hj (zl5 hN e1 (I.ok.inj _ _ _ e hc ▸ hi))
  ·by_cases hcc:c'=c
   ·subst hcc;exact ⟨_,hc'⟩
   ·obtain ⟨w2,z2⟩:=I.cell y c' e
    exact ⟨w2,z2.sameBut hs hcc⟩
  ·obtain ⟨e,n,ne,nf,d⟩:=I.pin p hp
   refine ⟨(hs.2 p.1 ?_).trans e,n,ne,nf,d⟩
   intro q
   rw[q,hoc] at e
   have q':oc=p.2:=Option.some.inj e
   exact d w' (by rw[<-q'];exact hocd)
theorem zms {M:Model} {A:Around} {E:Value->Shared->Prop} {i:Nat} {x:Str} {v:V} {u:Value} {Q:Unit->Shared->Prop} (I:Inv X pins σ H s) (hN:X.N.Nodup) (hi:X.N[i]?=some x) (hx:Loc X.env.scope x) (r:RelV v u)
  (h:∀ s',Inv X pins (σ.set i (some v)) H s'->Q () s') (hf:X.fn x=true\/X.env.scope.names.lookup x=some .local:=by first | exact .inl rfl | exact .inr rfl | assumption):wpAny M A (storeName X.env x u) Q E s :=
 zpA I hN hi hx r (fun s' I' _=>h s' I') hf
theorem Inv.call' {s':Shared} {ch:List Addr} (I:Inv X pins σ H s) (ho:s'.os=s.os) (u:Un (frs X.stack) ch H H' s.heap s'.heap) (hok:HOk X.prog X.w H' s'.heap) (hg:AllBare s'.gens)
  (hch:∀ b∈ch,(b∈X.ex\/X.s₀.heap.objs.size<=b)/\b≠X.env.locals/\(∀ x c,X.env.cells.lookup x=some c->c≠b)/\∀ p∈X.pn++pins,p.1≠b):Inv X pins σ H' s':=by
 obtain ⟨h',g',d',t',o'⟩:=s'
 have e:o'=s.os:=ho
 subst e
 exact I.call (g':=g') (t':=t') (d':=d') u hok hg hch
end
noncomputable abbrev XK:=Value->Option Addr->Hp->Prop
noncomputable abbrev St:=List (Option V)
noncomputable abbrev VK:=V->Hp->Prop
noncomputable abbrev TE:=St->Hp->VK->Prop
noncomputable abbrev TT:=St->Hp->(Bool->Hp->Prop)->Prop
noncomputable abbrev TA:=St->Hp->(List V->Hp->Prop)->Prop
structure Ends where
 nx:St->Hp->Prop
 rt:VK
 bk:St->Hp->Prop:=fun _ _=>False
 ct:St->Hp->Prop:=fun _ _=>False
noncomputable abbrev TS:=Ends->St->Hp->Prop
def EP (X:Cx) (pins:List (Addr × Obj)) (σ:St) (Q:VK) (u:Value) (s':Shared):Prop:=∃ v H',Inv X pins σ H' s'/\RelV v u/\Q v H'
def TP (X:Cx) (pins:List (Addr × Obj)) (σ:St) (Q:Bool->Hp->Prop) (b:Bool) (s':Shared):Prop:=∃ H',Inv X pins σ H' s'/\Q b H'
def AP (X:Cx) (pins:List (Addr × Obj)) (σ:St) (Q:List V->Hp->Prop) (us:List Value) (s':Shared):Prop:=∃ vs H',Inv X pins σ H' s'/\Vals vs us/\Q vs H'
def SP (X:Cx) (pins:List (Addr × Obj)) (D:Ends) (f:Flow) (s':Shared):Prop :=
 match f with
 | .next=>∃ σ' H',Inv X pins σ' H' s'/\D.nx σ' H'
 | .brk=>∃ σ' H',Inv X pins σ' H' s'/\D.bk σ' H'
 | .cont=>∃ σ' H',Inv X pins σ' H' s'/\D.ct σ' H'
 | .ret u=>∃ v σ' H',Inv X pins σ' H' s'/\RelV v u/\D.rt v H'
def PE (X:Cx) (e:Expr) (t:TE):Prop :=
 ∀ (pins:List (Addr × Obj)) (s:Shared) (σ:St) (H:Hp) (Q:VK),Inv X pins σ H s->t σ H Q->wpAny (model X.prog X.w) X.A (eval e X.env) (EP X pins σ Q) X.xe s
def PT (X:Cx) (e:Expr) (t:TT):Prop :=
 ∀ (pins:List (Addr × Obj)) (s:Shared) (σ:St) (H:Hp) (Q:Bool->Hp->Prop),Inv X pins σ H s->t σ H Q->wpAny (model X.prog X.w) X.A (isTrue e X.env (eval e X.env)) (TP X pins σ Q) X.xe s
def PW (X:Cx) (e:Expr) (t:TT):Prop :=
 ∀ (whole:Sem Value) (pins:List (Addr × Obj)) (s:Shared) (σ:St) (H:Hp) (Q:Bool->Hp->Prop),Inv X pins σ H s->t σ H Q->wpAny (model X.prog X.w) X.A (isTrue e X.env whole) (TP X pins σ Q) X.xe s
theorem PW.pt {X:Cx} {e:Expr} {t:TT} (h:PW X e t):PT X e t:=h _
def PA (X:Cx) (es:List Expr) (t:TA):Prop :=
 ∀ (pos:Pos) (pins:List (Addr × Obj)) (s:Shared) (σ:St) (H:Hp) (Q:List V->Hp->Prop),Inv X pins σ H s->t σ H Q->wpAny (model X.prog X.w) X.A (spliced (backTo pos (starEach es X.env))) (AP X pins σ Q) X.xe s
def PS (X:Cx) (st:Stmt) (t:TS):Prop :=
 ∀ (pins:List (Addr × Obj)) (s:Shared) (σ:St) (H:Hp) (D:Ends),Inv X pins σ H s->t D σ H->wpAny (model X.prog X.w) X.A (exec st X.env) (SP X pins D) X.xe s
def PSs (X:Cx) (st:List Stmt) (t:TS):Prop :=
 ∀ (pins:List (Addr × Obj)) (s:Shared) (σ:St) (H:Hp) (D:Ends),Inv X pins σ H s->t D σ H->wpAny (model X.prog X.w) X.A (execs st X.env) (SP X pins D) X.xe s
theorem thn {α:Type} {t:Sem α} {Q Q':α->Shared->Prop} {M:Model} {A:Around} {E:Value->Shared->Prop} {s:Shared} (h:wpAny M A t Q E s) (hQ:∀ a s,Q a s->Q' a s):wpAny M A t Q' E s:=wpAny_mono h hQ fun _ _ x=>x
section
variable {X:Cx}
def zsK (i:Nat):TE:=fun σ H Q=>∃ v,σ[i]?=some (some v)/\Q v H
def tC (v:V):TE:=fun _ H Q=>Q v H
theorem zsf {i:Nat} {x:Str} {pos:Pos} (hN:X.N[i]?=some x) (hv:Vis X.env.scope x) (hd:(x == ("__debug__" : Str))=false:=by decide) (hcd:(x == ("__classdict__" : Str))=false:=by decide):PE X (.Name x pos) (zsK i):=by
 intro pins s σ H Q I h
 obtain ⟨v,e,h⟩:=h
 obtain ⟨m,hn,hl⟩:=I.loc
 obtain ⟨u,r,l⟩:=hl i x v hN e hv
 have fin:EP X pins σ Q u s:=⟨v,H,I,r,h⟩
 rcases l with ⟨hk,hm⟩ | ⟨hk,c,hc,hcell⟩
 ·exact wpAny_Name (wpAny_loadName_local I.ok.kind hk hn hm fin) hd
 ·rcases hk with hk | hk
  ·exact wpAny_Name (wpAny_loadName_cell I.ok.kind hk hc hcell fin) hd
  ·exact wpAny_Name (wpAny_loadName_free I.ok.kind hk hc hcell fin hcd) hd
theorem zd {i j pos}:PE X (.Constant (.int i) j pos) (tC (.int i)):=fun _ _ _ H _ I h=>wpAny_Constant_int ⟨.int i,H,I.tok _,⟨_,rfl⟩,h⟩
theorem zaG {b j pos}:PE X (.Constant (.bool b) j pos) (tC (.bl b)):=fun _ _ _ H _ I h=>Constant_bool ⟨.bl b,H,I,rfl,h⟩
theorem zv {x j pos}:PE X (.Constant (.str x) j pos) (tC (.str x)):=fun _ _ _ H _ I h=>Calls.Constant_str ⟨.str x,H,I.tok _,⟨_,rfl⟩,h⟩
def Gl (X:Cx) (x:Str):Prop:=X.env.kindOf x=some .globalImplicit
theorem ziD {E:Value->Shared->Prop} {pins:List (Addr × Obj)} {s:Shared} {σ:St} {H:Hp} {x:Str} {u:Value} {pos:Pos} {Q:Value->Shared->Prop} (I:Inv X pins σ H s) (hg:Gl X x) (hm:X.mg x=some u) (h:Q u s)
  (hd:(x == ("__debug__" : Str))=false:=by decide):wpAny (model X.prog X.w) X.A (eval (.Name x pos) X.env) Q E s :=
 Calls.Name_function_global I.ok.kind hg (Calls.loadGlobal_global (by rw[I.ok.glob];exact I.mod.glob.keeps I.bk) hm h) hd
theorem zgD {E:Value->Shared->Prop} {pins:List (Addr × Obj)} {s:Shared} {σ:St} {H:Hp} {x:Str} {u:Value} {pos:Pos} {Q:Value->Shared->Prop} (I:Inv X pins σ H s) (hg:Gl X x) (hm:X.mg x=none) (hv:bootBuiltins x=some u) (h:Q u s)
  (hn:x ≠ "__name__" := by decide) (hd:(x == ("__debug__" : Str))=false:=by decide):wpAny (model X.prog X.w) X.A (eval (.Name x pos) X.env) Q E s:=by
 obtain ⟨mb,h1,h2⟩:=I.mod.blt
 exact Calls.Name_function_global I.ok.kind hg (Calls.loadGlobal_builtin (by rw[I.ok.glob];exact I.mod.glob.keeps I.bk) hm (by rw[I.ok.blt];exact h1.keeps I.bk) ((h2 x hn).trans hv) h) hd
theorem zgx {x:Str} {v:V} {u:Value} {pos:Pos} (hg:Gl X x) (hm:X.mg x=some u) (r:RelV v u) (hd:(x == ("__debug__" : Str))=false:=by decide):PE X (.Name x pos) (tC v) :=
 fun _ _ _ H _ I h=>ziD I hg hm ⟨v,H,I,r,h⟩ hd
theorem zj1 {x:Str} {v:V} {u:Value} {pos:Pos} (hg:Gl X x) (hm:X.mg x=none) (hv:bootBuiltins x=some u) (r:RelV v u) (hn:x ≠ "__name__" := by decide) (hd:(x == ("__debug__" : Str))=false:=by decide):PE X (.Name x pos) (tC v) :=
 fun _ _ _ H _ I h=>zgD I hg hm hv ⟨v,H,I,r,h⟩ hn hd
variable {a b:Expr} {ta tb:TE} {pos:Pos}
def PC (X:Cx) (op:CmpOp) (a b:Expr) (t:TE):Prop :=
 ∀ (pins:List (Addr × Obj)) (s:Shared) (σ:St) (H:Hp) (Q:VK),Inv X pins σ H s->t σ H Q ->
  wpAny (model X.prog X.w) X.A (eval a X.env) (fun v s₁=>wpAny (model X.prog X.w) X.A (eval b X.env) (fun u s₂=>wpAny (model X.prog X.w) X.A (compareOp op v u) (EP X pins σ Q) X.xe s₂) X.xe s₁) X.xe s
def tB (t:TE):TT:=fun σ H Q=>t σ H fun x H1=>∃ c,x=.bl c/\Q c H1
theorem zch {e:Expr} {t:TE} (h:PE X e t) (he:∀ whole,isTrue e X.env whole=(do let v <-whole;standAt e.pos;holding [v] (truthy v)):=by intro _;rfl):PT X e (tB t):=by
 intro pins s σ H Q I hw
 refine isTrue_plain (thn (h pins s σ H _ I hw) fun v s1 ⟨x,H1,I1,r1,q1⟩=>?_) (he _)
 obtain ⟨d,rfl,q⟩:=q1
 cases r1
 exact wpAny_truthy_bool ⟨H1,I1,q⟩
variable {tA tB':TT} {rest:List Expr}
def ztF (t u:TT):TT:=fun σ H Q=>t σ H fun c H1=>if c=true then u σ H1 Q else Q false H1
def tOr (t u:TT):TT:=fun σ H Q=>t σ H fun c H1=>if c=true then Q true H1 else u σ H1 Q
def zto (t:TT):TT:=fun σ H Q=>t σ H fun c H1=>Q (!c) H1
theorem zgw (ha:PT X a tA):PW X (.BoolOp .And [a] pos) tA:=by
 intro wh pins s σ H Q I h
 refine isTrue_and (thn (ha pins s σ H Q I h) fun c s1 e=>?_)
 cases c with
 | true=>exact isTrue_and_nil e
 | false=>exact e
theorem zmF (ha:PT X a tA):PW X (.BoolOp .Or [a] pos) tA:=by
 intro wh pins s σ H Q I h
 refine isTrue_or (thn (ha pins s σ H Q I h) fun c s1 e=>?_)
 cases c with
 | false=>exact isTrue_or_nil e
 | true=>exact e
theorem ze7 (ha:PT X a tA) (hb:PW X (.BoolOp .And (b::rest) pos) tB'):PW X (.BoolOp .And (a::b::rest) pos) (ztF tA tB'):=by
 intro wh pins s σ H Q I h
 refine isTrue_and (thn (ha pins s σ H _ I h) fun c s1 ⟨H1,I1,q1⟩=>?_)
 cases c with
 | true=>exact hb wh pins s1 σ H1 Q I1 q1
 | false=>exact ⟨H1,I1,q1⟩
theorem zlG (ha:PT X a tA) (hb:PW X (.BoolOp .Or (b::rest) pos) tB'):PW X (.BoolOp .Or (a::b::rest) pos) (tOr tA tB'):=by
 intro wh pins s σ H Q I h
 refine isTrue_or (thn (ha pins s σ H _ I h) fun c s1 ⟨H1,I1,q1⟩=>?_)
 cases c with
 | true=>exact ⟨H1,I1,q1⟩
 | false=>exact hb wh pins s1 σ H1 Q I1 q1
theorem zd4 (ha:PT X a tA):PT X (.UnaryOp .Not a pos) (zto tA):=by
 intro pins s σ H Q I h
 exact isTrue_not (ha pins s σ H (fun c H1=>Q (!c) H1) I h)
def zs0 (ta tb:TE):TE:=fun σ H Q=>ta σ H fun x H1=>∃ c,x=.bl c/\if c=true then tb σ H1 Q else Q (.bl false) H1
def zsR (ta:TE):TE:=fun σ H Q=>ta σ H fun x H1=>∃ c,x=.bl c/\Q (.bl (!c)) H1
theorem zdl {op} {t:TE} (h:PE X a t):PE X (.BoolOp op [a] pos) t:=fun pins s σ H Q I hw=>BoolOp_one (h pins s σ H Q I hw)
theorem zbR (ha:PE X a ta) (hb:PE X (.BoolOp .And (b::rest) pos) tb):PE X (.BoolOp .And (a::b::rest) pos) (zs0 ta tb):=by
 intro pins s σ H Q I h
 refine BoolOp_and (thn (ha pins s σ H _ I h) fun v s1 ⟨x,H1,I1,r1,q1⟩=>?_)
 obtain ⟨c,rfl,q1⟩:=q1
 cases r1
 refine wpAny_truthy_bool ?_
 cases c with
 | true=>exact hb pins s1 σ H1 Q I1 q1
 | false=>exact ⟨.bl false,H1,I1,rfl,q1⟩
theorem zmm (ha:PE X a ta):PE X (.UnaryOp .Not a pos) (zsR ta):=by
 intro pins s σ H Q I h
 refine UnaryOp_ (thn (ha pins s σ H _ I h) fun v s1 ⟨x,H1,I1,r1,q1⟩=>?_)
 obtain ⟨c,rfl,q1⟩:=q1
 cases r1
 exact not_of (wpAny_truthy_bool ⟨.bl (!c),H1,I1,rfl,q1⟩)
def tIf (t:TT) (ta tb:TE):TE:=fun σ H Q=>t σ H fun c H1=>if c=true then ta σ H1 Q else tb σ H1 Q
theorem zrb {c:Expr} (hc:PT X c tA) (ha:PE X a ta) (hb:PE X b tb):PE X (.IfExp c a b pos) (tIf tA ta tb):=by
 intro pins s σ H Q I h
 refine wpAny_IfExp (thn (hc pins s σ H _ I h) fun d s1 ⟨H1,I1,q1⟩=>?_)
 cases d with
 | true=>exact ha pins s1 σ H1 Q I1 q1
 | false=>exact hb pins s1 σ H1 Q I1 q1
end
def SqL (K:W.Frag) (H:Hp) (a:Addr) (xs:List V):Prop :=
 Rd H a (.lst xs) \/
  ∃ (o:Obj) (its:Array Value) (n:Nat),K.lookup a=some o/\o.cls=.type "list" /\ o.dict=none/\o.data=.seq its n/\its.size<=sizeLine/\Vals xs its.toList
def SqT (K:W.Frag) (H:Hp) (a:Addr) (xs:List V):Prop :=
 Rd H a (.tup xs) \/
  ∃ (o:Obj) (its:Array Value) (n:Nat),K.lookup a=some o/\o.cls=.type "tuple" /\ o.data=.seq its n/\its.size<=sizeLine/\Vals xs its.toList
noncomputable def ztp:Value->Option V
 | .none=>some .non
 | .bool b=>some (.bl b)
 | .int i _=>some (.int i)
 | .str x _=>some (.str x)
 | .bytes b _=>some (.byt b)
 | .float b _=>some (.flt b)
 | .ref a=>some (.ref a)
 | .type n=>some (.ty n)
 | _=>none
theorem RelV.abs {x:V} {u:Value} (r:RelV x u):ztp u=some x:=by
 cases x with
 | non=>cases r;rfl
 | bl _=>cases r;rfl
 | int _=>obtain ⟨t,rfl⟩:=r;rfl
 | str _=>obtain ⟨t,rfl⟩:=r;rfl
 | byt _=>obtain ⟨t,rfl⟩:=r;rfl
 | flt _=>obtain ⟨t,rfl⟩:=r;rfl
 | ref _=>cases r;rfl
 | ty _=>cases r;rfl
theorem RelV.inj {x y:V} {u:Value} (r:RelV x u) (q:RelV y u):x=y:=Option.some.inj (r.abs.symm.trans q.abs)
theorem Vals.inj:∀ {xs ys:List V} {us:List Value},Vals xs us->Vals ys us->xs=ys
 | _,_,_,.nil,.nil=>rfl
 | _,_,_,.cons r t,.cons r' t'=>by rw[r.inj r',Vals.inj t t']
section
variable {X:Cx} {pins:List (Addr × Obj)} {σ:St} {H:Hp} {s:Shared} {a:Addr} {xs ys:List V}
theorem SqL.of {K:W.Frag} (h:H a=some (.lst xs)):SqL K H a xs:=.inl (.inl h)
theorem SqT.of {K:W.Frag} (h:H a=some (.tup xs)):SqT K H a xs:=.inl (.inl h)
theorem Inv.list (I:Inv X pins σ H s) (h:SqL X.K H a xs):∃ its:List Value,Vals xs its/\PlainL s.heap a its.toArray/\xs.length<=sizeLine:=by
 rcases h with h | ⟨o,its,n,hk,hc,hd,hs,hz,r⟩
 ·obtain ⟨z,its,n,r,e⟩:=h.ok I.hok
  exact ⟨its,r,⟨_,n,e,rfl,rfl,rfl⟩,z⟩
 ·refine ⟨its.toList,r,⟨o,n,I.kIn a o hk,hc,hd,by simpa using hs⟩,?_⟩
  have e:=r.length
  simp only[yed] at e
  ac_rfl
theorem Inv.tuple (I:Inv X pins σ H s) (h:SqT X.K H a xs):∃ its:List Value,Vals xs its/\IsTup s.heap a its.toArray/\xs.length<=sizeLine:=by
 rcases h with h | ⟨o,its,n,hk,hc,hs,hz,r⟩
 ·obtain ⟨z,its,r,p⟩:=h.ok I.hok
  exact ⟨its,r,p,z⟩
 ·refine ⟨its.toList,r,⟨o,I.kIn a o hk,hc,n,by simpa using hs⟩,?_⟩
  have e:=r.length
  simp only[yed] at e
  ac_rfl
theorem Inv.zi5 (I:Inv X pins σ H s) (h:SqL X.K H a xs) (h':SqL X.K H a ys):xs=ys:=by
 obtain ⟨its,r,⟨o,n,e,_,_,d⟩,_⟩:=I.list h
 obtain ⟨its',r',⟨o',n',e',_,_,d'⟩,_⟩:=I.list h'
 rw[e] at e';cases e'
 rw[d] at d'
 injection d' with d1 _
 have:its=its':=by simpa using congrArg Array.toList d1
 subst this
 exact r.inj r'
end
noncomputable abbrev Cx.wish (X:Cx) (E:Value->Shared->Prop):Cx:={ X with xe:=E }
noncomputable abbrev Cx.nox (X:Cx):Cx:=X.wish fun _ _=>False
theorem Cx.Ok.wish {X:Cx} (ok:X.Ok) (E:Value->Shared->Prop):(X.wish E).Ok :=
 ⟨ok.mod,ok.kind,ok.glob,ok.blt,ok.above,ok.inj,ok.has,ok.cab,ok.hd,ok.frames,ok.stk,ok.exf,ok.bs,ok.bsz,ok.noex,ok.exfs,ok.funs,ok.frf⟩
theorem Cx.Ok.unwish {X:Cx} {E:Value->Shared->Prop} (ok:(X.wish E).Ok):X.Ok :=
 ⟨ok.mod,ok.kind,ok.glob,ok.blt,ok.above,ok.inj,ok.has,ok.cab,ok.hd,ok.frames,ok.stk,ok.exf,ok.bs,ok.bsz,ok.noex,ok.exfs,ok.funs,ok.frf⟩
section
variable {X:Cx} {pins:List (Addr × Obj)} {σ:St} {H:Hp} {s:Shared} {E:Value->Shared->Prop}
theorem Inv.wish (I:Inv X pins σ H s) (E:Value->Shared->Prop):Inv (X.wish E) pins σ H s:=⟨I.ok.wish E,I.os,I.bare,I.base,I.loc,I.cell,I.free,I.freeC,I.pin,I.hok,I.len⟩
theorem Inv.unwish (I:Inv (X.wish E) pins σ H s):Inv X pins σ H s:=⟨I.ok.unwish,I.os,I.bare,I.base,I.loc,I.cell,I.free,I.freeC,I.pin,I.hok,I.len⟩
theorem SP.unwish {D:Ends} {f:Flow} {s':Shared} (h:SP (X.wish E) pins D f s'):SP X pins D f s':=by
 cases f with
 | next=>obtain ⟨σ',H',I,q⟩:=h;exact ⟨σ',H',I.unwish,q⟩
 | brk=>obtain ⟨σ',H',I,q⟩:=h;exact ⟨σ',H',I.unwish,q⟩
 | cont=>obtain ⟨σ',H',I,q⟩:=h;exact ⟨σ',H',I.unwish,q⟩
 | ret u=>obtain ⟨v,σ',H',I,r,q⟩:=h;exact ⟨v,σ',H',I.unwish,r,q⟩
theorem PSs.nox {st:List Stmt} {t:TS} (h:PSs X.nox st t):PSs X st t:=fun pins s σ H D I hw =>
 wpAny_mono (h pins s σ H D (I.wish _) hw) (fun _ _ q=>q.unwish) fun _ _ z=>False.elim z
end
section
variable {X:Cx} {st:Stmt} {rest:List Stmt} {t u:TS} {e:Expr} {te:TE} {pos:Pos}
def zsZ:TS:=fun D σ H=>D.nx σ H
def zU (t u:TS):TS:=fun D σ H=>t { D with nx:=u D } σ H
theorem zA:PSs X [] zsZ:=fun _ _ σ H _ I h=>wpAny_execs_nil ⟨σ,H,I,h⟩
theorem zqK (h1:PS X st t) (h2:PSs X rest u):PSs X (st::rest) (zU t u):=by
 intro pins s σ H D I h
 refine wpAny_execs_cons (thn (h1 pins s σ H { D with nx:=u D } I h) fun f s1 q=>?_)
 cases f with
 | next =>
  obtain ⟨σ',H',I',q⟩:=q
  exact h2 pins s1 σ' H' D I' q
 | ret v=>exact q
 | brk=>exact q
 | cont=>exact q
theorem zg (h1:PS X st t):PSs X [st] t:=by
 intro pins s σ H D I h
 refine wpAny_execs_cons (thn (h1 pins s σ H D I h) fun f s1 q=>?_)
 cases f with
 | next=>exact wpAny_execs_nil q
 | ret v=>exact q
 | brk=>exact q
 | cont=>exact q
theorem Inv.quiet {pins:List (Addr × Obj)} {σ:St} {H:Hp} {s:Shared} (I:Inv X pins σ H s):interactive X.env=false:=by simp[interactive,I.ok.kind]
def zs2 (te:TE):TS:=fun D σ H=>te σ H fun _ H1=>D.nx σ H1
theorem zbM (he:PE X e te) (hs:swapsWith e none pos.line X.env=pure false:=by rfl):PS X (.Expr e pos) (zs2 te):=by
 intro pins s σ H D I h
 exact wpAny_Expr_any (thn (he pins s σ H _ I h) fun v s1 ⟨x,H1,I1,r1,q1⟩=>⟨σ,H1,I1,q1⟩) I.quiet hs
def ztD (te:TE):TS:=fun D σ H=>te σ H D.rt
theorem zj (he:PE X e te):PS X (.Return (some e) pos) (ztD te):=by
 intro pins s σ H D I h
 exact wpAny_Return_some (thn (he pins s σ H _ I h) fun v s1 ⟨x,H1,I1,r1,q1⟩=>⟨x,σ,H1,I1,r1,q1⟩)
def ztH (c:TT) (t u:TS):TS:=fun D σ H=>c σ H fun b H1=>if b=true then t D σ H1 else u D σ H1
theorem zK {c:Expr} {a b:List Stmt} {tc:TT} (hc:PT X c tc) (ha:PSs X a t) (hb:PSs X b u):PS X (.If c a b pos) (ztH tc t u):=by
 intro pins s σ H D I h
 refine wpAny_If (thn (hc pins s σ H _ I h) fun d s1 ⟨H1,I1,q1⟩=>?_)
 cases d with
 | true=>exact ha pins s1 σ H1 D I1 q1
 | false=>exact hb pins s1 σ H1 D I1 q1
def zsN:TS:=fun _ _ _=>False
theorem zhJ {sts:List Stmt}:PSs X sts zsN:=fun _ _ _ _ _ _ h=>h.elim
end
noncomputable abbrev TG:=V->St->Hp->(St->Hp->Prop)->Prop
noncomputable abbrev TGs:=List V->St->Hp->(St->Hp->Prop)->Prop
def PG (X:Cx) (target:Expr) (t:TG):Prop :=
 ∀ (pins:List (Addr × Obj)) (s:Shared) (σ:St) (H:Hp) (v:V) (u:Value) (Q:St->Hp->Prop),Inv X pins σ H s->RelV v u->t v σ H Q ->
  wpAny (model X.prog X.w) X.A (assign target X.env u) (fun _ s'=>∃ σ' H',Inv X pins σ' H' s'/\Q σ' H') X.xe s
def PGs (X:Cx) (ts:List Expr) (t:TGs):Prop :=
 ∀ (pins:List (Addr × Obj)) (s:Shared) (σ:St) (H:Hp) (vs:List V) (us:List Value) (Q:St->Hp->Prop),Inv X pins σ H s->Vals vs us->t vs σ H Q ->
  wpAny (model X.prog X.w) X.A (assignInOrder ((assignEach ts X.env).map (·.2)) us) (fun _ s'=>∃ σ' H',Inv X pins σ' H' s'/\Q σ' H') X.xe s
noncomputable abbrev TSet:=V->V->V->Hp->(Hp->Prop)->Prop
def PSet (X:Cx) (t:TSet):Prop :=
 ∀ (pins:List (Addr × Obj)) (s:Shared) (σ:St) (H:Hp) (o i v:V) (ov iv u:Value) (Q:Hp->Prop),Inv X pins σ H s->RelV o ov->RelV i iv->RelV v u->t o i v H Q ->
  wpAny (model X.prog X.w) X.A (setItem ov iv u) (fun _ s'=>∃ H',Inv X pins σ H' s'/\Q H') X.xe s
section
variable {X:Cx} {pos:Pos}
def zfx (i:Nat):TG:=fun v σ H Q=>Q (σ.set i (some v)) H
theorem zF {i:Nat} {x:Str} (hN:X.N.Nodup) (hi:X.N[i]?=some x) (hx:Loc X.env.scope x) (hf:X.fn x=true\/X.env.scope.names.lookup x=some .local:=by first | exact .inl rfl | exact .inr rfl | assumption):PG X (.Name x pos) (zfx i):=by
 intro pins s σ H v u Q I r h
 exact wpAny_assign_Name (zms I hN hi hx r (fun s' I'=>⟨_,H,I',h⟩) hf)
noncomputable def ztx:TGs:=fun vs σ H Q=>vs=[]/\Q σ H
noncomputable def zs3 (t:TG) (u:TGs):TGs:=fun vs σ H Q=>∃ v r,vs=v::r/\t v σ H fun σ' H'=>u r σ' H' Q
theorem zeN:PGs X [] ztx:=by
 intro pins s σ H vs us Q I r h
 obtain ⟨e,h⟩:=h
 subst e
 cases r
 exact assignInOrder_nil ⟨σ,H,I,h⟩
theorem zal {e:Expr} {es:List Expr} {t:TG} {u:TGs} (h1:PG X e t) (h2:PGs X es u)
  (hs:(assignEach (e::es) X.env).map (·.2)=assign e X.env::(assignEach es X.env).map (·.2):=by rfl):PGs X (e::es) (zs3 t u):=by
 intro pins s σ H vs us Q I r h
 obtain ⟨v,vr,e1,h⟩:=h
 subst e1
 cases r with
 | cons r rr =>
  rw[hs]
  refine assignInOrder_cons (thn (h1 pins s σ H _ _ _ I r h) fun _ s1 ⟨σ1,H1,I1,q1⟩=>?_)
  exact h2 pins s1 σ1 H1 _ _ Q I1 rr q1
def zts (K:W.Frag) (n:Nat) (t:TGs):TG:=fun v σ H Q=>∃ a xs,v=.ref a/\SqT K H a xs/\xs.length=n/\t xs σ H Q
theorem zgs {es:List Expr} {k:Nat} {t:TGs} {n:Nat} (hc:X.calm=true) (h:PGs X es t)
  (hn:(assignEach es X.env).length=n:=by rfl) (hst:(assignEach es X.env).findIdx? (·.1)=none:=by rfl):PG X (.Tuple es k pos) (zts X.K n t):=by
 intro pins s σ H v u Q I r hw
 obtain ⟨a,xs,e1,hq,hl,hw⟩:=hw
 subst e1
 cases r
 obtain ⟨its,rv,ht,hz⟩:=I.tuple hq
 refine assign_Tuple_tuple (I.ok.hd hc) ht (by simp[hn,<-hl,rv.length]) hst fun h' hx=>?_
 have I1:Inv X pins σ H { s with heap:=h' }:=I.kept (t':=s.toks) fun b o e=>hx b o (yda (ydr e)) e
 exact h pins _ σ H xs _ Q I1 (by simpa using rv) hw
def ztQ (to ti:TE) (t:TSet):TG:=fun v σ H Q=>to σ H fun o H1=>ti σ H1 fun i H2=>t o i v H2 fun H3=>Q σ H3
theorem zfa {o i:Expr} {to ti:TE} {t:TSet} (ho:PE X o to) (hi:PE X i ti) (hs:PSet X t)
  (ha:∀ v,assign (.Subscript o i pos) X.env v=(do
   let ov <-holding [v] (eval o X.env)
   let iv <-holding [v,ov] (eval i X.env)
   standAt pos
   holding [v,ov,iv] (setItem ov iv v)
   release [v,ov,iv] []):=by intro _;rfl):PG X (.Subscript o i pos) (ztQ to ti t):=by
 intro pins s σ H v u Q I r h
 rw[ha]
 refine wpAny_bind (wpAny_holding (thn (ho pins s σ H _ I h) fun ov s1 ⟨x,H1,I1,r1,q1⟩=>?_))
 refine wpAny_bind (wpAny_holding (thn (hi pins s1 σ H1 _ I1 q1) fun iv s2 ⟨y,H2,I2,r2,q2⟩=>?_))
 refine wpAny_bind (wpAny_standAt (wpAny_bind (wpAny_holding (thn (hs pins s2 σ H2 x y v ov iv u _ I2 r1 r2 r q2) fun _ s3 ⟨H3,I3,q3⟩=>?_))))
 exact wpAny_release ⟨σ,H3,I3,q3⟩
def zoZ (te:TE) (g:TG):TS:=fun D σ H=>te σ H fun x H1=>g x σ H1 D.nx
theorem zcl {tg e:Expr} {te:TE} {g:TG} (he:PE X e te) (hg:PG X tg g) (hs:swapsWithSole [tg] e pos.line X.env=pure false:=by rfl) (hw:swappedStores [tg] e X.env=pure none:=by rfl)
  (h1:(assignEach [tg] X.env).map (·.2)=[assign tg X.env]:=by rfl):PS X (.Assign [tg] e pos) (zoZ te g):=by
 intro pins s σ H D I h
 refine wpAny_Assign_stores (thn (he pins s σ H _ I h) fun v s1 ⟨x,H1,I1,r1,q1⟩=>?_) hs hw
 rw[h1]
 exact thn (hg pins s1 σ H1 x v _ I1 r1 q1) fun _ s2 q=>q
theorem zo {i:Nat} {x:Str} {e:Expr} {te:TE} {pos':Pos} (hN:X.N.Nodup) (hi:X.N[i]?=some x) (hx:Loc X.env.scope x) (he:PE X e te) (hs:swapsWith e (some (.Name x pos')) pos.line X.env=pure false:=by rfl) (hf:X.fn x=true\/X.env.scope.names.lookup x=some .local:=by first | exact .inl rfl | exact .inr rfl | assumption) :
  PS X (.Assign [.Name x pos'] e pos) (zoZ te (zfx i)):=by
 intro pins s σ H D I h
 refine wpAny_Assign_Name (thn (he pins s σ H _ I h) fun v s1 ⟨y,H1,I1,r1,q1⟩=>?_) hs
 exact zms I1 hN hi hx r1 (fun s2 I2=>⟨_,H1,I2,q1⟩) hf
end
section
variable {X:Cx} {pos:Pos}
def zst (c:TT) (tb:TS):TS:=fun D σ H=>∃ W:Nat->St->Hp->Prop,(∃ m,W m σ H)/\∀ m σ H,W m σ H ->
 c σ H fun b H1=>if b=true then ∃ N:St->Hp->Prop,(∀ σ' H',N σ' H'->∃ m',m'<m/\W m' σ' H')/\tb { D with nx:=N,ct:=N,bk:=D.nx } σ H1 else D.nx σ H1
theorem zme {c:Expr} {body:List Stmt} {tc:TT} {tb:TS} (hp:PassesOwn (model X.prog X.w) X.A X.env X.xe) (hc:PT X c tc) (hb:PSs X body tb):PS X (.While c body [] pos) (zst tc tb):=by
 intro pins s σ H D I h
 obtain ⟨W,⟨m0,w0⟩,turn⟩:=h
 refine wpAny_While (codeAny_whileLoop (fun n s'=>∃ σ' H',Inv X pins σ' H' s'/\W n σ' H') ?_ m0 ⟨σ,H,I,w0⟩)
 rintro n s1 ⟨σ1,H1,I1,w1⟩
 refine wpAny_passesOwn hp (thn (hc pins s1 σ1 H1 _ I1 (turn n σ1 H1 w1)) fun b s2 ⟨H2,I2,q2⟩=>?_)
 cases b with
 | true =>
  obtain ⟨N,hN,q2⟩:=q2
  rw[if_pos rfl]
  refine wpAny_passesOwn hp (thn (hb pins s2 σ1 H2 _ I2 q2) fun f s3 q3=>?_)
  cases f with
  | next =>
   obtain ⟨σ3,H3,I3,n3⟩:=q3
   obtain ⟨m',hm,w3⟩:=hN σ3 H3 n3
   exact ⟨m',hm,σ3,H3,I3,w3⟩
  | cont =>
   obtain ⟨σ3,H3,I3,n3⟩:=q3
   obtain ⟨m',hm,w3⟩:=hN σ3 H3 n3
   exact ⟨m',hm,σ3,H3,I3,w3⟩
  | brk=>exact q3
  | ret v=>exact q3
 | false =>
  rw[if_neg Bool.false_ne_true]
  exact wpAny_execs_nil ⟨σ1,H2,I2,q2⟩
end
structure It where
 go:Nat->Hp->Prop
 yld:Nat->Hp->V->Hp->Prop
 stop:Nat->Hp->Prop
def zbQ (X:Cx) (pins:List (Addr × Obj)) (H:Hp) (b:Addr):Prop :=
 H b=none/\b≠X.env.locals/\b ∉ X.fs/\(b∈X.ex\/X.s₀.heap.objs.size<=b)/\(∀ x c,X.env.cells.lookup x=some c->c≠b)/\∀ p∈X.pn++pins,p.1≠b
theorem Inv.zkr {X:Cx} {pins:List (Addr × Obj)} {σ:St} {H H':Hp} {s:Shared} {b:Addr} (I:Inv X pins σ H s) (hb:s.heap.objs.size<=b) (hn:H' b=none):zbQ X pins H' b:=by
 refine ⟨hn,ydj (ydb I.lt hb),I.nofs hb,.inr (yde I.sz hb),fun x c e z=>?_,fun p hp z=>?_⟩
 ·obtain ⟨v,q⟩:=I.cell x c e
  exact absurd (ydb q.lt (by rw[z];exact hb)) (ydf _)
 ·exact absurd (ydb (ydr (I.pin p hp).1) (by rw[z];exact hb)) (ydf _)
structure Turn (P:Program) (w:World) (K:W.Frag) (tg:Expr) (J:It) (fp:List Addr) (it:Addr) (tn:Nat->Heap->Prop):Prop where
 mem:it∈fp
 obj:∀ i h,tn i h->∀ b∈fp,∃ o,h.get? b=some o/\∀ v,o.data≠.cell v
 keep:∀ i h h',tn i h->(∀ b∈fp,∀ o,h.get? b=some o->h'.get? b=some o)->tn i h'
 item:∀ (X:Cx),X.prog=P->X.w=w->X.K=K->X.calm=true->∀ (i:Nat) (pins:List (Addr × Obj)) (s:Shared) (σ:St) (H:Hp) (E:Value->Shared->Prop),Inv X pins σ H s->(∀ b∈fp,zbQ X pins H b)->tn i s.heap->J.go i H ->
  wpAny (model P w) X.A (pyNext (.ref it)) (fun r s1=>∃ u,r=some u /\
   wpAny (model P w) X.A (letOwnedTupleGo tg (.ref it) u) (fun _ s2=>∃ x H',Inv X pins σ H' s2/\RelV x u/\J.yld i H x H'/\tn (i+1) s2.heap/\∀ b∈fp,H' b=none) E s1) E s
 done:∀ (X:Cx),X.prog=P->X.w=w->X.K=K->X.calm=true->∀ (i:Nat) (pins:List (Addr × Obj)) (s:Shared) (σ:St) (H:Hp) (E:Value->Shared->Prop),Inv X pins σ H s->(∀ b∈fp,zbQ X pins H b)->tn i s.heap->J.stop i H ->
  wpAny (model P w) X.A (pyNext (.ref it)) (fun r s1=>r=none/\Inv X pins σ H s1) E s
 self:∀ (A:Around) (i:Nat) (s:Shared) (Q:Value->Shared->Prop) (E:Value->Shared->Prop),tn i s.heap->Q (.ref it) s->wpAny (model P w) A (pyIter (.ref it)) Q E s
noncomputable abbrev TI:=St->Hp->(It->Hp->Prop)->Prop
def PIE (X:Cx) (pins:List (Addr × Obj)) (σ:St) (tg:Expr) (R:It->Hp->Prop) (itv:Value) (s2:Shared):Prop :=
 ∃ (it:Addr) (fp:List Addr) (tn:Nat->Heap->Prop) (J:It) (H':Hp),itv=.ref it/\Inv X pins σ H' s2/\Turn X.prog X.w X.K tg J fp it tn/\tn 0 s2.heap/\(∀ b∈fp,zbQ X pins H' b)/\R J H'
def PI (X:Cx) (tg iter:Expr) (wi:TI):Prop :=
 ∀ (pins:List (Addr × Obj)) (s:Shared) (σ:St) (H:Hp) (R:It->Hp->Prop),Inv X pins σ H s->wi σ H R ->
  wpAny (model X.prog X.w) X.A (eval iter X.env) (fun v s1=>wpAny (model X.prog X.w) X.A (pyIter v) (PIE X pins σ tg R) X.xe s1) X.xe s
theorem zrd {M:Model} {A:Around} {E:Value->Shared->Prop} {s:Shared} {tg:Expr} {it:Addr} {u:Value} {o:Obj} {n:String} {vs:Array Value} {Q:Unit->Shared->Prop} (ho:s.heap.get? it=some o) (hc:o.cls=.type n) (hd:o.data=.fields vs)
  (hn:["enumerate", "zip", "dict_itemiterator", "dict_reverseitemiterator", "odict_iterator", "itertools.zip_longest", "itertools.pairwise"].contains n=false) (hQ:Q () s):wpAny M A (letOwnedTupleGo tg (.ref it) u) Q E s:=by
 unfold letOwnedTupleGo
 cases tg <;> first
  | exact wpAny_pure hQ
  | (cases u <;> first
    | exact wpAny_pure hQ
    | (refine wpAny_bind (wpAny_load ho ?_)
       rw[hc,hd]
       show wpAny M A (if (["enumerate", "zip", "dict_itemiterator", "dict_reverseitemiterator", "odict_iterator", "itertools.zip_longest", "itertools.pairwise"].contains n && vs[0]? == some (rawInt _))=true then _ else _) Q E s
       rw[if_neg (by intro h;rw[hn,Bool.false_and] at h;cases h)]
       exact wpAny_pure hQ))
noncomputable def Itl (K:W.Frag) (a:Addr):It :=
 ⟨fun i H=>∃ xs x,SqL K H a xs/\xs[i]?=some x,fun i H x H'=>H'=H/\∀ xs,SqL K H a xs->xs[i]?=some x,fun i H=>∃ xs,SqL K H a xs/\xs.length<=i⟩
noncomputable def Itr (lo:Int) (n:Nat):It:=⟨fun i _=>i<n,fun i H x H'=>H'=H/\x=.int (lo+i),fun i _=>n<=i⟩
theorem zpC {P:Program} {w:World} {K:W.Frag} {tg:Expr} (a it:Addr):Turn P w K tg (Itl K a) [it] it (fun i h=>h.IsListIter it a i) where
 mem:=by simp
 obj:=fun i h st b hb=>by
  have e:b=it:=by simpa using hb
  subst e
  obtain ⟨o,e,c,d⟩:=st
  exact ⟨o,e,fun v z=>by rw[d] at z;cases z⟩
 keep:=fun i h h' st k=>st.at fun o e=>k it (by simp) o e
 item:=by
  intro X hP hw hK hc i pins s σ H E I hf st hg
  subst hP hw hK
  obtain ⟨xs,x,hq,hx⟩:=hg
  obtain ⟨its,rv,p,hz⟩:=I.list hq
  obtain ⟨u,hu,ru⟩:=rv.get hx
  obtain ⟨f0,f1,f2,f3,f4,f5⟩:=hf it (by simp)
  refine wpAny_pyNext_list_item st p.isList (x:=u) (by simpa using hu) fun h' st' sb=>?_
  have I1:Inv X pins σ H { s with heap:=h' }:=I.turned (t':=s.toks) (fun b o hb e=>(sb.2 b hb).trans e) f0 f1 f3 f4 f5
  obtain ⟨o,e,c,d⟩:=id st'
  exact ⟨u,rfl,zrd (s:={ s with heap:=h' }) e c d (by decide) ⟨x,H,I1,ru,⟨rfl,fun ys hy=>by rw[I.zi5 hy hq];exact hx⟩,st',fun b hb=>(hf b hb).1⟩⟩
 done:=by
  intro X hP hw hK hc i pins s σ H E I hf st hg
  subst hP hw hK
  obtain ⟨xs,hq,hx⟩:=hg
  obtain ⟨its,rv,p,hz⟩:=I.list hq
  obtain ⟨f0,f1,f2,f3,f4,f5⟩:=hf it (by simp)
  have hl:=rv.length
  exact wpAny_pyNext_list_end (I.ok.hd hc) st p.isList (by simp;ac_rfl) fun h' eb=>⟨rfl,I.turned (t':=s.toks) (fun b o hb e=>eb b o hb e) f0 f1 f3 f4 f5⟩
 self:=fun _ _ _ _ _ st h=>wpAny_pyIter_listiter st h
theorem zoy {P:Program} {w:World} {K:W.Frag} {tg:Expr} (it:Addr) (lo:Int) (n:Nat):Turn P w K tg (Itr lo n) [it] it (fun i h=>IsRangeIter h it (lo+(i:Nat)*1) ((n:Int)-(i:Nat)) 1) where
 mem:=by simp
 obj:=fun i h st b hb=>by
  have e:b=it:=by simpa using hb
  subst e
  exact ⟨_,st,fun v z=>by
   have z':Data.fields _=Data.cell v:=z
   cases z'⟩
 keep:=fun i h h' st k=>k it (by simp) _ st
 item:=by
  intro X hP hw hK hc i pins s σ H E I hf st hg
  subst hP hw hK
  obtain ⟨f0,f1,f2,f3,f4,f5⟩:=hf it (by simp)
  have W:=Walks.range (prog:=X.prog) (w:=X.w) (I.ok.hd hc) it lo 1 n
  refine W.item i s _ _ hg st fun v h' tk hv st' kk=>?_
  obtain ⟨t,rfl⟩:=hv
  have I1:Inv X pins σ H { s with heap:=h',toks:=tk }:=I.turned (fun b o hb e=>kk b o (by simpa using hb) e) f0 f1 f3 f4 f5
  refine ⟨_,rfl,zrd (s:={ s with heap:=h',toks:=tk }) (n:="range_iterator") st' rfl rfl (by decide) ⟨.int (lo+i),H,I1,⟨t,?_⟩,⟨rfl,rfl⟩,st',fun b hb=>(hf b hb).1⟩⟩
  rw[Int.mul_one]
 done:=by
  intro X hP hw hK hc i pins s σ H E I hf st hg
  subst hP hw hK
  obtain ⟨f0,f1,f2,f3,f4,f5⟩:=hf it (by simp)
  exact wpAny_pyNext_range_end (I.ok.hd hc) st (by have:n<=i:=hg;ac_rfl) fun h' eb=>⟨rfl,I.turned (t':=s.toks) (fun b o hb e=>eb b o hb e) f0 f1 f3 f4 f5⟩
 self:=fun _ _ _ _ _ st h=>wpAny_pyIter_rangeiter st h
section
variable {X:Cx} {tg:Expr}
def zs1 (K:W.Frag) (tl:TE):TI:=fun σ H R=>tl σ H fun x H1=>∃ a,x=.ref a/\(∃ xs,SqL K H1 a xs)/\R (Itl K a) H1
theorem zV {l:Expr} {tl:TE} (hl:PE X l tl):PI X tg l (zs1 X.K tl):=by
 intro pins s σ H R I h
 refine thn (hl pins s σ H _ I h) fun v s1 ⟨x,H1,I1,r1,q1⟩=>?_
 obtain ⟨a,e,⟨xs,hq⟩,q⟩:=q1
 subst e
 cases r1
 obtain ⟨its,rv,p,hz⟩:=I1.list hq
 refine wpAny_pyIter_list p.isList ?_
 refine ⟨s1.heap.objs.size,[s1.heap.objs.size],_,_,H1,rfl,I1.kept (t':=s1.toks) fun b o e=>ydq _ e,zpC a _,⟨_,yds _ rfl,rfl,rfl⟩,fun b hb=>?_,q⟩
 have e:b=s1.heap.objs.size:=by simpa using hb
 subst e
 exact I1.zkr (ycz _) (I1.hok.fresh (ycz _))
theorem zmN {pins:List (Addr × Obj)} {σ:St} {H:Hp} {s:Shared} {R:It->Hp->Prop} {E:Value->Shared->Prop} {lo hi:Int} {t u v:Tok} {tk:Nat} (I:Inv X pins σ H s) (h1:-(2 ^ 62)<=lo) (h2:lo<2 ^ 62) (h3:-(2 ^ 62)<=hi) (h4:hi<2 ^ 62)
  (q:R (Itr lo (hi-lo).toNat) H):wpAny (model X.prog X.w) X.A (pyIter (.ref s.heap.objs.size)) (PIE X pins σ tg R) E { s with heap:=s.heap.push { cls:=.type "range", data:=.fields #[.int lo t,.int hi u,.int 1 v] },toks:=tk }:=by
 refine wpAny_pyIter_range (IsRange.new ..) (small_one h1 h2 h3 h4) ?_
 have I1:Inv X pins σ H { s with heap:=s.heap.push { cls:=.type "range", data:=.fields #[.int lo t,.int hi u,.int 1 v] },toks:=tk }:=I.kept fun b o e=>ydq _ e
 refine ⟨(s.heap.push { cls:=.type "range", data:=.fields #[.int lo t,.int hi u,.int 1 v] }).objs.size,[(s.heap.push { cls:=.type "range", data:=.fields #[.int lo t,.int hi u,.int 1 v] }).objs.size],_,_,H,rfl,
  I1.kept (t':=tk) fun b o e=>ydq _ e,zoy _ lo (hi-lo).toNat,?_,fun b hb=>?_,q⟩
 ·have e1:lo+((0:Nat):Int)*1=lo:=by simp
  have e2:(((hi-lo).toNat:Nat):Int)-((0:Nat):Int)=Builtin.Range.rangeSize lo hi 1:=by rw[rangeSize_one];split <;> ac_rfl
  show IsRangeIter _ _ (lo+((0:Nat):Int)*1) ((((hi-lo).toNat:Nat):Int)-((0:Nat):Int)) 1
  rw[e1,e2]
  exact yds _ rfl
 ·have e:b=(s.heap.push { cls:=.type "range", data:=.fields #[.int lo t,.int hi u,.int 1 v] }).objs.size:=by simpa using hb
  subst e
  exact I1.zkr (ycz _) (I1.hok.fresh (ycz _))
def zs7 (ta:TA):TI:=fun σ H R=>ta σ H fun vs H1=>∃ j:Int,vs=[.int j] /\ -(2 ^ 62)<=j/\j<2 ^ 62/\R (Itr 0 j.toNat) H1
def zte (ta:TA):TI:=fun σ H R=>ta σ H fun vs H1=>∃ i j:Int,vs=[.int i,.int j]/\(-(2 ^ 62)<=i/\i<2 ^ 62 /\ -(2 ^ 62)<=j/\j<2 ^ 62)/\R (Itr i (j-i).toNat) H1
theorem zfE {a:Expr} {ta:TA} {p pos:Pos} (hg:Gl X "range") (hm:X.mg "range" = none) (ha:PA X [a] ta) (hs:starEach [a] X.env=[(false,eval a X.env)]:=by rfl):PI X tg (.Call (.Name "range" p) [a] [] pos) (zs7 ta):=by
 intro pins s σ H R I h
 refine Call_ (zgD I hg hm boot_range (PyProof.Rows.callWith_type1 (thn (ha pos pins s σ H _ I h) fun us s1 ⟨vs,H1,I1,r1,q1⟩=>?_) hs rfl))
 obtain ⟨j,e,q1,q2,q⟩:=q1
 subst e
 cases r1 with
 | cons r rr =>
  cases rr
  obtain ⟨t,rfl⟩:=r
  exact call_range_1 (zmN I1 (by ac_rfl) (by ac_rfl) q1 q2 (by simpa using q))
theorem zfw {a b:Expr} {ta:TA} {p pos:Pos} (hg:Gl X "range") (hm:X.mg "range" = none) (ha:PA X [a,b] ta) (hs:starEach [a,b] X.env=[(false,eval a X.env),(false,eval b X.env)]:=by rfl) (hs2:starEach [b] X.env=[(false,eval b X.env)]:=by rfl) :
  PI X tg (.Call (.Name "range" p) [a,b] [] pos) (zte ta):=by
 intro pins s σ H R I h
 refine Call_ (zgD I hg hm boot_range (PyProof.Rows.callWith_type1 (thn (ha pos pins s σ H _ I h) fun us s1 ⟨vs,H1,I1,r1,q1⟩=>?_) (by rw[hs,hs2]) (by rw[hs2];rfl)))
 obtain ⟨i,j,e,⟨q1,q2,q3,q4⟩,q⟩:=q1
 subst e
 cases r1 with
 | cons r rr =>
  cases rr with
  | cons r' rr =>
   cases rr
   obtain ⟨t,rfl⟩:=r
   obtain ⟨t',rfl⟩:=r'
   exact call_range_2 (zmN I1 q1 q2 q3 q4 q)
def ztS (wi:TI) (g:TG) (tb:TS):TS:=fun D σ H=>wi σ H fun J H1=>∃ W:Nat->Nat->St->Hp->Prop,(∃ m,W 0 m σ H1)/\∀ i m σ H,W i m σ H ->
 (J.stop i H/\D.nx σ H)\/(J.go i H/\∃ N:St->Hp->Prop,(∀ σ' H',N σ' H'->∃ m',m'<m/\W (i+1) m' σ' H')/\∀ x H',J.yld i H x H'->g x σ H' fun σ2 H2=>tb { D with nx:=N,ct:=N,bk:=D.nx } σ2 H2)
noncomputable def zhV (fp:List Addr) (h:Heap):List (Addr × Obj):=fp.filterMap fun b=>(h.get? b).map fun o=>(b,o)
theorem zb3 {fp:List Addr} {h:Heap} {b:Addr} {o:Obj} (hb:b∈fp) (e:h.get? b=some o):(b,o)∈zhV fp h:=List.mem_filterMap.mpr ⟨b,hb,by rw[e];rfl⟩
theorem zpQ {fp:List Addr} {h:Heap} {p:Addr × Obj} (hp:p∈zhV fp h):p.1∈fp/\h.get? p.1=some p.2:=by
 obtain ⟨b,hb,e⟩:=List.mem_filterMap.mp hp
 cases q:h.get? b with
 | none=>rw[q] at e;cases e
 | some o =>
  rw[q] at e
  have e':(b,o)=p:=Option.some.inj e
  subst e'
  exact ⟨hb,q⟩
theorem Inv.pinned {pins:List (Addr × Obj)} {σ:St} {H:Hp} {s:Shared} {fp:List Addr} (I:Inv X pins σ H s) (hf:∀ b∈fp,zbQ X pins H b) (ho:∀ b∈fp,∃ o,s.heap.get? b=some o/\∀ v,o.data≠.cell v):Inv X (pins++zhV fp s.heap) σ H s :=
 I.zkz fun p hp=>(yam.mp hp).elim (fun z=>I.pin p (yai _ z)) fun z=>by
  obtain ⟨hb,e⟩:=zpQ z
  obtain ⟨f0,f1,f2,_⟩:=hf p.1 hb
  obtain ⟨o,e',d⟩:=ho p.1 hb
  rw[e] at e';cases e'
  exact ⟨e,f0,f1,f2,d⟩
theorem Inv.unpinned {pins pl:List (Addr × Obj)} {σ:St} {H:Hp} {s:Shared} (I:Inv X (pins++pl) σ H s):Inv X pins σ H s:=I.zkz fun p hp=>I.pin p (yai _ (ybg _ hp))
theorem zaE {iter:Expr} {body:List Stmt} {wi:TI} {g:TG} {tb:TS} {pos:Pos} (hp:PassesOwn (model X.prog X.w) X.A X.env X.xe) (hc:X.calm=true) (hi:PI X tg iter wi) (hg:PG X tg g) (hb:PSs X body tb)
  (hs:∀ x,foldedSetIterable iter X.env x=pure x:=by intro _;rfl):PS X (.For tg iter body [] pos) (ztS wi g tb):=by
 intro pins s σ H D I h
 refine wpAny_For (thn (hi pins s σ H _ I h) fun v s1 h1=>thn h1 fun itv s2 h2=>?_) hs
 obtain ⟨it,fp,tn,J,H2,e,I2,T,st2,f2,W,⟨m0,w0⟩,turn⟩:=h2
 subst e
 have stat:∀ {H':Hp},(∀ b∈fp,H' b=none)->∀ b∈fp,zbQ X pins H' b:=fun hn b hb=>⟨hn b hb,(f2 b hb).2⟩
 refine codeAny_forLoop_any (fun n s'=>∃ i σ' H',Inv X pins σ' H' s'/\tn i s'.heap/\(∀ b∈fp,H' b=none)/\W i n σ' H') ?_ m0 ⟨0,σ,H2,I2,st2,fun b hb=>(f2 b hb).1,w0⟩
 rintro n s3 ⟨i,σ3,H3,I3,st3,fr3,w3⟩
 rcases turn i n σ3 H3 w3 with ⟨stop,qn⟩ | ⟨go,N,hN,step⟩
 ·refine wpAny_passesOwn hp (thn (T.done X rfl rfl rfl hc i pins s3 σ3 H3 X.xe I3 (stat fr3) st3 stop) fun r s4 ⟨hr,I4⟩=>?_)
  subst hr
  exact wpAny_execs_nil ⟨σ3,H3,I4,qn⟩
 ·refine wpAny_passesOwn hp (thn (T.item X rfl rfl rfl hc i pins s3 σ3 H3 X.xe I3 (stat fr3) st3 go) fun r s4 ⟨u,hr,h4⟩=>?_)
  subst hr
  refine wpAny_passesOwn hp (thn h4 fun _ s5 ⟨x,H5,I5,r5,y5,st5,fr5⟩=>?_)
  have I5':=I5.pinned (stat fr5) (T.obj _ _ st5)
  refine wpAny_passesOwn hp (thn (hg _ s5 σ3 H5 x u _ I5' r5 (step x H5 y5)) fun _ s6 ⟨σ6,H6,I6,q6⟩=>?_)
  refine wpAny_passesOwn hp (thn (hb _ s6 σ6 H6 _ I6 q6) fun f s7 q7=>?_)
  have again:∀ {σ7:St} {H7:Hp},Inv X (pins++zhV fp s5.heap) σ7 H7 s7->N σ7 H7->∃ m,m<n/\∃ i σ' H',Inv X pins σ' H' s7/\tn i s7.heap/\(∀ b∈fp,H' b=none)/\W i m σ' H':=fun {σ7 H7} I7 n7=>by
   obtain ⟨m',hm,w7⟩:=hN σ7 H7 n7
   refine ⟨m',hm,i+1,σ7,H7,I7.unpinned,T.keep _ _ _ st5 fun b hb o e=>(I7.pin (b,o) (yai _ (yai _ (zb3 hb e)))).1,fun b hb=>?_,w7⟩
   obtain ⟨o,e,d⟩:=T.obj _ _ st5 b hb
   exact (I7.pin (b,o) (yai _ (yai _ (zb3 hb e)))).2.1
  cases f with
  | next=>obtain ⟨σ7,H7,I7,n7⟩:=q7;exact again I7 n7
  | cont=>obtain ⟨σ7,H7,I7,n7⟩:=q7;exact again I7 n7
  | brk=>obtain ⟨σ7,H7,I7,q7⟩:=q7;exact ⟨σ7,H7,I7.unpinned,q7⟩
  | ret v=>obtain ⟨x7,σ7,H7,I7,r7,q7⟩:=q7;exact ⟨x7,σ7,H7,I7.unpinned,r7,q7⟩
end
theorem zbz {K:W.Frag} {a:Addr} {xs:List V} {g:TG} {tb:TS} {D:Ends} {σ:St} {H:Hp} (Pv:Nat->St->Hp->Prop) (h0:Pv 0 σ H) (hl:∀ i σ H,i<=xs.length->Pv i σ H->SqL K H a xs)
  (hs:∀ i x σ H,xs[i]?=some x->Pv i σ H->g x σ H fun σ2 H2=>tb { D with nx:=Pv (i+1),ct:=Pv (i+1),bk:=D.nx } σ2 H2) (hd:∀ σ H,Pv xs.length σ H->D.nx σ H) :
  ∃ W:Nat->Nat->St->Hp->Prop,(∃ m,W 0 m σ H)/\∀ i m σ H,W i m σ H ->
   ((Itl K a).stop i H/\D.nx σ H)\/((Itl K a).go i H/\∃ N:St->Hp->Prop,(∀ σ' H',N σ' H'->∃ m',m'<m/\W (i+1) m' σ' H')/\∀ x H',(Itl K a).yld i H x H'->g x σ H' fun σ2 H2=>tb { D with nx:=N,ct:=N,bk:=D.nx } σ2 H2):=by
 refine ⟨fun i m σ H=>m=xs.length-i/\i<=xs.length/\Pv i σ H,⟨xs.length,by simp,ydc _,h0⟩,?_⟩
 rintro i m σ H ⟨rfl,hi,p⟩
 have q:=hl i σ H hi p
 by_cases hlt:i<xs.length
 ·refine .inr ⟨⟨xs,xs[i],q,by simp[hlt]⟩,Pv (i+1),fun σ' H' p'=>⟨xs.length-(i+1),by ac_rfl,rfl,hlt,p'⟩,fun x H' y=>?_⟩
  obtain ⟨e,y⟩:=y
  subst e
  exact hs i x σ _ (y xs q) p
 ·have e:i=xs.length:=by ac_rfl
  subst e
  exact .inl ⟨⟨xs,q,ycz _⟩,hd σ H p⟩
theorem zbW {lo:Int} {n:Nat} {g:TG} {tb:TS} {D:Ends} {σ:St} {H:Hp} (Pv:Nat->St->Hp->Prop) (h0:Pv 0 σ H)
  (hs:∀ i σ H,i<n->Pv i σ H->g (.int (lo+i)) σ H fun σ2 H2=>tb { D with nx:=Pv (i+1),ct:=Pv (i+1),bk:=D.nx } σ2 H2) (hd:∀ σ H,Pv n σ H->D.nx σ H) :
  ∃ W:Nat->Nat->St->Hp->Prop,(∃ m,W 0 m σ H)/\∀ i m σ H,W i m σ H ->
   ((Itr lo n).stop i H/\D.nx σ H)\/((Itr lo n).go i H/\∃ N:St->Hp->Prop,(∀ σ' H',N σ' H'->∃ m',m'<m/\W (i+1) m' σ' H')/\∀ x H',(Itr lo n).yld i H x H'->g x σ H' fun σ2 H2=>tb { D with nx:=N,ct:=N,bk:=D.nx } σ2 H2):=by
 refine ⟨fun i m σ H=>m=n-i/\i<=n/\Pv i σ H,⟨n,by simp,ydc _,h0⟩,?_⟩
 rintro i m σ H ⟨rfl,hi,p⟩
 by_cases hlt:i<n
 ·refine .inr ⟨hlt,Pv (i+1),fun σ' H' p'=>⟨n-(i+1),by ac_rfl,rfl,hlt,p'⟩,fun x H' y=>?_⟩
  obtain ⟨e,y⟩:=y
  subst e y
  exact hs i σ _ hlt p
 ·have e:i=n:=by ac_rfl
  subst e
  exact .inl ⟨ycz _,hd σ H p⟩
noncomputable abbrev R2:=V->V->Hp->VK->Prop
def OpR (X:Cx) (f:Value->Value->Sem Value) (r:R2):Prop :=
 ∀ (pins:List (Addr × Obj)) (s:Shared) (σ:St) (H:Hp) (x y:V) (v u:Value) (Q:VK),Inv X pins σ H s->RelV x v->RelV y u->r x y H Q ->
  wpAny (model X.prog X.w) X.A (f v u) (EP X pins σ Q) X.xe s
def UnR (X:Cx) (f:Value->Sem Value) (r:V->Hp->VK->Prop):Prop :=
 ∀ (pins:List (Addr × Obj)) (s:Shared) (σ:St) (H:Hp) (x:V) (v:Value) (Q:VK),Inv X pins σ H s->RelV x v->r x H Q ->
  wpAny (model X.prog X.w) X.A (f v) (EP X pins σ Q) X.xe s
def zaN (X:Cx) (f:Value) (r:List V->Hp->VK->Prop):Prop :=
 ∀ (pins:List (Addr × Obj)) (s:Shared) (σ:St) (H:Hp) (xs:List V) (us:List Value) (Q:VK),Inv X pins σ H s->Vals xs us->r xs H Q ->
  wpAny (model X.prog X.w) X.A (call f us) (EP X pins σ Q) X.xe s
def tOp (r:R2) (ta tb:TE):TE:=fun σ H Q=>ta σ H fun x H1=>tb σ H1 fun y H2=>r x y H2 Q
def tUn (r:V->Hp->VK->Prop) (ta:TE):TE:=fun σ H Q=>ta σ H fun x H1=>r x H1 Q
def rI (C:Int->Int->Prop) (g:Int->Int->V):R2:=fun x y H Q=>∃ i j,x=.int i/\y=.int j/\C i j/\Q (g i j) H
def rI0 (g:Int->Int->V):R2:=fun x y H Q=>∃ i j,x=.int i/\y=.int j/\Q (g i j) H
noncomputable def rU (g:Int->V):V->Hp->VK->Prop:=fun x H Q=>∃ i,x=.int i/\Q (g i) H
section
variable {X:Cx} {a b c:Expr} {ta tb tc:TE} {pos:Pos}
theorem zqX (ha:PE X a ta) (hb:PE X b tb) {pins:List (Addr × Obj)} {s:Shared} {σ:St} {H:Hp} {R:V->V->Hp->Prop} (I:Inv X pins σ H s)
  (h:ta σ H fun x H1=>tb σ H1 fun y H2=>R x y H2) {Q:Value->Shared->Prop} {f:Value->Value->Sem Value}
  (hf:∀ v u s2 x y H2,Inv X pins σ H2 s2->RelV x v->RelV y u->R x y H2->wpAny (model X.prog X.w) X.A (f v u) Q X.xe s2) :
  wpAny (model X.prog X.w) X.A (eval a X.env) (fun v s₁=>wpAny (model X.prog X.w) X.A (eval b X.env) (fun u s₂=>wpAny (model X.prog X.w) X.A (f v u) Q X.xe s₂) X.xe s₁) X.xe s:=by
 refine thn (ha pins s σ H _ I h) fun v s1 ⟨x,H1,I1,r1,q1⟩=>?_
 refine thn (hb pins s1 σ H1 _ I1 q1) fun u s2 ⟨y,H2,I2,r2,q2⟩=>?_
 exact hf v u s2 x y H2 I2 r1 r2 q2
theorem zh {op:Operator} {r:R2} (ho:OpR X (binaryOp op) r) (ha:PE X a ta) (hb:PE X b tb):PE X (.BinOp a op b pos) (tOp r ta tb):=by
 intro pins s σ H Q I h
 exact wpAny_BinOp (zqX ha hb I h fun v u s2 x y H2 I2 rx ry q=>ho pins s2 σ H2 x y v u Q I2 rx ry q)
theorem ziA {op:UnaryOp} {r:V->Hp->VK->Prop} (ho:UnR X (unaryOp op) r) (ha:PE X a ta):PE X (.UnaryOp op a pos) (tUn r ta):=by
 intro pins s σ H Q I h
 exact UnaryOp_ (thn (ha pins s σ H _ I h) fun v s1 ⟨x,H1,I1,r1,q1⟩=>ho pins s1 σ H1 x v Q I1 r1 q1)
theorem opI {f:Value->Value->Sem Value} {C:Int->Int->Prop} {g:Int->Int->Int}
  (rule:∀ (i j:Int) (t u:Tok) (s:Shared) (Q:Value->Shared->Prop) (E:Value->Shared->Prop),C i j->Q (.int (g i j) s.toks) { s with toks:=s.toks+1 }->wpAny (model X.prog X.w) X.A (f (.int i t) (.int j u)) Q E s) :
  OpR X f (rI C fun i j=>.int (g i j)):=by
 intro pins s σ H x y v u Q I rx ry h
 obtain ⟨i,j,rfl,rfl,hc,q⟩:=h
 obtain ⟨t,rfl⟩:=rx
 obtain ⟨t',rfl⟩:=ry
 exact rule i j t t' s _ _ hc ⟨.int (g i j),H,I.tok _,⟨_,rfl⟩,q⟩
theorem zsr {f:Value->Value->Sem Value} {g:Int->Int->Int}
  (rule:∀ (i j:Int) (t u:Tok) (s:Shared) (Q:Value->Shared->Prop) (E:Value->Shared->Prop),Q (.int (g i j) s.toks) { s with toks:=s.toks+1 }->wpAny (model X.prog X.w) X.A (f (.int i t) (.int j u)) Q E s) :
  OpR X f (rI0 fun i j=>.int (g i j)):=by
 intro pins s σ H x y v u Q I rx ry h
 obtain ⟨i,j,rfl,rfl,q⟩:=h
 obtain ⟨t,rfl⟩:=rx
 obtain ⟨t',rfl⟩:=ry
 exact rule i j t t' s _ _ ⟨.int (g i j),H,I.tok _,⟨_,rfl⟩,q⟩
theorem zqx {f:Value->Value->Sem Value} {g:Int->Int->Bool}
  (rule:∀ (i j:Int) (t u:Tok) (s:Shared) (Q:Value->Shared->Prop) (E:Value->Shared->Prop),Q (.bool (g i j)) s->wpAny (model X.prog X.w) X.A (f (.int i t) (.int j u)) Q E s) :
  OpR X f (rI0 fun i j=>.bl (g i j)):=by
 intro pins s σ H x y v u Q I rx ry h
 obtain ⟨i,j,rfl,rfl,q⟩:=h
 obtain ⟨t,rfl⟩:=rx
 obtain ⟨t',rfl⟩:=ry
 exact rule i j t t' s _ _ ⟨.bl (g i j),H,I,rfl,q⟩
def CDiv (i j:Int):Prop:=0<j/\j<1073741824
def CPow (i j:Int):Prop:=0<=j/\j<=1000000/\i.natAbs<2 ^ 64
def CMul (i j:Int):Prop:=(-(2 ^ 64)<i/\i<2 ^ 64)\/(-(2 ^ 64)<j/\j<2 ^ 64)
theorem CMul.ok {i j:Int} (h:CMul i j):IntMulOk i j:=by
 rcases h with ⟨h1,h2⟩ | ⟨h1,h2⟩
 ·exact .of_left (intBits_le_64 h1 h2)
 ·exact .of_right (intBits_le_64 h1 h2)
theorem zD:OpR X (binaryOp .Add) (rI0 fun i j=>.int (i+j)):=zsr fun _ _ _ _ _ _ _ q=>add_int q
theorem zaj:OpR X (binaryOp .Sub) (rI0 fun i j=>.int (i-j)):=zsr fun _ _ _ _ _ _ _ q=>sub_int q
theorem zbI:OpR X (binaryOp .Mult) (rI CMul fun i j=>.int (i*j)):=opI fun _ _ _ _ _ _ _ hc q=>mul_int q hc.ok
theorem zad:OpR X (binaryOp .FloorDiv) (rI CDiv fun i j=>.int (i / j)):=opI fun i j _ _ _ _ _ hc q=>by
 have h1:(0:Int)<j:=hc.1
 have h2:j<1073741824:=hc.2
 exact floordiv_int (by ac_rfl) (by rw[Int.fdiv_eq_ediv_of_nonneg i (by ac_rfl)];exact q) (.inl (PyProof.noPylong_small (by ac_rfl)))
theorem zH:OpR X (binaryOp .Mod) (rI (fun _ j=>0<j) fun i j=>.int (i % j)):=opI fun i j _ _ _ _ _ hc q=>by
 have h1:(0:Int)<j:=hc
 exact mod_int' (by ac_rfl) (by rw[Int.fmod_eq_emod_of_nonneg i (by ac_rfl)];exact q)
theorem zsL:OpR X (binaryOp .Pow) (rI CPow fun i j=>.int (i ^ j.toNat)):=opI fun _ _ _ _ _ _ _ hc q=>pow_int_small hc.1 hc.2.1 hc.2.2 q
theorem unI {f:Value->Sem Value} {g:Int->Int}
  (rule:∀ (i:Int) (t:Tok) (s:Shared) (Q:Value->Shared->Prop) (E:Value->Shared->Prop),Q (.int (g i) s.toks) { s with toks:=s.toks+1 }->wpAny (model X.prog X.w) X.A (f (.int i t)) Q E s) :
  UnR X f (rU fun i=>.int (g i)):=by
 intro pins s σ H x v Q I rx h
 obtain ⟨i,rfl,q⟩:=h
 obtain ⟨t,rfl⟩:=rx
 exact rule i t s _ _ ⟨.int (g i),H,I.tok _,⟨_,rfl⟩,q⟩
theorem zgh:UnR X (unaryOp .USub) (rU fun i=>.int (-i)):=unI fun _ _ _ _ _ q=>neg_int q
end
noncomputable def scal:V->V->Bool
 | .non,.non=>true | .non,.int _=>true | .int _,.non=>true | .non,.bl _=>true | .bl _,.non=>true | .non,.str _=>true | .str _,.non=>true
 | .int _,.int _=>true | .bl _,.bl _=>true | .str _,.str _=>true | .byt _,.byt _=>true
 | .int _,.str _=>true | .str _,.int _=>true | .bl _,.str _=>true | .str _,.bl _=>true
 | _,_=>false
def rEq:R2:=fun x y H Q=>scal x y=true/\Q (.bl (decide (x=y))) H
def rNe:R2:=fun x y H Q=>scal x y=true/\Q (.bl (!decide (x=y))) H
theorem zol {i j:Int}:decide (V.int i=V.int j)=(i == j):=by
 rw[Bool.eq_iff_iff]
 simp
theorem zpl {i j:Bool}:decide (V.bl i=V.bl j)=(i == j):=by
 rw[Bool.eq_iff_iff]
 simp
theorem zn7 {i j:Str}:decide (V.str i=V.str j)=(i == j):=by
 rw[Bool.eq_iff_iff]
 simp
theorem zof {i j:Array UInt8}:decide (V.byt i=V.byt j)=(i.toList == j.toList):=by
 rw[Bool.eq_iff_iff]
 cases i
 cases j
 simp
section
variable {X:Cx} {a b c:Expr} {ta tb tc:TE} {pos:Pos}
theorem zZ {pins:List (Addr × Obj)} {σ:St} {H:Hp} {s:Shared} {Q:VK} {k k':Bool} (I:Inv X pins σ H s) (q:Q (.bl k) H) (e:k=k'):EP X pins σ Q (.bool k') s:=by
 subst e
 exact ⟨.bl k,H,I,rfl,q⟩
theorem zaa:OpR X (compareOp .Eq) rEq:=by
 intro pins s σ H x y v u Q I rx ry h
 obtain ⟨hs,q⟩:=h
 cases x with
 | non =>
  cases rx
  cases y with
  | non=>cases ry;exact PySem.EqNone.eq_none_none (zZ I q (by simp))
  | bl j=>cases ry;exact PySem.EqNone.eq_none_bool (zZ I q (by simp))
  | int j=>obtain ⟨t',rfl⟩:=ry;exact PySem.EqNone.eq_none_int (zZ I q (by simp))
  | str j=>obtain ⟨t',rfl⟩:=ry;exact PySem.EqNone.eq_none_str (zZ I q (by simp))
  | _=>exact absurd (show false=true from hs) Bool.false_ne_true
 | bl i =>
  cases rx
  cases y with
  | non=>cases ry;exact PySem.EqNone.eq_bool_none (zZ I q (by simp))
  | bl j=>cases ry;exact eq_bool (zZ I q zpl)
  | str j=>obtain ⟨t',rfl⟩:=ry;exact PySem.EqMixed.eq_bool_str (zZ I q (by simp))
  | _=>exact absurd (show false=true from hs) Bool.false_ne_true
 | int i =>
  obtain ⟨t,rfl⟩:=rx
  cases y with
  | non=>cases ry;exact PySem.EqNone.eq_int_none (zZ I q (by simp))
  | int j=>obtain ⟨t',rfl⟩:=ry;exact eq_int (zZ I q zol)
  | str j=>obtain ⟨t',rfl⟩:=ry;exact PySem.EqMixed.eq_int_str (zZ I q (by simp))
  | _=>exact absurd (show false=true from hs) Bool.false_ne_true
 | str i =>
  obtain ⟨t,rfl⟩:=rx
  cases y with
  | non=>cases ry;exact PySem.EqNone.eq_str_none (zZ I q (by simp))
  | bl j=>cases ry;exact PySem.EqMixed.eq_str_bool (zZ I q (by simp))
  | int j=>obtain ⟨t',rfl⟩:=ry;exact PySem.EqMixed.eq_str_int (zZ I q (by simp))
  | str j=>obtain ⟨t',rfl⟩:=ry;exact eq_str (zZ I q zn7)
  | _=>exact absurd (show false=true from hs) Bool.false_ne_true
 | byt i =>
  obtain ⟨t,rfl⟩:=rx
  cases y with
  | byt j=>obtain ⟨t',rfl⟩:=ry;exact PySem.W.eq_bytes (zZ I q zof)
  | _=>exact absurd (show false=true from hs) Bool.false_ne_true
 | _=>cases y <;> exact absurd (show false=true from hs) Bool.false_ne_true
theorem zoY:OpR X (compareOp .NotEq) rNe:=by
 intro pins s σ H x y v u Q I rx ry h
 obtain ⟨hs,q⟩:=h
 cases x with
 | non =>
  cases rx
  cases y with
  | non=>cases ry;exact PySem.EqNone.ne_none_none (zZ I q (by simp))
  | bl j=>cases ry;exact PySem.EqNone.ne_none_bool (zZ I q (by simp))
  | int j=>obtain ⟨t',rfl⟩:=ry;exact PySem.EqNone.ne_none_int (zZ I q (by simp))
  | str j=>obtain ⟨t',rfl⟩:=ry;exact PySem.EqNone.ne_none_str (zZ I q (by simp))
  | _=>exact absurd (show false=true from hs) Bool.false_ne_true
 | bl i =>
  cases rx
  cases y with
  | non=>cases ry;exact PySem.EqNone.ne_bool_none (zZ I q (by simp))
  | bl j=>cases ry;exact ne_bool (zZ I q (congrArg not zpl))
  | str j=>obtain ⟨t',rfl⟩:=ry;exact PySem.EqMixed.ne_bool_str (zZ I q (by simp))
  | _=>exact absurd (show false=true from hs) Bool.false_ne_true
 | int i =>
  obtain ⟨t,rfl⟩:=rx
  cases y with
  | non=>cases ry;exact PySem.EqNone.ne_int_none (zZ I q (by simp))
  | int j=>obtain ⟨t',rfl⟩:=ry;exact ne_int (zZ I q (congrArg not zol))
  | str j=>obtain ⟨t',rfl⟩:=ry;exact PySem.EqMixed.ne_int_str (zZ I q (by simp))
  | _=>exact absurd (show false=true from hs) Bool.false_ne_true
 | str i =>
  obtain ⟨t,rfl⟩:=rx
  cases y with
  | non=>cases ry;exact PySem.EqNone.ne_str_none (zZ I q (by simp))
  | bl j=>cases ry;exact PySem.EqMixed.ne_str_bool (zZ I q (by simp))
  | int j=>obtain ⟨t',rfl⟩:=ry;exact PySem.EqMixed.ne_str_int (zZ I q (by simp))
  | str j=>obtain ⟨t',rfl⟩:=ry;exact ne_str (zZ I q (congrArg not zn7))
  | _=>exact absurd (show false=true from hs) Bool.false_ne_true
 | byt i =>
  obtain ⟨t,rfl⟩:=rx
  cases y with
  | byt j=>obtain ⟨t',rfl⟩:=ry;exact PySem.W.ne_bytes (zZ I q (congrArg not zof))
  | _=>exact absurd (show false=true from hs) Bool.false_ne_true
 | _=>cases y <;> exact absurd (show false=true from hs) Bool.false_ne_true
theorem ziF:OpR X (compareOp .Lt) (rI0 fun i j=>.bl (decide (i<j))):=zqx fun _ _ _ _ _ _ _ q=>lt_int q
theorem zgQ:OpR X (compareOp .LtE) (rI0 fun i j=>.bl (decide (i<=j))):=zqx fun _ _ _ _ _ _ _ q=>le_int q
theorem zdK:OpR X (compareOp .Gt) (rI0 fun i j=>.bl (decide (j<i))):=zqx fun _ _ _ _ _ _ _ q=>gt_int q
theorem nomark (b:Expr) {op:CmpOp} (h:op≠.In:=by decide) (h2:op≠.NotIn:=by decide):behindInMarks op b=false:=by
 have e1:(op == CmpOp.In)=false:=by cases op <;> first | rfl | exact absurd rfl h
 have e2:(op == CmpOp.NotIn)=false:=by cases op <;> first | rfl | exact absurd rfl h2
 cases b <;> simp[behindInMarks,e1,e2]
theorem zeK {op:CmpOp} {r:R2} (ho:OpR X (compareOp op) r) (ha:PE X a ta) (hb:PE X b tb) (hm:behindInMarks op b=false):PE X (.Compare a [op] [b] pos) (tOp r ta tb):=by
 intro pins s σ H Q I h
 exact wpAny_Compare1 (zqX ha hb I h fun v u s2 x y H2 I2 rx ry q=>ho pins s2 σ H2 x y v u Q I2 rx ry q) hm
def zrm (t:TE):TT:=fun σ H Q=>t σ H fun x H'=>∃ k,x=.bl k/\Q k H'
theorem zr {op:CmpOp} {r:R2} (ho:OpR X (compareOp op) r) (ha:PE X a ta) (hb:PE X b tb) (hm:behindInMarks op b=false):PT X (.Compare a [op] [b] pos) (zrm (tOp r ta tb)):=by
 intro pins s σ H Q I h
 refine wpAny_isTrue_Compare1 (thn (ha pins s σ H _ I h) fun v s1 ⟨x,H1,I1,r1,q1⟩=>thn (hb pins s1 σ H1 _ I1 q1) fun u s2 ⟨y,H2,I2,r2,q2⟩ =>
  thn (ho pins s2 σ H2 x y v u _ I2 r1 r2 q2) fun c s3 ⟨z,H3,I3,r3,k,e,q3⟩=>?_) hm
 subst e
 cases r3
 exact wpAny_truthy_bool ⟨H3,I3,q3⟩
def zpL (r r':R2) (ta tb tc:TE):TE:=fun σ H Q=>ta σ H fun x H1=>tb σ H1 fun y H2=>r x y H2 fun z H3=>∃ k,z=.bl k /\
 (if k=true then tc σ H3 fun w' H4=>r' y w' H4 Q else Q (.bl false) H3)
theorem zqI {op op':CmpOp} {r r':R2} (ho:OpR X (compareOp op) r) (ho':OpR X (compareOp op') r') (ha:PE X a ta) (hb:PE X b tb) (hc:PE X c tc)
  (hm:lastMarks [op,op'] [b,c]=false:=by with_unfolding_all rfl):PE X (.Compare a [op,op'] [b,c] pos) (zpL r r' ta tb tc):=by
 intro pins s σ H Q I h
 refine Compare_chain (thn (ha pins s σ H _ I h) fun v s1 ⟨x,H1,I1,r1,q1⟩=>chain_link (thn (hb pins s1 σ H1 _ I1 q1) fun u s2 ⟨y,H2,I2,r2,q2⟩ =>
  thn (ho pins s2 σ H2 x y v u _ I2 r1 r2 q2) fun d s3 ⟨z,H3,I3,r3,k,e,q3⟩=>?_)) hm
 subst e
 cases r3
 refine wpAny_truthy_bool ?_
 cases k with
 | false=>exact ite_ff ⟨.bl false,H3,I3,rfl,q3⟩
 | true=>exact ite_tt (chain_last (thn (hc pins s3 σ H3 _ I3 q3) fun w' s4 ⟨z',H4,I4,r4,q4⟩=>ho' pins s4 σ H4 y z' u w' Q I4 r2 r4 q4))
theorem zqa {op op':CmpOp} {r r':R2} (ho:OpR X (compareOp op) r) (ho':OpR X (compareOp op') r') (ha:PE X a ta) (hb:PE X b tb) (hc:PE X c tc)
  (hm:lastMarks [op,op'] [b,c]=false:=by with_unfolding_all rfl):PT X (.Compare a [op,op'] [b,c] pos) (zrm (zpL r r' ta tb tc)):=by
 intro pins s σ H Q I h
 refine isTrue_chain (thn (ha pins s σ H _ I h) fun v s1 ⟨x,H1,I1,r1,q1⟩=>test_link (thn (hb pins s1 σ H1 _ I1 q1) fun u s2 ⟨y,H2,I2,r2,q2⟩ =>
  thn (ho pins s2 σ H2 x y v u _ I2 r1 r2 q2) fun d s3 ⟨z,H3,I3,r3,k,e,q3⟩=>?_)) hm
 subst e
 cases r3
 refine wpAny_truthy_bool ?_
 cases k with
 | false =>
  obtain ⟨k',e',q'⟩:=q3
  cases e'
  exact ite_ff ⟨H3,I3,q'⟩
 | true =>
  refine ite_tt (test_last (thn (hc pins s3 σ H3 _ I3 q3) fun w' s4 ⟨z',H4,I4,r4,q4⟩=>thn (ho' pins s4 σ H4 y z' u w' _ I4 r2 r4 q4) fun d' s5 ⟨z2,H5,I5,r5,k2,e2,q5⟩=>?_))
  subst e2
  cases r5
  exact wpAny_truthy_bool ⟨H5,I5,q5⟩
theorem zjS:(sizeLine:Nat)<2 ^ 63:=by rw[sizeLine_eq];decide
theorem vals1 {x:V} {us:List Value} (r:Vals [x] us):∃ u,us=[u]/\RelV x u:=by
 cases r with
 | cons r1 r2=>cases r2;exact ⟨_,rfl,r1⟩
theorem vals2 {x y:V} {us:List Value} (r:Vals [x,y] us):∃ u w',us=[u,w']/\RelV x u/\RelV y w':=by
 cases r with
 | cons r1 r2 =>
  cases r2 with
  | cons r3 r4=>cases r4;exact ⟨_,_,rfl,r1,r3⟩
theorem zaP (hc:X.calm=true):zaN X (.builtin "max") (fun xs H Q=>∃ i j,xs=[.int i,.int j]/\Q (.int (if j > i then j else i)) H):=by
 intro pins s σ H xs us Q I r h
 obtain ⟨i,j,rfl,q⟩:=h
 obtain ⟨u,w',rfl,⟨t,rfl⟩,⟨t',rfl⟩⟩:=vals2 r
 refine max_two_ints (I.ok.hd hc) fun h' tk k=>⟨_,H,I.kept k,?_,q⟩
 by_cases hj:j > i
 ·rw[if_pos hj,if_pos hj];exact ⟨_,rfl⟩
 ·rw[if_neg hj,if_neg hj];exact ⟨_,rfl⟩
theorem zbq (hc:X.calm=true):zaN X (.builtin "min") (fun xs H Q=>∃ i j,xs=[.int i,.int j]/\Q (.int (if j<i then j else i)) H):=by
 intro pins s σ H xs us Q I r h
 obtain ⟨i,j,rfl,q⟩:=h
 obtain ⟨u,w',rfl,⟨t,rfl⟩,⟨t',rfl⟩⟩:=vals2 r
 refine min_two_ints (I.ok.hd hc) fun h' tk k=>⟨_,H,I.kept k,?_,q⟩
 by_cases hj:j<i
 ·rw[if_pos hj,if_pos hj];exact ⟨_,rfl⟩
 ·rw[if_neg hj,if_neg hj];exact ⟨_,rfl⟩
theorem zfA:zaN X (.type "int") (fun xs H Q=>(∃ i,xs=[.int i]/\Q (.int i) H)\/∃ k,xs=[.bl k]/\Q (.int (if k then 1 else 0)) H):=by
 intro pins s σ H xs us Q I r h
 rcases h with ⟨i,rfl,q⟩ | ⟨k,rfl,q⟩
 ·obtain ⟨u,rfl,t,rfl⟩:=vals1 r
  exact call_int_int ⟨.int i,H,I,⟨_,rfl⟩,q⟩
 ·obtain ⟨u,rfl,r1⟩:=vals1 r
  cases r1
  exact call_int_bool ⟨.int (if k then 1 else 0),H,I.tok _,⟨_,rfl⟩,q⟩
end
structure zji (h:Heap) (x dx C:Addr) (mA:Str->Option Value):Prop where
 obj:h.get? x=some (PySem.W.instObj C dx)
 ns:h.Ns1 dx mA
 ne:dx≠x
theorem zpj {h:Heap} {dx:Addr} {mA:Str->Option Value} (n:h.Ns1 dx mA):∃ od,h.get? dx=some od/\∀ name,PySem.W.lookIn name od=some (mA name):=by
 obtain ⟨o,es,ep,ho,hd,hk,_,hm⟩:=n
 refine ⟨o,ho,fun name=>?_⟩
 have e:=hm name
 unfold nsFind findBy at e
 rw[<-Array.find?_toList] at e
 unfold PySem.W.lookIn
 rw[hd]
 dsimp only
 split
 ·rename_i y q
  rw[q] at e
  exact congrArg some e
 ·rename_i q
  rw[q] at e
  have a:es.toList.any (·.refKey)=false:=by
   rw[List.any_eq_false]
   intro y hy
   obtain ⟨z,t,hkey⟩:=hk y (Array.mem_toList_iff.mp hy)
   simp[DictEntry.refKey,hkey]
  have a':¬ es.toList.any (·.refKey)=true:=by rw[a];exact Bool.false_ne_true
  rw[if_neg a']
  exact congrArg some e
theorem zji.look {h:Heap} {x dx C:Addr} {mA:Str->Option Value} (I:zji h x dx C mA):∃ od,PySem.W.InstAt h x (PySem.W.instObj C dx) C (some od)/\∀ name,PySem.W.lookIn name od=some (mA name) :=
 let ⟨od,ho,hl⟩:=zpj I.ns
 ⟨od,⟨I.obj,rfl,rfl,ho⟩,hl⟩
section
variable {prog:Program} {w:World} {A:Around} {E:Value->Shared->Prop} {s:Shared} {K:W.Frag} {x dx C f:Addr} {mA:Str->Option Value} {name:Str} {v:Value}
theorem get_map {expr:Bool} {Q:Value->Shared->Prop} (X:K.In s.heap) (I:zji s.heap x dx C mA) (hg:PySem.W.plainGet K C name=true) (hh:PySem.W.hasDictIn K C=true)
  (ha:PySem.W.findIn K (.ref C) name=some none) (hv:mA name=some v) (hv':PySem.W.handedIn v=true) (h:Q v { s with toks:=s.toks+1 }) :
  wpAny (model prog w) A (getAttr (.ref x) name expr) Q E s:=by
 obtain ⟨od,J,hl⟩:=I.look
 exact PySem.W.get_value X J (PySem.W.plainGet_of hg).1 (PySem.W.findObj_own hh ha rfl (by rw[hl,hv])) hv' h
theorem zqv {pl:Sem Bool} {Q:Value × List Value->Shared->Prop} (X:K.In s.heap) (I:zji s.heap x dx C mA) (hg:PySem.W.plainGet K C name=true)
  (hf:PySem.W.findIn K (.ref C) name=some (some (.ref f))) (ht:PySem.W.isFn K (.ref f)=true) (hv:mA name=none) (h:Q (.ref f,[.ref x]) s) :
  wpAny (model prog w) A (getMethod (.ref x) name pl) Q E s:=by
 obtain ⟨od,J,hl⟩:=I.look
 exact PySem.W.method_fn X J (PySem.W.plainGet_of hg).1 (PySem.W.plainGet_of hg).2 hf (beq_iff_eq.mp ht) (by show (PySem.W.lookIn name od).map (·.isSome)=some false;rw[hl,hv];rfl) h
theorem zrK {ns:List Str} {Q:Unit->Shared->Prop} (X:K.In s.heap) (I:zji s.heap x dx C mA)
  (hs:PySem.W.findIn K (.ref C) "__setattr__" = some (some (.builtin "object.__setattr__"))) (hp:PySem.W.plainOver K C=true) (ht:PySem.W.takerIn K C name=some none) (hh:PySem.W.hasDictIn K C=true)
  (hw:PySem.Within mA ns) (hsz:ns.length<=sizeLine)
  (h:∀ h',zji h' x dx C (fun y=>if y=name then some v else mA y)->Heap.SameBut dx s.heap h'->Q () { s with heap:=h',toks:=s.toks+2 }) :
  wpAny (model prog w) A (setAttr (.ref x) name v) Q E s:=by
 obtain ⟨od,J,hl⟩:=I.look
 refine PySem.W.set_plain X J hs (PySem.W.osa_open (s:={ s with toks:=s.toks+1 }) (r:=none) X J hp ht fun b=>?_)
 obtain ⟨cd,hc,hd'⟩:=PySem.W.any_some hh
 have hx:s.heap.get? x=some ⟨.ref C,some dx,.plain,#[]⟩:=I.obj
 refine wpAny_bind (wpAny_pure (wpAny_bind (wpAny_bind (wpAny_loadPart hx (wpAny_bind (PySem.W.Looks.here (s:={ s with toks:=s.toks+1 }) (PySem.W.looks_clsIn X hc) ?_))))))
 rw[hd']
 refine wpAny_pure (a:=some dx) (wpAny_bind (wpAny_pure (wpAny_bind ?_)))
 refine wpAny_nsSet1 (s:={ s with toks:=s.toks+1 }) I.ns fun h' hn2 hs2=>?_
 obtain ⟨oD,esD,epD,hoD,hdD,hcD⟩:=hn2.count (PySem.Within.cons name v hw)
 refine wpAny_bind (wpAny_lookBehind hoD (by rw[hdD];exact pastItsLine_dict (yde hcD (by rw[yba];ac_rfl))) ?_)
 exact wpAny_pure (h _ ⟨(hs2.2 _ (Ne.symm I.ne)).trans I.obj,hn2,I.ne⟩ hs2)
theorem zq4 {R:Result->Shared->Prop} {vs:List Value} {kw:List (Str × Value)} (X:K.In s.heap) (hm:PySem.W.makesIn K C=true)
  (hi:PySem.W.findIn K (.ref C) "__init__" = some (some (.ref f))) (hf:PySem.W.typeIn K (.ref f)=some (.type "function"))
  (h:codeAny (model prog w) (A.under (.builtin "type.__call__" ⟨.ref C::vs,kw⟩)) (.call (.ref f) ⟨.ref (s.heap.objs.size+1)::vs,kw⟩) (PySem.W.InitBack (s.heap.objs.size+1) R)
   { s with heap:=(s.heap.push PySem.W.emptyDict).push (PySem.W.instObj C s.heap.objs.size) }) :
  codeAny (model prog w) A (.call (.ref C) ⟨vs,kw⟩) R s:=by
 obtain ⟨hh,g,d,t,os⟩:=s
 exact PySem.W.make_core (PySem.W.makes_of X hm) (PySem.W.looks_findIn X hi) (fun self=>PySem.W.bind_fn X self hf) (.inl rfl) h
theorem zpg {R:Result->Shared->Prop} (X:K.In s.heap) (hm:PySem.W.makesIn K C=true)
  (hi:PySem.W.findIn K (.ref C) "__init__" = some (some (.builtin "object.__init__")))
  (hb:∀ self,PySem.W.Looks (model prog w) s.heap (bindSpecial (.builtin "object.__init__") self) (.builtin "object.__init__", [self]))
  (h:codeAny (model prog w) (A.under (.builtin "type.__call__" ⟨[.ref C],[]⟩)) (.call (.builtin "object.__init__") ⟨[.ref (s.heap.objs.size+1)],[]⟩) (PySem.W.InitBack (s.heap.objs.size+1) R)
   { s with heap:=(s.heap.push PySem.W.emptyDict).push (PySem.W.instObj C s.heap.objs.size) }) :
  codeAny (model prog w) A (.call (.ref C) ⟨[],[]⟩) R s:=by
 obtain ⟨hh,g,d,t,os⟩:=s
 exact PySem.W.make_core (PySem.W.makes_of X hm) (PySem.W.looks_findIn X hi) hb (.inr ⟨rfl,rfl⟩) h
end
noncomputable def zat (f:Str) (v:V):List (Str × V)->List (Str × V)
 | []=>[(f,v)]
 | (g,x)::r=>if g=f then (g,v)::r else (g,x)::zat f v r
theorem ziL (f g:Str) (v:V):∀ fs:List (Str × V),(zat f v fs).lookup g=if g=f then some v else fs.lookup g
 | []=>by
  show yce g [(f,v)]=_
  by_cases h:g=f
  ·have hb:(g == f)=true:=beq_iff_eq.mpr h
   simp only[yce,hb,if_pos h]
  ·have hb:(g == f)=false:=beq_eq_false_iff_ne.mpr h
   simp only[yce,hb,if_neg h]
 | (k,x)::r=>by
  have ih:=ziL f g v r
  rw[show zat f v ((k,x)::r)=(if k=f then (k,v)::r else (k,x)::zat f v r) from rfl]
  by_cases hk:k=f
  ·rw[if_pos hk]
   by_cases h:g=k
   ·have hb:(g == k)=true:=beq_iff_eq.mpr h
    simp only[yce,hb,if_pos (h.trans hk)]
   ·have hb:(g == k)=false:=beq_eq_false_iff_ne.mpr h
    simp only[yce,hb,if_neg (fun e:g=f=>h (e.trans hk.symm))]
  ·rw[if_neg hk]
   by_cases h:g=k
   ·have hb:(g == k)=true:=beq_iff_eq.mpr h
    simp only[yce,hb,if_neg (fun e:g=f=>hk (h.symm.trans e))]
   ·have hb:(g == k)=false:=beq_eq_false_iff_ne.mpr h
    simp only[yce,hb]
    exact ih
theorem zh9 (f:Str) (v:V):∀ fs:List (Str × V),f∈(zat f v fs).map (·.1)/\∀ g,g∈fs.map (·.1)->g∈(zat f v fs).map (·.1)
 | []=>⟨by simp[zat],fun g h=>by simp at h⟩
 | (k,x)::r=>by
  obtain ⟨i1,i2⟩:=zh9 f v r
  rw[show zat f v ((k,x)::r)=(if k=f then (k,v)::r else (k,x)::zat f v r) from rfl]
  by_cases hk:k=f
  ·rw[if_pos hk]
   subst hk
   exact ⟨by simp,fun g h=>by simpa using h⟩
  ·rw[if_neg hk]
   refine ⟨?_,fun g h=>?_⟩
   ·rw[ybf]
    exact yak _ i1
   ·rw[ybf] at h ⊢
    rcases yaj.mp h with e | e
    ·exact yaj.mpr (.inl e)
    ·exact yak _ (i2 g e)
theorem ziR (f:Str) (v:V):∀ fs:List (Str × V),(zat f v fs).length<=fs.length+1
 | []=>by simp[zat]
 | (k,x)::r=>by
  have ih:=ziR f v r
  rw[show zat f v ((k,x)::r)=(if k=f then (k,v)::r else (k,x)::zat f v r) from rfl]
  by_cases hk:k=f
  ·rw[if_pos hk,yba,yba];ac_rfl
  ·rw[if_neg hk,yba,yba];ac_rfl
theorem zf0.some_of {v:V} {o:Option Value} (r:zf0 (some v) o):∃ u,o=some u/\RelV v u:=by
 cases o with
 | none=>exact (show False from r).elim
 | some u=>exact ⟨u,rfl,r⟩
theorem zf0.none_of {o:Option Value} (r:zf0 none o):o=none:=by
 cases o with
 | none=>rfl
 | some u=>exact (show False from r).elim
theorem zpP {v:V} {u:Value} (r:RelV v u):PySem.W.handedIn u=true:=by
 cases v with
 | non=>cases (show u=Value.none from r);rfl
 | bl b=>cases (show u=Value.bool b from r);rfl
 | int i=>obtain ⟨t,e⟩:=(show ∃ t,u=Value.int i t from r);cases e;rfl
 | str x=>obtain ⟨t,e⟩:=(show ∃ t,u=Value.str x t from r);cases e;rfl
 | byt b=>obtain ⟨t,e⟩:=(show ∃ t,u=Value.bytes b t from r);cases e;rfl
 | flt b=>obtain ⟨t,e⟩:=(show ∃ t,u=Value.float b t from r);cases e;rfl
 | ref a=>cases (show u=Value.ref a from r);rfl
 | ty n=>cases (show u=Value.type n from r);rfl
section
variable {P:Program} {w:World} {H H':Hp} {h h':Heap} {a C dx:Addr} {fs fs':List (Str × V)}
theorem ziI (hok:HOk P w H h) (e:H a=some (.ins C dx fs)):∃ mA,zji h a dx C mA/\(∀ f,zf0 (fs.lookup f) (mA f))/\PySem.Within mA (fs.map (·.1))/\fs.length<=1000/\H dx=some (.own a):=by
 obtain ⟨d,z,ne,ob,mA,n,r,q⟩:=(show zaf P w H h a (.ins C dx fs) from hok a _ e)
 exact ⟨mA,⟨ob,n,ne⟩,r,q,z,d⟩
end
structure Cls (K:W.Frag) (C:Addr):Prop where
 pg:PySem.W.plainGet K C Str.empty=true
 hd:PySem.W.hasDictIn K C=true
 po:PySem.W.plainOver K C=true
 sa:PySem.W.findIn K (.ref C) "__setattr__" = some (some (.builtin "object.__setattr__"))
theorem Cls.get {K:W.Frag} {C:Addr} (c:Cls K C) (f:Str):PySem.W.plainGet K C f=true:=c.pg
def zY (K:W.Frag) (C:Addr) (f:Str):Prop:=PySem.W.findIn K (.ref C) f=some none
theorem zY.taker {K:W.Frag} {C:Addr} {f:Str} (n:zY K C f):PySem.W.takerIn K C f=some none:=by
 unfold PySem.W.takerIn
 rw[show PySem.W.findIn K (.ref C) f=some none from n]
 rfl
structure Meth (K:W.Frag) (C:Addr) (m:Str) (f:Addr):Prop where
 at_:PySem.W.findIn K (.ref C) m=some (some (.ref f))
 fn:PySem.W.isFn K (.ref f)=true
 kp:PySem.W.keepIn K (.ref f)=true
section
variable {X:Cx} {pins:List (Addr × Obj)} {σ:St} {H:Hp} {s:Shared} {a C dx:Addr} {fs:List (Str × V)} {f:Str} {v:V} {A:Around} {E:Value->Shared->Prop}
theorem zjw {b:Bool} {Q:Value->Shared->Prop} (I:Inv X pins σ H s) (e:H a=some (.ins C dx fs)) (c:Cls X.K C) (n:zY X.K C f) (l:fs.lookup f=some v)
  (h:∀ u s',Inv X pins σ H s'->RelV v u->Q u s'):wpAny (model X.prog X.w) A (getAttr (.ref a) f b) Q E s:=by
 obtain ⟨mA,O,r,_,_,_⟩:=ziI I.hok e
 obtain ⟨u,hu,ru⟩:=zf0.some_of (v:=v) (o:=mA f) (by rw[<-l];exact r f)
 exact get_map I.kIn O (c.get f) c.hd n hu (zpP ru) (h u _ (I.tok _) ru)
theorem zgL {m:Str} {g:Addr} {pl:Sem Bool} {Q:Value × List Value->Shared->Prop} (I:Inv X pins σ H s) (e:H a=some (.ins C dx fs)) (c:Cls X.K C) (k:Meth X.K C m g) (l:fs.lookup m=none)
  (h:Q (.ref g,[.ref a]) s):wpAny (model X.prog X.w) A (getMethod (.ref a) m pl) Q E s:=by
 obtain ⟨mA,O,r,_,_,_⟩:=ziI I.hok e
 have hn:mA m=none:=zf0.none_of (by rw[<-l];exact r m)
 exact zqv I.kIn O (c.get m) k.at_ k.fn hn h
theorem zju {y:V} {u:Value} {Q:Unit->Shared->Prop} (I:Inv X pins σ H s) (e:H a=some (.ins C dx fs)) (c:Cls X.K C) (n:zY X.K C f) (hl:fs.length<1000) (ry:RelV y u)
  (h:∀ s',Inv X pins σ (upd H a (.ins C dx (zat f y fs))) s'->Q () s'):wpAny (model X.prog X.w) A (setAttr (.ref a) f u) Q E s:=by
 obtain ⟨mA,O,r,wi,_,ho⟩:=ziI I.hok e
 have hz:(fs.map (·.1)).length<=sizeLine:=by rw[yab,sizeLine_eq];ac_rfl
 refine zrK I.kIn O c.sa c.po n.taker c.hd wi hz fun h' O' sb=>h _ ?_
 have hd:∃ o,h'.get? dx=some o:=let ⟨o,_,_,e',_⟩:=O'.ns;⟨o,e'⟩
 refine I.write (x:=a) (e:=dx) (by rw[e];exact True.intro) (.inr ho) (fun b q hb z=>(sb.2 b hb).trans z) hd ?_
 refine ⟨by rw[zt O.ne];exact ho,?_,O.ne,O'.obj,_,O'.ns,fun g=>?_,fun g hg=>?_⟩
 ·have:=ziR f y fs;ac_rfl
 ·show zf0 ((zat f y fs).lookup g) (if g=f then some u else mA g)
  rw[ziL]
  by_cases q:g=f
  ·rw[if_pos q,if_pos q];exact ry
  ·rw[if_neg q,if_neg q];exact r g
 ·by_cases q:g=f
  ·rw[q];exact (zh9 f y fs).1
  ·refine (zh9 f y fs).2 g (wi g fun z=>hg ?_)
   show (if g=f then some u else mA g)=none
   rw[if_neg q];exact z
theorem Inv.made (I:Inv X pins σ H s):Inv X pins σ (upd (upd H s.heap.objs.size (.own (s.heap.objs.size+1))) (s.heap.objs.size+1) (.ins C s.heap.objs.size []))
  { s with heap:=(s.heap.push PySem.W.emptyDict).push (PySem.W.instObj C s.heap.objs.size) }:=by
 have e1:(s.heap.push PySem.W.emptyDict).get? s.heap.objs.size=some PySem.W.emptyDict:=yds s.heap rfl
 have e2:((s.heap.push PySem.W.emptyDict).push (PySem.W.instObj C s.heap.objs.size)).get? (s.heap.objs.size+1)=some (PySem.W.instObj C s.heap.objs.size):=by
  have:=yds (s.heap.push PySem.W.emptyDict) (o:=PySem.W.instObj C s.heap.objs.size) rfl
  rwa [ydu] at this
 have e3:(s.heap.push PySem.W.emptyDict).Ns s.heap.objs.size (fun _=>none):=⟨PySem.W.emptyDict,#[],_,e1,rfl,(fun e he=>absurd he (by simp)),fun _=>rfl⟩
 have I1:=I.laid (a:=s.heap.objs.size) (o:=.own (s.heap.objs.size+1)) (h':=s.heap.push PySem.W.emptyDict) (t':=s.toks) (fun b u q=>ydq _ q) (ycz _) ⟨_,e1⟩
 refine I1.laid (a:=s.heap.objs.size+1) (o:=.ins C s.heap.objs.size []) (t':=s.toks) (fun b u q=>ydq _ q) (Nat.le_of_eq (ydu _ _)) ?_
 have ne:s.heap.objs.size≠s.heap.objs.size+1:=yda (ydg _)
 refine ⟨by rw[zt ne,zf],ydc _,ne,e2,fun _=>none,(Heap.Ns1.of_empty e3).at fun o q=>ydq _ q,fun _=>True.intro,fun y hy=>absurd rfl hy⟩
theorem zow {prog:Program} {w:World} {env:Env} {e:Expr} {f:Str} {pos:Pos} {s:Shared} {Q:Value->Shared->Prop} (hb:attributeBase e f env (eval e env)=eval e env)
  (h:wpAny (model prog w) A (eval e env) (fun o s₁=>wpAny (model prog w) A (getAttr o f true) Q E s₁) E s):wpAny (model prog w) A (eval (.Attribute e f pos) env) Q E s :=
 Attribute_any_ h (by rw[arm_eval_Attribute,hb])
end
def zso (K:W.Frag) (ta:TE) (f:Str):TE:=fun σ H Q=>ta σ H fun x H1=>∃ a C dx fs v,x=.ref a/\H1 a=some (.ins C dx fs)/\Cls K C/\zY K C f/\fs.lookup f=some v/\Q v H1
def ztr (K:W.Frag) (ta tv:TE) (f:Str):TS:=fun D σ H=>tv σ H fun y H1=>ta σ H1 fun x H2=>∃ a C dx fs,x=.ref a/\H2 a=some (.ins C dx fs)/\Cls K C/\zY K C f/\fs.length<1000 /\
 D.nx σ (upd H2 a (.ins C dx (zat f y fs)))
section
variable {X:Cx} {o e value:Expr} {f:Str} {pos pos' tpos:Pos} {ta tv:TE}
theorem zsa (he:PE X e ta) (hb:attributeBase e f X.env (eval e X.env)=eval e X.env):PE X (.Attribute e f pos) (zso X.K ta f):=by
 intro pins s σ H Q I h
 refine zow hb (thn (he pins s σ H _ I h) fun u s1 ⟨x,H1,I1,rx,a,C,dx,fs,v,ex,ea,c,n,l,q⟩=>?_)
 subst ex
 obtain rfl:u=Value.ref a:=rx
 exact zjw I1 ea c n l fun u' s2 I2 ru=>⟨v,H1,I2,ru,q⟩
theorem zhU (ha:PE X o ta) (hv:PE X value tv) (hs:swapsWith value (some (.Attribute o f pos')) pos.line X.env=pure false):PS X (.Assign [.Attribute o f pos'] value pos) (ztr X.K ta tv f):=by
 intro pins s σ H D I h
 refine plainObj_wpAny_Assign_Attribute (thn (hv pins s σ H _ I h) fun u s1 ⟨y,H1,I1,ry,q⟩=>thn (ha pins s1 σ H1 _ I1 q) fun ov s2 ⟨x,H2,I2,rx,a,C,dx,fs,ex,ea,c,n,l,q2⟩=>?_) hs
 subst ex
 obtain rfl:ov=Value.ref a:=rx
 exact zju I2 ea c n l ry fun s3 I3=>⟨σ,_,I3,q2⟩
end
section
variable {X:Cx} {pins:List (Addr × Obj)} {σ:St} {H:Hp} {s:Shared} {A:Around} {E:Value->Shared->Prop} {Q:Value->Shared->Prop} {c:Value} {b:Bool}
inductive zcB (K:W.Frag) (H:Hp):V->Value->Prop where
 | non:zcB K H .non (.type "NoneType")
 | bl (x:Bool):zcB K H (.bl x) (.type "bool")
 | int (i:Int):zcB K H (.int i) (.type "int")
 | str (x:Str):zcB K H (.str x) (.type "str")
 | flt (x:UInt64):zcB K H (.flt x) (.type "float")
 | lst {a:Addr} {xs:List V} (e:H a=some (.lst xs)):zcB K H (.ref a) (.type "list")
 | frz {a:Addr} {o:Obj} {xs:List V} (e:H a=some (.frz o (.lst xs))):zcB K H (.ref a) (.type "list")
 | tup {a:Addr} {xs:List V} (e:H a=some (.tup xs)):zcB K H (.ref a) (.type "tuple")
 | dK {a:Addr} {kvs:List (Key × V)} (e:H a=some (.dK kvs)):zcB K H (.ref a) (.type "dict")
 | ins {a C dx:Addr} {fs:List (Str × V)} (e:H a=some (.ins C dx fs)) (cl:Cls K C) (ha:PySem.W.findIn K (.ref C) "__class__" = some (some (.builtin "object.__class__")))
   (hn:PySem.W.specialIn K (.builtin "object.__class__") "__get__" = some (some (.builtin "getset_descriptor.__get__"))) (htk:PySem.W.takesIn K (.builtin "object.__class__")=some true)
   (hm:PySem.W.mroIn K C (.type "object")=some true):zcB K H (.ref a) (.ref C)
theorem zkN {x:V} {u t:Value} (I:Inv X pins σ H s) (rx:RelV x u) (ty:zcB X.K H x t) (e:PySem.W.kitOne X.K t c=some b) (h:∀ tk,Q (.bool b) { s with toks:=tk }) :
  wpAny (model X.prog X.w) A (call (.builtin "isinstance") [u,c]) Q E s:=by
 cases ty with
 | non=>cases (show u=Value.none from rx);exact PySem.W.kia_one PySem.W.kitx_none I.kIn True.intro e (fun z=>nomatch z) h
 | bl y=>cases (show u=Value.bool y from rx);exact PySem.W.kia_one PySem.W.kitx_bool I.kIn True.intro e (fun z=>nomatch z) h
 | int i=>obtain ⟨t,q⟩:=(show ∃ t,u=Value.int i t from rx);cases q;exact PySem.W.kia_one PySem.W.kitx_int I.kIn True.intro e (fun z=>nomatch z) h
 | str y=>obtain ⟨t,q⟩:=(show ∃ t,u=Value.str y t from rx);cases q;exact PySem.W.kia_one PySem.W.kitx_str I.kIn True.intro e (fun z=>nomatch z) h
 | flt y=>obtain ⟨t,q⟩:=(show ∃ t,u=Value.float y t from rx);cases q;exact PySem.W.kia_one PySem.W.kitx_float I.kIn True.intro e (fun z=>nomatch z) h
 | @lst a xs ea =>
  cases (show u=Value.ref a from rx)
  obtain ⟨_,_,n,_,h1⟩:=(show zaf X.prog X.w H s.heap a (.lst xs) from I.hok a _ ea)
  exact PySem.W.kia_one PySem.W.kitx_list I.kIn ⟨_,h1,rfl⟩ e (fun z=>nomatch z) h
 | @frz a ob xs ea =>
  cases (show u=Value.ref a from rx)
  obtain ⟨_,_,_,n,_,h1⟩:=(show zaf X.prog X.w H s.heap a (.frz ob (.lst xs)) from I.hok a _ ea)
  exact PySem.W.kia_one PySem.W.kitx_list I.kIn ⟨_,h1,rfl⟩ e (fun z=>nomatch z) h
 | @tup a xs ea =>
  cases (show u=Value.ref a from rx)
  obtain ⟨_,_,_,p⟩:=(show zaf X.prog X.w H s.heap a (.tup xs) from I.hok a _ ea)
  obtain ⟨o,h1,h2,_⟩:=p
  exact PySem.W.kia_one PySem.W.kitx_tuple I.kIn ⟨o,h1,h2⟩ e (fun z=>nomatch z) h
 | @dK a kvs ea =>
  cases (show u=Value.ref a from rx)
  obtain ⟨_,_,vs,_,p⟩:=(show zaf X.prog X.w H s.heap a (.dK kvs) from I.hok a _ ea)
  obtain ⟨o,es,ep,h1,h2,_⟩:=p
  exact PySem.W.kia_one PySem.W.kitx_dict I.kIn ⟨o,h1,h2.1⟩ e (fun z=>nomatch z) h
 | @ins a C dx fs ea cl ha hn htk hm =>
  cases (show u=Value.ref a from rx)
  obtain ⟨mA,O,_⟩:=ziI I.hok ea
  obtain ⟨od,J,_⟩:=O.look
  exact PySem.W.kia_one (PySem.W.kitx_own (cl.get _) cl.hd ha hn htk hm) I.kIn J e (fun z=>nomatch z) h
end
structure Room (k:Nat) (A:Around):Prop where
 hd:A.handled=none
 dp:A.depth+3*k+5<recursionLimit
 un:A.units+16*k+200<cLine
theorem Room.mono {j k:Nat} {A:Around} (r:Room k A) (h:j<=k):Room j A:=⟨r.hd,by have:=r.dp;ac_rfl,by have:=r.un;ac_rfl⟩
theorem Room.deeper {k:Nat} {A:Around} (r:Room (k+1) A) (env:Env):Room k (A.deeper env) :=
 ⟨r.hd,by have:=r.dp;show A.depth+1+3*k+5<_;ac_rfl,by have:=r.un;show A.units+3+16*k+200<_;ac_rfl⟩
theorem zoP {A:Around} {C:Addr} {us:List Value} {kw:List (Str × Value)}:(A.under (.builtin "type.__call__" ⟨.ref C::us,kw⟩)).depth=A.depth+1:=by
 first | rfl | simp[Around.under,Code.weight,Code.isCreation,Code.isGuard,Code.isCaller,Code.frames,Code.isFrame,guardIds]
theorem zpb {A:Around} {C:Addr} {us:List Value} {kw:List (Str × Value)}:(A.under (.builtin "type.__call__" ⟨.ref C::us,kw⟩)).units=A.units+1:=by
 first | rfl | simp[Around.under,Code.cUnits,Code.frames,Code.isFrame]
theorem Room.make {k:Nat} {A:Around} (r:Room (k+1) A) (C:Addr) (us:List Value) (kw:List (Str × Value)):Room k (A.under (.builtin "type.__call__" ⟨.ref C::us,kw⟩)) :=
 ⟨r.hd,by have:=r.dp;rw[zoP];ac_rfl,by have:=r.un;rw[zpb];ac_rfl⟩
theorem Room.depth {k:Nat} {A:Around} (r:Room k A):A.depth<recursionLimit:=by have:=r.dp;ac_rfl
theorem Room.units {k:Nat} {A:Around} (r:Room k A):A.units+64<cLine:=by have:=r.un;ac_rfl
def zkk:TA:=fun _ H Q=>Q [] H
def zs6 (ta:TE) (tr:TA):TA:=fun σ H Q=>ta σ H fun x H1=>tr σ H1 fun xs H2=>Q (x::xs) H2
section
variable {X:Cx} {e:Expr} {es:List Expr} {te:TE} {t:TA} {pos:Pos}
theorem zc:PA X [] zkk:=fun _ _ _ _ H Q I h=>Calls.spliced_nil ⟨[],H,I,.nil,h⟩
theorem za (ha:PE X e te) (hr:PA X es t) (hs:starEach (e::es) X.env=(false,eval e X.env)::starEach es X.env:=by rfl):PA X (e::es) (zs6 te t):=by
 intro pos pins s σ H Q I h
 rw[hs]
 show wpAny _ _ (spliced ((false,eval e X.env)::backTo pos (starEach es X.env))) _ _ s
 refine Calls.spliced_cons (thn (ha pins s σ H _ I h) fun u s1 ⟨x,H1,I1,r1,q1⟩=>?_)
 exact thn (hr pos pins s1 σ H1 _ I1 q1) fun us s2 ⟨xs,H2,I2,r2,q2⟩=>⟨x::xs,H2,I2,.cons r1 r2,q2⟩
def ztJ (t:TA):TE:=fun σ H Q=>t σ H fun xs H1=>xs.length<=sizeLine/\∀ p,H1 p=none->Q (.ref p) (upd H1 p (.tup xs))
def ztG (t:TA):TE:=fun σ H Q=>t σ H fun xs H1=>xs.length<=sizeLine/\∀ p,H1 p=none->Q (.ref p) (upd H1 p (.lst xs))
theorem zab {x1} (h:PA X es t):PE X (.Tuple es x1 pos) (ztJ t):=by
 intro pins s σ H Q I hq
 refine wpAny_Tuple_spliced (thn (h pos pins s σ H _ I hq) fun us s1 ⟨xs,H1,I1,r,z,q⟩=>⟨by rw[<-r.length];exact z,?_⟩)
 have hf:H1 s1.heap.objs.size=none:=I1.hok.fresh (ycz _)
 refine ⟨.ref s1.heap.objs.size,upd H1 s1.heap.objs.size (.tup xs),I1.laid (t':=s1.toks) (fun b u e=>ydq _ e) (ycz _) ?_,rfl,q _ hf⟩
 exact ⟨z,us,r,⟨_,yds _ rfl,rfl,_,rfl⟩⟩
theorem zR (h:PA X es t):PE X (.List es pos) (ztG t):=by
 intro pins s σ H Q I hq
 refine wpAny_List_spliced (thn (h pos pins s σ H _ I hq) fun us s1 ⟨xs,H1,I1,r,z,q⟩=>⟨by rw[<-r.length];exact z,?_⟩)
 have hf:H1 s1.heap.objs.size=none:=I1.hok.fresh (ycz _)
 refine ⟨.ref s1.heap.objs.size,upd H1 s1.heap.objs.size (.lst xs),I1.laid (t':=s1.toks) (fun b u e=>ydq _ e) (ycz _) ?_,rfl,q _ hf⟩
 exact ⟨z,us,0,r,yds _ rfl⟩
end
noncomputable abbrev Sp:=List V->Hp->VK->XK->Prop
noncomputable abbrev CXT:=List Env->Hp->Shared->XK->Value->Shared->Prop
structure zjc (P:Program) (w:World) (K:W.Frag) (mg:Str->Option Value) (base:Heap) (A:Around) (outer:List Env) (s:Shared) (H:Hp):Prop where
 frames:A.frames=some outer
 mod:Mod K mg base
 bs:∀ b o,base.get? b=some o->s.heap.get? b=some o/\H b=none
 bsz:base.objs.size<=s.heap.objs.size
 funs:s.heap.FunFrames base outer
 frf:∀ b∈frs outer,H b=none
 hok:HOk P w H s.heap
 bare:AllBare s.gens
def CE (outer:List Env) (P:Program) (w:World) (H:Hp) (s:Shared) (Q:VK) (u:Value) (s':Shared):Prop :=
 ∃ v H',s'.os=s.os/\AllBare s'.gens/\Un (frs outer) [] H H' s.heap s'.heap/\HOk P w H' s'.heap/\RelV v u/\Q v H'
def CR (CX:CXT) (outer:List Env) (P:Program) (w:World) (H:Hp) (s:Shared) (Q:VK) (E:XK) (r:Result) (s':Shared):Prop :=
 match r with
 | .ok (.ret u)=>CE outer P w H s Q u s'
 | .ok _=>False
 | .error e=>CX outer H s E e s'
structure zcd (P:Program) (w:World) (K:W.Frag) (mg:Str->Option Value) (base:Heap) (CX:CXT) (k:Nat) (f:Addr) (fd:FuncData) (ps:List Str) (sp:Sp):Prop where
 len:∀ vs H Q E,sp vs H Q E->vs.length=ps.length
 run:∀ (A:Around) (outer:List Env) (s:Shared) (H:Hp) (args:Args) (us:List Value) (vs:List V) (Q:VK) (E:XK),Room k A->zjc P w K mg base A outer s H->BindsTo s fd args (ps.zip us)->Vals vs us->sp vs H Q E ->
  codeAny (model P w) A (.call (.ref f) args) (CR CX outer P w H s Q E) s
theorem zjc.make {P:Program} {w:World} {K:W.Frag} {mg:Str->Option Value} {base:Heap} {A:Around} {outer:List Env} {s:Shared} {H:Hp} (e:zjc P w K mg base A outer s H) (C:Addr) (us:List Value) (kw:List (Str × Value)) :
  zjc P w K mg base (A.under (.builtin "type.__call__" ⟨.ref C::us,kw⟩)) outer s H:=⟨by first | exact e.frames | (simpa [Around.under,Code.envs,Code.isFrame,pushEnvs] using e.frames),e.mod,e.bs,e.bsz,e.funs,e.frf,e.hok,e.bare⟩
section
variable {X:Cx} {pins:List (Addr × Obj)} {σ:St} {H:Hp} {s s':Shared}
theorem Inv.zsl (I:Inv X pins σ H s):zjc X.prog X.w X.K X.mg X.base X.A X.stack s H :=
 ⟨I.ok.frames,I.ok.mod,I.bs,yde I.ok.bsz I.sz,I.stack,I.zos,I.hok,I.bare⟩
theorem Inv.after {Q:VK} {u:Value} (I:Inv X pins σ H s) (h:CE X.stack X.prog X.w H s Q u s'):EP X pins σ Q u s':=by
 obtain ⟨v,H',os,bare,un,hok,r,q⟩:=h
 obtain ⟨hh,g,d,t,os'⟩:=s'
 obtain rfl:os'=s.os:=os
 exact ⟨v,H',I.call (h':=hh) (g':=g) (d':=d) (t':=t) (ch:=[]) un hok bare (fun b z=>absurd z (by simp)),r,q⟩
end
def zoF (sp:Sp) (dvs:List V) (E:XK) (t:TA):TE:=fun σ H Q=>t σ H fun vs H1=>sp (vs++dvs) H1 Q E
def zrk (C:Addr) (m:Str) (sp:Sp) (dvs:List V) (E:XK) (ta:TE) (t:TA):TE:=fun σ H Q=>ta σ H fun x H1=>∃ a dx fs,x=.ref a/\H1 a=some (.ins C dx fs)/\fs.lookup m=none /\
 t σ H1 fun vs H2=>sp (x::(vs++dvs)) H2 Q E
def zrl (C:Addr) (sp:Sp) (dvs:List V) (E:XK) (t:TA):TE:=fun σ H Q=>t σ H fun vs H1=>∀ x dx,H1 x=none->H1 dx=none->dx≠x ->
 sp (.ref x::(vs++dvs)) (upd (upd H1 dx (.own x)) x (.ins C dx [])) (fun v H2=>v=.non/\Q (.ref x) H2) E
def Binds (K:W.Frag) (fd:FuncData) (ps:List Str) (ds:List Value):Prop :=
 ∀ (s:Shared) (us:List Value),K.In s.heap->(us++ds).length=ps.length->BindsTo s fd ⟨us,[]⟩ (ps.zip (us++ds))
theorem Binds.all {K:W.Frag} {fd:FuncData} {ps:List Str} (h:∀ us:List Value,us.length=ps.length->bindArgs fd ⟨us,[]⟩=pure (ps.zip us)):Binds K fd ps []:=fun s us _ hl=>by
 rw[ybw] at hl ⊢
 exact .of_eq (h us hl)
def Passes (CX:CXT) (X:Cx) (E:XK):Prop:=∀ (pins:List (Addr × Obj)) (σ:St) (H:Hp) (s:Shared) (e:Value) (s':Shared),Inv X pins σ H s->CX X.stack H s E e s'->X.xe e s'
section
variable {X:Cx} {CX:CXT} {k:Nat} {f C:Addr} {fd:FuncData} {ps:List Str} {sp:Sp} {dvs:List V} {ds:List Value} {E:XK} {x m:Str} {p pos apos:Pos} {e o:Expr} {es:List Expr} {ta:TE} {t:TA}
theorem zhN {pins:List (Addr × Obj)} {σ:St} {H:Hp} {s:Shared} {Q:VK} {us:List Value} {vs:List V} (F:zcd X.prog X.w X.K X.mg X.base CX k f fd ps sp) (hr:Room k X.A) (hb:Binds X.K fd ps ds) (hd:Vals dvs ds) (hx:Passes CX X E)
  (I:Inv X pins σ H s) (r:Vals vs us) (h:sp (vs++dvs) H Q E):wpAny (model X.prog X.w) X.A (call (.ref f) us) (EP X pins σ Q) X.xe s:=by
 have r2:Vals (vs++dvs) (us++ds):=r.append hd
 have hl:(us++ds).length=ps.length:=by rw[<-r2.length];exact F.len _ _ _ _ h
 refine wpAny_call (codeAny_mono (F.run X.A X.stack s H ⟨us,[]⟩ (us++ds) (vs++dvs) Q E hr I.zsl (hb s us I.kIn hl) r2 h) fun r s' hq=>?_)
 cases r with
 | error e=>exact hx pins σ H s e s' I hq
 | ok fl =>
  cases fl with
  | ret u=>exact I.after hq
  | next=>exact False.elim hq
  | brk=>exact False.elim hq
  | cont=>exact False.elim hq
theorem zrF (F:zcd X.prog X.w X.K X.mg X.base CX k f fd ps sp) (hr:Room k X.A) (hg:Gl X x) (hm:X.mg x=some (.ref f)) (hk:PySem.W.keepIn X.K (.ref f)=true) (hb:Binds X.K fd ps ds) (hd:Vals dvs ds) (hx:Passes CX X E)
  (ha:PA X (e::es) t) (hdb:(x == ("__debug__" : Str))=false:=by decide) (he:starEach (e::es) X.env=(false,eval e X.env)::starEach es X.env:=by rfl) (hpl:(backTo pos (starEach es X.env)).any (·.1)=false:=by rfl) :
  PE X (.Call (.Name x p) (e::es) [] pos) (zoF sp dvs E t):=by
 intro pins s σ H Q I h
 refine wpAny_Call_Name_kw (ziD I hg hm ?_ hdb)
 refine PySem.W.callWith_K (h₀:=X.base) I.ok.mod.kin hk (thn (ha pos pins s σ H _ I h) fun us s1 ⟨vs,H1,I1,r,q⟩=>⟨I1.kIn,?_⟩) he hpl
 exact zhN F hr hb hd hx I1 r q
theorem zqZ {pl:Sem Bool} (he:PE X o ta) (c:Cls X.K C) (hm:Meth X.K C m f) (F:zcd X.prog X.w X.K X.mg X.base CX k f fd ps sp) (hr:Room k X.A) (hb:Binds X.K fd ps ds) (hd:Vals dvs ds) (hx:Passes CX X E)
  (ht:eval (.Call (.Attribute o m apos) [] [] pos) X.env=(do
   let ov <-eval o X.env
   standAt apos.atName
   let (f,first) <-holding [ov] (getMethod ov m pl)
   callWith pos f first (backTo pos (starEach [] X.env)) (backToKw pos (keywordEach [] X.env))):=by rfl) :
  PE X (.Call (.Attribute o m apos) [] [] pos) (zrk C m sp dvs E ta zkk):=by
 intro pins s σ H Q I h
 refine PySem.W.methodCall_KW (pl:=pl) (thn (he pins s σ H _ I h) fun u s1 ⟨x,H1,I1,rx,a,dx,fs,ex,ea,l,q⟩=>?_) ht
 subst ex
 obtain rfl:u=Value.ref a:=rx
 refine zgL I1 ea c hm l ?_
 exact PySem.W.callWith_K0 (first:=[.ref a]) I1.kIn hm.kp (zhN (us:=[.ref a]) (vs:=[.ref a]) F hr hb hd hx I1 (.cons rfl .nil) q)
structure Mk (K:W.Frag) (C f:Addr):Prop where
 makes:PySem.W.makesIn K C=true
 init:PySem.W.findIn K (.ref C) "__init__" = some (some (.ref f))
 fn:PySem.W.isFn K (.ref f)=true
 kp:PySem.W.keepIn K (.ref C)=true
theorem zqt {pins:List (Addr × Obj)} {σ:St} {H:Hp} {s:Shared} {Q:VK} {us:List Value} {vs:List V} (M:Mk X.K C f) (F:zcd X.prog X.w X.K X.mg X.base CX k f fd ps sp) (hr:Room (k+1) X.A) (hb:Binds X.K fd ps ds) (hd:Vals dvs ds)
  (hx:Passes CX X E) (I:Inv X pins σ H s) (r:Vals vs us)
  (h:∀ x dx,H x=none->H dx=none->dx≠x->sp (.ref x::(vs++dvs)) (upd (upd H dx (.own x)) x (.ins C dx [])) (fun v H2=>v=.non/\Q (.ref x) H2) E) :
  wpAny (model X.prog X.w) X.A (call (.ref C) us) (EP X pins σ Q) X.xe s:=by
 have hq:=h (s.heap.objs.size+1) s.heap.objs.size (I.hok.fresh (ydk _)) (I.hok.fresh (ycz _)) (yda (ydg _))
 have I2:=Inv.made (C:=C) I
 have r2:Vals (V.ref (s.heap.objs.size+1)::(vs++dvs)) (Value.ref (s.heap.objs.size+1)::(us++ds)):=.cons rfl (r.append hd)
 have hl:(Value.ref (s.heap.objs.size+1)::us++ds).length=ps.length:=by
  have e:=r2.length
  rw[F.len _ _ _ _ hq] at e
  exact e.symm
 refine wpAny_call (zq4 (f:=f) I.kIn M.makes M.init (beq_iff_eq.mp M.fn) (codeAny_mono (F.run _ X.stack _ _ ⟨Value.ref (s.heap.objs.size+1)::us,[]⟩ (Value.ref (s.heap.objs.size+1)::(us++ds)) _ _ E (hr.make C us [])
  (I2.zsl.make C us []) (hb _ (Value.ref (s.heap.objs.size+1)::us) I2.kIn hl) r2 hq) fun r s' hq'=>?_))
 cases r with
 | error e=>exact hx pins σ _ _ e s' I2 hq'
 | ok fl =>
  cases fl with
  | ret u =>
   obtain ⟨v,H',I3,rv,ev,q3⟩:=I2.after hq'
   subst ev
   exact ⟨rv,⟨V.ref (s.heap.objs.size+1),H',I3,rfl,q3⟩⟩
  | next=>exact False.elim hq'
  | brk=>exact False.elim hq'
  | cont=>exact False.elim hq'
theorem zrS (M:Mk X.K C f) (F:zcd X.prog X.w X.K X.mg X.base CX k f fd ps sp) (hr:Room (k+1) X.A) (hg:Gl X x) (hm:X.mg x=some (.ref C)) (hb:Binds X.K fd ps ds) (hd:Vals dvs ds) (hx:Passes CX X E)
  (ha:PA X (e::es) t) (hdb:(x == ("__debug__" : Str))=false:=by decide) (he:starEach (e::es) X.env=(false,eval e X.env)::starEach es X.env:=by rfl) (hpl:(backTo pos (starEach es X.env)).any (·.1)=false:=by rfl) :
  PE X (.Call (.Name x p) (e::es) [] pos) (zrl C sp dvs E t):=by
 intro pins s σ H Q I h
 refine wpAny_Call_Name_kw (ziD I hg hm ?_ hdb)
 refine PySem.W.callWith_K (h₀:=X.base) I.ok.mod.kin M.kp (thn (ha pos pins s σ H _ I h) fun us s1 ⟨vs,H1,I1,r,q⟩=>⟨I1.kIn,?_⟩) he hpl
 exact zqt M F hr hb hd hx I1 r q
end
section
variable {X:Cx} {CX:CXT} {k:Nat} {f C:Addr} {fd:FuncData} {ps ks:List Str} {sp:Sp} {E:XK} {x m:Str} {p pos apos kpos:Pos} {e o:Expr} {es:List Expr} {kws:List Keyword} {te ta:TE} {t tk:TA} {nm:Option Str}
variable {g:List Value->List Value->List Value} {gV:List V->List V->List V}
end
structure zk (N P:List Str) (sc:Scope):Prop where
 kind:sc.kind=.function
 co:sc.isCoroutine=false
 gen:sc.isGenerator=false
 nd:N.Nodup
 pre:N.take P.length=P
 par:∀ x∈P,sc.names.lookup x=some .local\/sc.names.lookup x=some .cell
 nofree:∀ y∈sc.names,y.2≠.free
theorem zk1 {kindOf:Str->Option NameKind} {x:Str}:∀ {binds:List (Str × Value)} {m:Str->Option Value},(∀ v,(x,v) ∉ binds)->bindL kindOf binds m x=m x
 | [],_,_=>rfl
 | (n,v)::r,m,h=>by
  unfold bindL
  rw[zk1 fun w hw=>h w (yak _ hw)]
  split
  ·have:x≠n:=by rintro rfl;exact h v yal
   simp[this]
  ·rfl
theorem zkO {kindOf:Str->Option NameKind} {x:Str}:∀ {binds:List (Str × Value)} {m:Str->Option Value},(∀ v,(x,v) ∉ binds)->bindC kindOf binds m x=m x
 | [],_,_=>rfl
 | (n,v)::r,m,h=>by
  unfold bindC
  rw[zkO fun w hw=>h w (yak _ hw)]
  split
  ·rfl
  ·have:x≠n:=by rintro rfl;exact h v yal
   simp[this]
theorem zkD {kindOf:Str->Option NameKind} {x:Str} {v:Value}:∀ {P:List Str} {vs:List Value} {i:Nat} {m:Str->Option Value},P.Nodup->P[i]?=some x->vs[i]?=some v->kindOf x=some .local ->
  bindL kindOf (P.zip vs) m x=some v
 | [],_,_,_,_,h,_,_=>by simp at h
 | _::_,[],_,_,_,_,h,_=>by simp at h
 | p::P,w::vs,0,m,nd,h1,h2,hk=>by
  simp at h1 h2;subst h1;subst h2
  show bindL kindOf ((p,w)::P.zip vs) m p=_
  unfold bindL
  rw[zk1 fun v hv=>(ybn.mp nd).1 (List.of_mem_zip hv).1,if_pos hk]
  simp
 | p::P,w::vs,i+1,m,nd,h1,h2,hk=>by
  show bindL kindOf ((p,w)::P.zip vs) m x=_
  unfold bindL
  exact zkD (i:=i) (ybn.mp nd).2 (by simpa using h1) (by simpa using h2) hk
theorem zkZ {kindOf:Str->Option NameKind} {x:Str} {v:Value}:∀ {P:List Str} {vs:List Value} {i:Nat} {m:Str->Option Value},P.Nodup->P[i]?=some x->vs[i]?=some v->kindOf x≠some .local ->
  bindC kindOf (P.zip vs) m x=some v
 | [],_,_,_,_,h,_,_=>by simp at h
 | _::_,[],_,_,_,_,h,_=>by simp at h
 | p::P,w::vs,0,m,nd,h1,h2,hk=>by
  simp at h1 h2;subst h1;subst h2
  show bindC kindOf ((p,w)::P.zip vs) m p=_
  unfold bindC
  rw[zkO fun v hv=>(ybn.mp nd).1 (List.of_mem_zip hv).1,if_neg hk]
  simp
 | p::P,w::vs,i+1,m,nd,h1,h2,hk=>by
  show bindC kindOf ((p,w)::P.zip vs) m x=_
  unfold bindC
  exact zkZ (i:=i) (ybn.mp nd).2 (by simpa using h1) (by simpa using h2) hk
noncomputable def start (N:List Str) (vs:List V):St:=vs.map some++yax (N.length-vs.length) none
noncomputable def zf9 (CX:CXT) (P:Program) (w:World) (K:W.Frag) (mg:Str->Option Value) (base:Heap) (N:List Str) (qual:Str) (scope:Scope) (f:Addr) (cd:Value) (A:Around) (outer:List Env) (s:Shared) (H:Hp) (E:XK):Cx where
 prog:=P
 w:=w
 K:=K
 mg:=mg
 base:=base
 A:=A.deeper (envOfC qual scope s.heap.objs.size f cd)
 N:=N
 s₀:=s
 H₀:=H
 env:=envOfC qual scope s.heap.objs.size f cd
 outer:=outer
 stack:=envOfC qual scope s.heap.objs.size f cd::outer
 ex:=[]
 calm:=true
 fn:=fun _=>true
 pn:=[]
 xe:=fun e s'=>wpAny (model P w) (A.deeper (envOfC qual scope s.heap.objs.size f cd)) (leaving (envOfC qual scope s.heap.objs.size f cd) e) (fun _ s''=>CX outer H s E e s'') (fun e' s''=>CX outer H s E e' s'') s'
theorem zlT {sc:Scope} {n:Nat} {x:Str} (h:sc.names.lookup x=some .cell):∃ c,(cellsFrom n sc.names []).lookup x=some c:=by
 have q:=PySem.W.cellsFrom_some sc.names n [] (.inl h)
 exact Option.isSome_iff_exists.mp q
theorem zpE {CX:CXT} {P:Program} {w:World} {K:W.Frag} {mg:Str->Option Value} {base:Heap} {N ps:List Str} {qual:Str} {scope:Scope} {f:Addr} {cd:Value} {A:Around} {outer:List Env} {s s1:Shared} {H:Hp} {E:XK} {us:List Value} {vs:List V}
  (S:zk N ps scope) (hd:A.handled=none) (e0:zjc P w K mg base A outer s H) (hl:vs.length=ps.length) (r:Vals vs us)
  (x:InCallC s s.heap.objs.size (bindL (envOfC qual scope s.heap.objs.size f cd).kindOf (ps.zip us) fun _=>none) (cellsFrom (s.heap.objs.size+1) scope.names []) (bindC (envOfC qual scope s.heap.objs.size f cd).kindOf (ps.zip us) fun _=>none) s1) :
  Inv (zf9 CX P w K mg base N qual scope f cd A outer s H E) [] (start N vs) H s1:=by
 have hpl:ps.length<=N.length:=by have:=congrArg List.length S.pre;rw[yao] at this;ac_rfl
 obtain ⟨h1,tk,rfl,hk⟩:=x.done
 have noA:∀ b:Addr,b ∉ (zf9 CX P w K mg base N qual scope f cd A outer s H E).ex:=fun b z=>absurd (show b∈([]:List Addr) from z) (by simp)
 refine ⟨⟨e0.mod,S.kind,rfl,rfl,ycz _,fun y z c h1 h2=>?_,fun y hy=>?_,fun y c _ h=>?_,fun _=>hd,Around.frames_deeper e0.frames,.inr ⟨rfl,rfl⟩,fun b z=>absurd z (noA b),e0.bs,e0.bsz,fun b _ _=>noA b,fun b z=>absurd z (noA b),e0.funs,e0.frf⟩,
  rfl,e0.bare,Un.kept hk,⟨_,x.toInCall.ns,fun i y v h1 h2 h3=>?_⟩,fun y c h=>⟨_,x.cell y c h⟩,e0.hok.fresh (ycz _),fun y c h=>?_,fun p hp=>absurd (show p∈([]:List (Addr × Obj)) from hp) (by simp),e0.hok.kept hk,?_⟩
 ·exact name_of_addr x.apart (PySem.mem_of_lookup h1) (PySem.mem_of_lookup h2)
 ·have hy:scope.names.lookup y=some .cell\/scope.names.lookup y=some .free:=hy
  rcases hy with hy | hy
  ·exact zlT hy
  ·exact absurd rfl (S.nofree _ (PySem.mem_of_lookup hy))
 ·exact ydm (x.above y c (PySem.mem_of_lookup h))
 ·have hi:i<vs.length:=by
   unfold start at h2
   by_cases hi:i<vs.length
   ·exact hi
   ·rw[ybo (by simpa using hi)] at h2
    rw[List.getElem?_replicate] at h2
    split at h2 <;> cases h2
  have ha:vs[i]?=some v:=by
   unfold start at h2
   rw[ybq (by simpa using hi),yag] at h2
   cases e:vs[i]? with
   | none=>rw[e] at h2;cases h2
   | some a=>rw[e] at h2;cases h2;rfl
  obtain ⟨u,hu,rv⟩:=r.get ha
  have hp:ps[i]?=some y:=by
   rw[<-S.pre,List.getElem?_take_of_lt (by ac_rfl)];exact h1
  have ndP:ps.Nodup:=by rw[<-S.pre];exact S.nd.sublist (List.take_sublist _ _)
  refine ⟨u,rv,?_⟩
  rcases S.par y (yah hp) with k | k
  ·exact .inl ⟨k,zkD ndP hp hu k⟩
  ·obtain ⟨c,e⟩:=zlT (n:=s.heap.objs.size+1) k
   refine .inr ⟨.inl k,c,e,?_⟩
   have q:=x.cell y c e
   rw[zkZ ndP hp hu (by show scope.names.lookup y≠_;rw[k];decide)] at q
   exact q
 ·exact e0.hok.fresh (ydm (x.above y c (PySem.mem_of_lookup h)))
 ·unfold start
  show _=N.length
  rw[yac,yab,List.length_replicate]
  ac_rfl
theorem zsT {CX:CXT} {P:Program} {w:World} {K:W.Frag} {mg:Str->Option Value} {base:Heap} {k:Nat} {f:Addr} {name qual:Str} {params:Arguments} {body:List Stmt} {scope:Scope} {dV kV doc pm cdv ct oc:Value} {an od:Option Addr}
  {osl:Array (Option Value)} {N ps:List Str} {sp:Sp} (lk:K.lookup f=some ⟨oc,od,.func (PySem.W.fnOf name qual params body scope dV kV doc pm an cdv ct),osl⟩) (hcd:PySem.W.codeIn K cdv qual=true) (S:zk N ps scope)
  (len:∀ vs H Q E,sp vs H Q E->vs.length=ps.length)
  (hbody:∀ (A:Around) (outer:List Env) (s:Shared) (H:Hp) (vs:List V) (Q:VK) (E:XK),Room k (A.deeper (envOfC qual scope s.heap.objs.size f cdv))->sp vs H Q E ->
   ∃ t,PSs (zf9 CX P w K mg base N qual scope f cdv A outer s H E) body t/\t { nx:=fun _ H'=>Q .non H',rt:=Q } (start N vs) H) :
  zcd P w K mg base CX (k+1) f (PySem.W.fnOf name qual params body scope dV kV doc pm an cdv ct) ps sp:=by
 refine ⟨len,fun A outer s H args us vs Q E hr e0 hb r hsp=>?_⟩
 have hl:=len _ _ _ _ hsp
 have KX:K.In s.heap:=e0.mod.kin.keeps fun b o e=>(e0.bs b o e).1
 have lim:s.heap.NoLimit:=e0.mod.nolimit.keeps fun b o e=>(e0.bs b o e).1
 have hkind:∀ y∈ps.zip us,scope.names.lookup y.1=some .local\/(scope.names.lookup y.1=some .cell/\((cellsFrom (s.heap.objs.size+1) scope.names []).lookup y.1).isSome=true):=fun ⟨n,v⟩ hy=>by
  rcases S.par n (List.of_mem_zip hy).1 with q | q
  ·exact .inl q
  ·exact .inr ⟨q,PySem.W.cellsFrom_some _ _ _ (.inl q)⟩
 refine codeAny_call_function hr.depth (KX _ _ lk) rfl S.co S.gen rfl (PySem.W.codeRec_of KX hcd) (hb _ _ _ _ ?_)
 refine wpAny_newFunctionEnv_cells S.kind hkind fun env he s1 x=>?_
 subst he
 refine ⟨lim.keeps x.toInCall.keep,codeAny_func ?_⟩
 obtain ⟨t,ht,hq⟩:=hbody A outer s H vs Q E (hr.deeper _) hsp
 have I:Inv (zf9 CX P w K mg base N qual scope f cdv A outer s H E) [] (start N vs) H s1:=zpE S hr.hd e0 hl r x
 refine wpAny_mono (ht [] s1 (start N vs) H _ I hq) (fun fl s' hs=>?_) fun e s' hs=>hs
 have fin:∀ {σ':St} {H':Hp} {v:V} {u:Value},Inv (zf9 CX P w K mg base N qual scope f cdv A outer s H E) [] σ' H' s'->RelV v u->Q v H'->CE outer P w H s Q u s' :=
  fun {σ' H' v u} J rv q=>⟨v,H',J.os,J.bare,J.base,J.hok,rv,q⟩
 cases fl with
 | ret u =>
  obtain ⟨v,σ',H',J,rv,q⟩:=hs
  exact fin J rv q
 | next =>
  obtain ⟨σ',H',J,q⟩:=hs
  exact fin (v:=V.non) (u:=Value.none) J rfl q
 | brk =>
  obtain ⟨_,_,_,q⟩:=hs
  exact False.elim q
 | cont =>
  obtain ⟨_,_,_,q⟩:=hs
  exact False.elim q
section
variable {X:Cx} {x:Str} {p pos:Pos} {e:Expr} {es:List Expr} {t:TA} {id T:String} {r:List V->Hp->VK->Prop}
def tCB (r:List V->Hp->VK->Prop) (t:TA):TE:=fun σ H Q=>t σ H fun vs H1=>r vs H1 Q
theorem zw (hc:zaN X (.builtin id) r) (hg:Gl X x) (hm:X.mg x=none) (hv:bootBuiltins x=some (.builtin id)) (ha:PA X (e::es) t) (hn:x ≠ "__name__" := by decide) (hdb:(x == ("__debug__" : Str))=false:=by decide)
  (he:starEach (e::es) X.env=(false,eval e X.env)::starEach es X.env:=by rfl) (hpl:(backTo pos (starEach es X.env)).any (·.1)=false:=by rfl):PE X (.Call (.Name x p) (e::es) [] pos) (tCB r t):=by
 intro pins s σ H Q I h
 refine wpAny_Call_Name_kw (zgD I hg hm hv ?_ hn hdb)
 exact PyProof.Rows.callWith_builtin1 (thn (ha pos pins s σ H _ I h) fun us s1 ⟨vs,H1,I1,r1,q1⟩=>hc pins s1 σ H1 vs us Q I1 r1 q1) he hpl
theorem zW (hc:zaN X (.type T) r) (hg:Gl X x) (hm:X.mg x=none) (hv:bootBuiltins x=some (.type T)) (ha:PA X (e::es) t) (hn:x ≠ "__name__" := by decide) (hdb:(x == ("__debug__" : Str))=false:=by decide)
  (he:starEach (e::es) X.env=(false,eval e X.env)::starEach es X.env:=by rfl) (hpl:(backTo pos (starEach es X.env)).any (·.1)=false:=by rfl):PE X (.Call (.Name x p) (e::es) [] pos) (tCB r t):=by
 intro pins s σ H Q I h
 refine wpAny_Call_Name_kw (zgD I hg hm hv ?_ hn hdb)
 exact PyProof.Rows.callWith_type1 (thn (ha pos pins s σ H _ I h) fun us s1 ⟨vs,H1,I1,r1,q1⟩=>hc pins s1 σ H1 vs us Q I1 r1 q1) he hpl
end
end L2
namespace HT
open PySem PyProof.Rows
section
open PySem.SeqAt
open PySem.AutoSeq1 (wpAny_loadPart')
open PySem.MeetsSeq PySem.MeetsSeq2 PySem.MeetsSeq3
end
section
variable {prog:Program} {w:World} {A:Around} {E:Value->Shared->Prop} {s:Shared}
noncomputable def sIx (n d:Nat):Option Int->Nat
 | none=>d
 | some v=>if v<0 then (v+(n:Int)).toNat else min v.toNat n
end
end HT
namespace L2
open PySem PySem.Spec PyProof.Rows
noncomputable abbrev TO:=St->Hp->(Option Int->Hp->Prop)->Prop
def PO (X:Cx) (e:Option Expr) (t:TO):Prop :=
 ∀ (pins:List (Addr × Obj)) (s:Shared) (σ:St) (H:Hp) (Q:Option Int->Hp->Prop),Inv X pins σ H s->t σ H Q ->
  wpAny (model X.prog X.w) X.A (evalPart e X.env) (fun u s'=>∃ o H',Inv X pins σ H' s'/\IsPart u o/\Q o H') X.xe s
def zrB:TO:=fun _ H Q=>Q none H
def ztj (t:TE):TO:=fun σ H Q=>t σ H fun x H1=>∃ i,x=.int i/\Q (some i) H1
section
variable {X:Cx} {e:Expr} {te:TE} {lo hi:Option Expr} {tl th:TO} {pos p2:Pos}
theorem za4:PO X none zrB:=by
 intro pins s σ H Q I h
 rw[evalPart_none]
 exact wpAny_pure ⟨none,H,I,.none,h⟩
theorem za3 (h:PE X e te):PO X (some e) (ztj te):=by
 intro pins s σ H Q I hw
 rw[evalPart_some]
 refine thn (h pins s σ H _ I hw) fun u s1 ⟨x,H1,I1,r1,q1⟩=>?_
 obtain ⟨i,rfl,q⟩:=q1
 obtain ⟨t,rfl⟩:=r1
 exact ⟨some i,H1,I1,.int i t,q⟩
def SlR (X:Cx) (r:V->Option Int->Option Int->Hp->VK->Prop):Prop :=
 ∀ (pins:List (Addr × Obj)) (s:Shared) (σ:St) (H:Hp) (x:V) (v vl vu:Value) (lo hi:Option Int) (sl:Addr) (Q:VK),Inv X pins σ H s->RelV x v->s.heap.IsSliceOf sl vl vu .none->IsPart vl lo->IsPart vu hi->r x lo hi H Q ->
  ∃ T id,typeLookup (.type T) "__getitem__" = pure (some (.builtin id))/\s.TypeIs v T/\wpAny (model X.prog X.w) X.A (getItem v (.ref sl)) (EP X pins σ Q) X.xe s
def tSl (r:V->Option Int->Option Int->Hp->VK->Prop) (te:TE) (tl th:TO):TE:=fun σ H Q=>te σ H fun x H1=>tl σ H1 fun l H2=>th σ H2 fun u H3=>r x l u H3 Q
theorem zaJ {r:V->Option Int->Option Int->Hp->VK->Prop} (hr:SlR X r) (he:PE X e te) (hl:PO X lo tl) (hu:PO X hi th):PE X (.Subscript e (.Slice lo hi none p2) pos) (tSl r te tl th):=by
 intro pins s σ H Q I h
 refine Subscript_ (thn (he pins s σ H _ I h) fun v s1 ⟨x,H1,I1,r1,q1⟩=>?_)
 refine wpAny_Slice (thn (hl pins s1 σ H1 _ I1 q1) fun vl s2 ⟨l,H2,I2,pl,q2⟩=>thn (hu pins s2 σ H2 _ I2 q2) fun vu s3 ⟨u,H3,I3,pu,q3⟩=>?_)
 rw[evalPart_none]
 refine wpAny_pure ?_
 have I4:Inv X pins σ H3 { s3 with heap:=s3.heap.push { cls:=.type "slice", data:=.fields #[vl,vu,.none] } }:=I3.kept (t':=s3.toks) fun b ob q=>ydq _ q
 obtain ⟨T,id,hT,ht,hg⟩:=hr pins { s3 with heap:=s3.heap.push { cls:=.type "slice", data:=.fields #[vl,vu,.none] } } σ H3 x v vl vu l u s3.heap.objs.size Q I4 r1 (Heap.IsSliceOf.new ..) pl pu q3
 show wpAny (model X.prog X.w) X.A (subscriptTail e (.Slice lo hi none p2) v (.ref s3.heap.objs.size)) (EP X pins σ Q) X.xe { s3 with heap:=s3.heap.push { cls:=.type "slice", data:=.fields #[vl,vu,.none] } }
 exact tail_any (ops:=[.ref s3.heap.objs.size,v]) ht hT hg (by with_unfolding_all rfl)
noncomputable def zh3 (xs:List V) (lo hi:Option Int):List V:=(xs.drop (HT.sIx xs.length 0 lo)).take (HT.sIx xs.length xs.length hi-HT.sIx xs.length 0 lo)
theorem znt (xs:List V) (lo hi:Option Int):(zh3 xs lo hi).length<=xs.length:=by
 unfold zh3
 rw[yao,yay]
 ac_rfl
end
noncomputable def ixN (n:Nat) (i:Int):Option Nat:=if 0<=i then (if i<n then some i.toNat else none) else if -(n:Int)<=i then some (i+n).toNat else none
noncomputable def atI {α:Type} (xs:List α) (i:Int):Option α:=(ixN xs.length i).bind fun j=>xs[j]?
theorem zn3 {n:Nat} {i:Int} {j:Nat} (h:ixN n i=some j):seqIndex? i n=some j/\j<n /\ -(n:Int)<=i/\i<n:=by
 unfold ixN at h
 by_cases h0:0<=i
 ·rw[if_pos h0] at h
  by_cases h1:i<n
  ·rw[if_pos h1] at h
   have e:i.toNat=j:=Option.some.inj h
   exact ⟨by rw[seqIndex_of h0 h1,e],by ac_rfl,by ac_rfl,h1⟩
  ·rw[if_neg h1] at h;cases h
 ·rw[if_neg h0] at h
  by_cases h1:-(n:Int)<=i
  ·rw[if_pos h1] at h
   have e:(i+n).toNat=j:=Option.some.inj h
   exact ⟨by rw[seqIndex_neg (by ac_rfl) h1,e],by ac_rfl,h1,by ac_rfl⟩
  ·rw[if_neg h1] at h;cases h
theorem zoh {α:Type} {xs:List α} {i:Int} {v:α} (h:atI xs i=some v):∃ j,seqIndex? i xs.length=some j/\xs[j]?=some v/\j<xs.length /\ -(xs.length:Int)<=i/\i<xs.length:=by
 unfold atI at h
 cases e:ixN xs.length i with
 | none=>rw[e] at h;cases h
 | some j =>
  rw[e] at h
  obtain ⟨h1,h2,h3,h4⟩:=zn3 e
  exact ⟨j,h1,h,h2,h3,h4⟩
theorem zay {α:Type} {xs:List α} {j:Nat} {v:α} (h:xs[j]?=some v):atI xs (j:Int)=some v:=by
 have hj:j<xs.length:=(yad.mp h).1
 have e:ixN xs.length (j:Int)=some j:=by
  unfold ixN
  rw[if_pos (by ac_rfl),if_pos (by ac_rfl)];simp
 unfold atI;rw[e];exact h
def zry (b:Expr):Prop:=∀ o i,subscripted b false o i=operate [o,i] (getItem o i)
def IxR (X:Cx) (r:R2):Prop :=
 ∀ (value slice:Expr) (pins:List (Addr × Obj)) (s:Shared) (σ:St) (H:Hp) (x y:V) (v u:Value) (Q:VK),Inv X pins σ H s->RelV x v->RelV y u->r x y H Q ->
  subscripted slice false v u=operate [v,u] (getItem v u)->wpAny (model X.prog X.w) X.A (subscriptTail value slice v u) (EP X pins σ Q) X.xe s
def MtR (X:Cx) (id:String) (r:V->List V->Hp->VK->Prop):Prop :=
 ∀ (pins:List (Addr × Obj)) (s:Shared) (σ:St) (H:Hp) (x:V) (xs:List V) (v:Value) (us:List Value) (Q:VK),Inv X pins σ H s->RelV x v->Vals xs us->r x xs H Q ->
  wpAny (model X.prog X.w) X.A (call (.builtin id) (v::us)) (EP X pins σ Q) X.xe s
section
variable {X:Cx} {a b:Expr} {ta tb:TE} {pos:Pos}
theorem zq {r:R2} (hr:IxR X r) (ha:PE X a ta) (hb:PE X b tb) (hs:zry b):PE X (.Subscript a b pos) (tOp r ta tb):=by
 intro pins s σ H Q I h
 exact Subscript_ (zqX ha hb I h fun v u s2 x y H2 I2 rx ry q=>hr a b pins s2 σ H2 x y v u Q I2 rx ry q (hs _ _))
def zsy (K:W.Frag):R2:=fun x y H Q=>∃ p xs i v,x=.ref p/\y=.int i/\SqL K H p xs/\atI xs i=some v/\Q v H
def zsF (K:W.Frag):R2:=fun x y H Q=>∃ p xs i v,x=.ref p/\y=.int i/\SqT K H p xs/\atI xs i=some v/\Q v H
theorem zC:IxR X (zsy X.K):=by
 intro value slice pins s σ H x y v u Q I rx ry h hs
 obtain ⟨p,xs,i,z,rfl,rfl,hq,he,q⟩:=h
 cases rx
 obtain ⟨t,rfl⟩:=ry
 obtain ⟨its,r,pl,hz⟩:=I.list hq
 obtain ⟨j,h1,h2,h3,h4,h5⟩:=zoh he
 obtain ⟨w,ew,rw'⟩:=r.get h2
 have hl:=r.length
 have hn:=zjS
 have fin:EP X pins σ Q w s:=⟨z,H,I,rw',q⟩
 by_cases h0:0<=i
 ·have hj:i.toNat=j:=by
   rw[seqIndex_of h0 h5] at h1
   exact Option.some.inj h1
  exact item_listR pl.isList h0 (by ac_rfl) (by rw[hj];simpa using ew) fin hs
 ·have hj:(i+(its.toArray.size:Int)).toNat=j:=by
   rw[seqIndex_neg (by ac_rfl) h4] at h1
   rw[yan,<-hl]
   exact Option.some.inj h1
  exact subscriptTail_builtinR (x:=w) pl.isList.typeIs slot_list_getitem.lookup
   (wpAny_getItem_list_neg (Q:=fun r s'=>r=w/\EP X pins σ Q r s') pl.isList (by ac_rfl) (by rw[yan] <;> ac_rfl) (by ac_rfl) (by rw[hj];simpa using ew) ⟨rfl,fin⟩) hs
theorem zO:IxR X (zsF X.K):=by
 intro value slice pins s σ H x y v u Q I rx ry h hs
 obtain ⟨p,xs,i,z,rfl,rfl,hq,he,q⟩:=h
 cases rx
 obtain ⟨t,rfl⟩:=ry
 obtain ⟨its,r,pl,hz⟩:=I.tuple hq
 obtain ⟨j,h1,h2,h3,h4,h5⟩:=zoh he
 obtain ⟨w,ew,rw'⟩:=r.get h2
 have hl:=r.length
 have hn:=zjS
 have fin:EP X pins σ Q w s:=⟨z,H,I,rw',q⟩
 exact subscriptTail_builtinR (x:=w) pl.typeIs slot_tuple_getitem.lookup
  (getItem_tuple (j:=j) (Q:=fun r s'=>r=w/\EP X pins σ Q r s') pl (by ac_rfl) (by ac_rfl) (by rw[yan,<-hl];exact h1) (by simpa using ew) ⟨rfl,fin⟩) hs
theorem zo6 (its:List Value) (n j:Nat) (u:Value):Obj.mapSeq (·.setIfInBounds j u) { cls:=.type "list", data:=.seq its.toArray n }={ cls:=.type "list", data:=.seq (its.set j u).toArray n }:=by
 simp[Obj.mapSeq]
theorem Inv.lst {pins:List (Addr × Obj)} {σ:St} {H:Hp} {s:Shared} {p:Addr} {xs:List V} (I:Inv X pins σ H s) (h:H p=some (.lst xs)) :
  ∃ (its:List Value) (n:Nat),Vals xs its/\s.heap.get? p=some { cls:=.type "list", data:=.seq its.toArray n }/\xs.length<=sizeLine:=by
 obtain ⟨z,its,n,r,e⟩:=I.hok p _ h
 exact ⟨its,n,r,e,z⟩
theorem Inv.zr5 {pins:List (Addr × Obj)} {σ:St} {H:Hp} {s:Shared} {p:Addr} {xs ys:List V} {its its':List Value} {n n':Nat} {f:Obj->Obj} (I:Inv X pins σ H s) (h:H p=some (.lst xs))
  (ho:s.heap.get? p=some { cls:=.type "list", data:=.seq its.toArray n }) (hf:f { cls:=.type "list", data:=.seq its.toArray n }={ cls:=.type "list", data:=.seq its'.toArray n' }) (r:Vals ys its') (hz:ys.length<=sizeLine) (t:Nat) :
  Inv X pins σ (upd H p (.lst ys)) { s with heap:=s.heap.update p f,toks:=t }:=by
 have e:(s.heap.update p f).get? p=some { cls:=.type "list", data:=.seq its'.toArray n' }:=by
  rw[ydv f ho (by rw[hf] <;> rfl),hf]
 refine I.write (x:=p) (e:=p) (by rw[h];trivial) (.inl rfl) (fun b u hb q=>(Heap.get?_update_other _ _ (Ne.symm hb)).trans q) ⟨_,e⟩ ?_
 exact ⟨hz,its',n',r,e⟩
noncomputable def zsY:V->V->V->Hp->(Hp->Prop)->Prop:=fun o i v H Q=>∃ p xs k j,o=.ref p/\i=.int k/\H p=some (.lst xs)/\ixN xs.length k=some j/\Q (upd H p (.lst (xs.set j v)))
theorem set_list:PSet X zsY:=by
 intro pins s σ H o i v ov iv u Q I ro ri rv h
 obtain ⟨p,xs,k,j,rfl,rfl,hp,hj,q⟩:=h
 cases ro
 obtain ⟨t,rfl⟩:=ri
 obtain ⟨its,n,r,ho,hz⟩:=I.lst hp
 obtain ⟨h1,h2,h3,h4⟩:=zn3 hj
 have hl:=r.length
 have hn:=zjS
 have I':Inv X pins σ (upd H p (.lst (xs.set j v))) { s with heap:=s.heap.update p (Obj.mapSeq (·.setIfInBounds j u)) } :=
  I.zr5 hp ho (zo6 its n j u) (r.set rv j) (by rw[List.length_set];exact hz) s.toks
 by_cases h0:0<=k
 ·have hk:k.toNat=j:=by
   rw[seqIndex_of h0 h4] at h1
   exact Option.some.inj h1
  exact PySem.W.ki_setAt ho h0 (by ac_rfl) (by rw[yan,<-hl];exact h4) (by rw[hk];exact ⟨_,I',q⟩)
 ·have hk:(k+(its.toArray.size:Int)).toNat=j:=by
   rw[seqIndex_neg (by ac_rfl) h3] at h1
   rw[yan,<-hl]
   exact Option.some.inj h1
  exact PySem.W.ki_setBack ho (by ac_rfl) (by rw[yan,<-hl];exact h3) (by ac_rfl) (by rw[hk];exact ⟨_,I',q⟩)
theorem zmE (lo hi:Option Int) (n:Nat):(sliceBounds lo hi none n).1=((HT.sIx n 0 lo:Nat):Int)/\(sliceBounds lo hi none n).2.1=((HT.sIx n n hi:Nat):Int)/\(sliceBounds lo hi none n).2.2=1:=by
 refine ⟨?_,?_,rfl⟩
 ·cases lo with
  | none=>simp[sliceBounds,HT.sIx]
  | some i =>
   simp only[sliceBounds,HT.sIx,Option.getD_none,show (1:Int) > 0 by decide,if_true]
   by_cases h:i<0
   ·simp only[h,if_true] <;> ac_rfl
   ·simp only[h,if_false] <;> ac_rfl
 ·cases hi with
  | none=>simp[sliceBounds,HT.sIx]
  | some i =>
   simp only[sliceBounds,HT.sIx,Option.getD_none,show (1:Int) > 0 by decide,if_true]
   by_cases h:i<0
   ·simp only[h,if_true] <;> ac_rfl
   ·simp only[h,if_false] <;> ac_rfl
theorem zlz (its:List Value) (lo hi:Option Int):slicePick its.toArray lo hi none=((its.drop (HT.sIx its.length 0 lo)).take (HT.sIx its.length its.length hi-HT.sIx its.length 0 lo)).toArray:=by
 obtain ⟨h1,h2,h3⟩:=zmE lo hi its.toArray.size
 unfold slicePick
 rw[h1,h2,h3]
 simp only[sliceRange_one,pick_run,yan] <;> rfl
noncomputable def ztL (K:W.Frag):V->Option Int->Option Int->Hp->VK->Prop:=fun x lo hi H Q=>∃ a xs,x=.ref a/\SqL K H a xs/\∀ p,H p=none->Q (.ref p) (upd H p (.lst (zh3 xs lo hi)))
theorem za1:SlR X (ztL X.K):=by
 intro pins s σ H x v vl vu lo hi sl Q I rx hs pl pu h
 obtain ⟨a,xs,rfl,hx,q⟩:=h
 cases rx
 obtain ⟨its,r,ht,hz⟩:=I.list hx
 have hlen:=r.length
 refine ⟨"list", _,slot_list_getitem.lookup,ht.isList.typeIs,?_⟩
 refine wpAny_getItem_list_slice ht.isList hs pl pu .none (by simp) ?_ (by rw[yan] <;> ac_rfl)
 rw[zlz,<-hlen]
 refine ⟨.ref s.heap.objs.size,_,I.laid (t':=s.toks) (o:=.lst (zh3 xs lo hi)) (fun b ob q=>ydq _ q) (ycz _) ?_,rfl,q _ (I.hok.fresh (ycz _))⟩
 exact ⟨yde (znt xs lo hi) hz,_,0,(r.drop (HT.sIx xs.length 0 lo)).take (HT.sIx xs.length xs.length hi-HT.sIx xs.length 0 lo),yds _ rfl⟩
noncomputable def zfH:V->Bool
 | .non=>true
 | .bl _=>true
 | .int _=>true
 | .str _=>true
 | _=>false
noncomputable def eqV:V->V->Bool
 | .non,.non=>true
 | .bl a,.bl b=>a == b
 | .bl a,.int b=>(if a then 1 else 0) == b
 | .int a,.bl b=>a == (if b then 1 else 0)
 | .int a,.int b=>a == b
 | .str a,.str b=>a == b
 | _,_=>false
theorem zsh {A:Around} {s:Shared} {y x:V} {u v:Value} (ry:RelV y u) (rx:RelV x v) (fy:zfH y=true) (fx:zfH x=true):SeqAt.EqAt A s u v (eqV y x):=by
 cases y with
 | non =>
  cases ry
  cases x with
  | non=>cases rx;exact SeqAt.EqAt.same _
  | bl b=>cases rx;exact SeqAt.EqAt.none_bool b
  | int b=>obtain ⟨t,rfl⟩:=rx;exact SeqAt.EqAt.none_int b t
  | str b=>obtain ⟨t,rfl⟩:=rx;exact SeqAt.EqAt.none_str b t
  | _=>exact absurd (show false=true from fx) Bool.false_ne_true
 | bl a =>
  cases ry
  cases x with
  | non=>cases rx;exact SeqAt.EqAt.bool_none a
  | bl b=>cases rx;exact SeqAt.EqAt.bool_bool a b
  | int b=>obtain ⟨t,rfl⟩:=rx;exact SeqAt.EqAt.bool_int a b t
  | str b=>obtain ⟨t,rfl⟩:=rx;exact SeqAt.EqAt.bool_str a b t
  | _=>exact absurd (show false=true from fx) Bool.false_ne_true
 | int a =>
  obtain ⟨t',rfl⟩:=ry
  cases x with
  | non=>cases rx;exact SeqAt.EqAt.int_none a t'
  | bl b=>cases rx;exact SeqAt.EqAt.int_bool a t' b
  | int b=>obtain ⟨t,rfl⟩:=rx;exact SeqAt.EqAt.int_int a t' b t
  | str b=>obtain ⟨t,rfl⟩:=rx;exact SeqAt.EqAt.int_str a t' b t
  | _=>exact absurd (show false=true from fx) Bool.false_ne_true
 | str a =>
  obtain ⟨t',rfl⟩:=ry
  cases x with
  | non=>cases rx;exact SeqAt.EqAt.str_none a t'
  | bl b=>cases rx;exact SeqAt.EqAt.str_bool a t' b
  | int b=>obtain ⟨t,rfl⟩:=rx;exact SeqAt.EqAt.str_int a t' b t
  | str b=>obtain ⟨t,rfl⟩:=rx;exact SeqAt.EqAt.str_str a t' b t
  | _=>exact absurd (show false=true from fx) Bool.false_ne_true
 | _=>exact absurd (show false=true from fy) Bool.false_ne_true
def eqU (x:V) (u:Value):Bool:=match u with
 | .none=>eqV .non x
 | .bool b=>eqV (.bl b) x
 | .int i _=>eqV (.int i) x
 | .str z _=>eqV (.str z) x
 | _=>false
theorem zpG {x y:V} {u:Value} (r:RelV y u) (f:zfH y=true):eqU x u=eqV y x:=by
 cases y with
 | non=>cases r;rfl
 | bl b=>cases r;rfl
 | int i=>obtain ⟨t,rfl⟩:=r;rfl
 | str z=>obtain ⟨t,rfl⟩:=r;rfl
 | _=>exact absurd (show false=true from f) Bool.false_ne_true
theorem zko {x:V}:∀ {xs:List V} {us:List Value},Vals xs us->xs.all zfH=true->us.any (eqU x)=xs.any fun y=>eqV y x
 | _,_,.nil,_=>rfl
 | y::xs,u::us,.cons r t,f=>by
  rw[List.all_cons,Bool.and_eq_true] at f
  rw[ycy,ycy,zpG r f.1,zko t f.2]
theorem zjo {A:Around} {s:Shared} {x:V} {v:Value} (rx:RelV x v) (fx:zfH x=true):∀ {xs:List V} {us:List Value},Vals xs us->xs.all zfH=true->∀ u∈us,SeqAt.EqAt A s u v (eqU x u)
 | _,_,.nil,_=>fun u hu=>by cases hu
 | y::xs,u::us,.cons r t,f=>fun u' hu=>by
  rw[List.all_cons,Bool.and_eq_true] at f
  rcases yaj.mp hu with rfl | hu
  ·rw[zpG r f.1];exact zsh r rx f.1 fx
  ·exact zjo rx fx t f.2 u' hu
def inV (x:V) (xs:List V):Bool:=xs.any fun y=>eqV y x
def rIn (K:W.Frag) (neg:Bool):R2:=fun x y H Q=>∃ p xs,y=.ref p/\(SqL K H p xs\/SqT K H p xs)/\zfH x=true/\xs.all zfH=true/\Q (.bl (if neg then !inV x xs else inV x xs)) H
theorem zif:OpR X (compareOp .In) (rIn X.K false):=by
 intro pins s σ H x y v u Q I rx ry h
 obtain ⟨p,xs,rfl,hq,fx,fs,q⟩:=h
 cases ry
 rcases hq with hq | hq
 ·obtain ⟨its,r,pl,hz⟩:=I.list hq
  refine SeqAt.in_listAt (eqU x) pl.isList (fun w hw=>zjo rx fx r fs w (by simpa using hw)) ⟨.bl _,H,I,rfl,?_⟩
  rw[show its.toArray.any (eqU x)=its.any (eqU x) by simp,zko r fs]
  exact q
 ·obtain ⟨its,r,pl,hz⟩:=I.tuple hq
  refine SeqAt.in_tupleAt (eqU x) pl (fun w hw=>zjo rx fx r fs w (by simpa using hw)) ⟨.bl _,H,I,rfl,?_⟩
  rw[show its.toArray.any (eqU x)=its.any (eqU x) by simp,zko r fs]
  exact q
theorem zag:zaN X (.builtin "len") (fun xs H Q=>∃ p ys,xs=[.ref p]/\(SqL X.K H p ys\/SqT X.K H p ys)/\Q (.int ys.length) H):=by
 intro pins s σ H xs us Q I r h
 obtain ⟨p,ys,rfl,hq,q⟩:=h
 obtain ⟨u,rfl,rx⟩:=vals1 r
 cases rx
 have hn:=zjS
 rcases hq with hq | hq
 ·obtain ⟨its,r',pl,hz⟩:=I.list hq
  have hlen:=r'.length
  exact Calls.call_len_list pl.isList (by simp only[yan] <;> ac_rfl) ⟨.int ys.length,H,I.tok _,⟨s.toks+1,by rw[yan,hlen]⟩,q⟩
 ·obtain ⟨its,r',pl,hz⟩:=I.tuple hq
  have hlen:=r'.length
  exact len_tuple pl (by simp only[yan] <;> ac_rfl) ⟨.int ys.length,H,I.tok _,⟨s.toks+1,by rw[yan,hlen]⟩,q⟩
theorem zaq:zaN X (.type "list") (fun xs H Q=>∃ p ys,xs=[.ref p]/\(SqL X.K H p ys\/SqT X.K H p ys)/\∀ l,H l=none->Q (.ref l) (upd H l (.lst ys))):=by
 intro pins s σ H xs us Q I r h
 obtain ⟨p,ys,rfl,hq,q⟩:=h
 obtain ⟨u,rfl,rx⟩:=vals1 r
 cases rx
 have fin:∀ (its:List Value),Vals ys its->ys.length<=sizeLine->∀ (h':Heap) (c':Nat),(∀ b o',s.heap.get? b=some o'->h'.get? b=some o') ->
   h'.get? s.heap.objs.size=some { cls:=.type "list", dict:=none,data:=.seq its.toArray c',slots:=#[] }->EP X pins σ Q (.ref s.heap.objs.size) { s with heap:=h' }:=fun its r' hz h' c' kp e =>
  ⟨.ref s.heap.objs.size,_,I.laid (t':=s.toks) kp (ycz _) (show zaf X.prog X.w _ h' _ (.lst ys) from ⟨hz,its,c',r',e⟩),rfl,q _ (I.hok.fresh (ycz _))⟩
 rcases hq with hq | hq
 ·obtain ⟨its,r',pl,hz⟩:=I.list hq
  have hlen:=r'.length
  obtain ⟨o,ho,hc,n,hd⟩:=pl.isList
  exact call_list_seq p (.inl rfl) ho hc hd (fun h' c' kp e=>fin its r' hz h' c' kp e) (by simp only[yan] <;> ac_rfl)
 ·obtain ⟨its,r',pl,hz⟩:=I.tuple hq
  have hlen:=r'.length
  obtain ⟨o,ho,hc,n,hd⟩:=pl
  exact call_list_seq p (.inr rfl) ho hc hd (fun h' c' kp e=>fin its r' hz h' c' kp e) (by simp only[yan] <;> ac_rfl)
def tyV (K:W.Frag) (T:String) (x:V) (H:Hp):Prop:=match x with
 | .str _=>T = "str"
 | .int _=>T = "int"
 | .ref p=>(T = "list" /\ ∃ xs,SqL K H p xs)\/(T = "tuple" /\ ∃ o,K.lookup p=some o/\o.cls=.type "tuple" /\ o.dict=none) \/
   (T = "dict" /\ ∃ kvs,H p=some (.dK kvs))\/(T = "set" /\ ∃ S n,H p=some (.set S n))
 | _=>False
theorem zsM {pins:List (Addr × Obj)} {σ:St} {H:Hp} {s:Shared} {T:String} {x:V} {v:Value} (I:Inv X pins σ H s) (r:RelV x v) (ty:tyV X.K T x H) :
  s.TypeIs v T/\∀ a,v=.ref a->∃ ob,s.heap.get? a=some ob/\ob.dict=none:=by
 cases x with
 | str z =>
  obtain ⟨t,rfl⟩:=r
  cases (show T = "str" from ty)
  exact ⟨typeIs_str s z t,fun _ e=>nomatch e⟩
 | int i =>
  obtain ⟨t,rfl⟩:=r
  cases (show T = "int" from ty)
  exact ⟨typeIs_int s i t,fun _ e=>nomatch e⟩
 | ref p =>
  cases r
  rcases ty with ⟨rfl,xs,hq⟩ | ⟨rfl,o,hk,hc,hd⟩ | ⟨rfl,hk⟩ | ⟨rfl,S,n,hk⟩
  ·obtain ⟨its,_,pl,_⟩:=I.list hq
   refine ⟨pl.isList.typeIs,fun a e=>?_⟩
   cases e
   obtain ⟨o,n,e,c,hd,_⟩:=pl
   exact ⟨o,e,hd⟩
  ·refine ⟨⟨o,I.kIn p o hk,hc⟩,fun a e=>?_⟩
   cases e
   exact ⟨o,I.kIn _ o hk,hd⟩
  ·have z:∃ o,s.heap.get? p=some o/\o.ExactDict:=by
    obtain ⟨kvs,hk⟩:=hk
    obtain ⟨_,_,_,_,o,_,_,e,ex,_⟩:=I.hok p _ hk
    exact ⟨o,e,ex⟩
   obtain ⟨o,e,ex⟩:=z
   refine ⟨⟨o,e,ex.1⟩,fun a e2=>?_⟩
   cases e2
   exact ⟨o,e,ex.2.1⟩
  ·obtain ⟨o,_,_,_,e,ex,_⟩:=I.hok p _ hk
   refine ⟨⟨o,e,ex.1⟩,fun a e2=>?_⟩
   cases e2
   exact ⟨o,e,ex.2.1⟩
 | _=>exact False.elim ty
def tBM (K:W.Frag) (T:String) (r:V->List V->Hp->VK->Prop) (to:TE) (t:TA):TE:=fun σ H Q=>to σ H fun x H1=>tyV K T x H1/\t σ H1 fun xs H2=>r x xs H2 Q
variable {o e:Expr} {es:List Expr} {to:TE} {t:TA} {name:Str} {apos cpos:Pos} {T id:String} {r:V->List V->Hp->VK->Prop}
theorem zil (pa:PlainAttrs T) (slot:Slot T name id) (hty:typeOf (.builtin id)=pure (.type "method_descriptor")) (hm:MtR X id r) (ho:PE X o to) (ha:PA X (e::es) t)
  (hbase:attributeBase o name X.env (eval o X.env)=eval o X.env:=by rfl)
  (hfew:((backTo cpos (starEach (e::es) X.env)).all (fun x=>!x.1) && (backToKw cpos (keywordEach [] X.env)).all (fun x=>x.1.isSome)
   && decide ((e::es).length+([]:List Keyword).length+(if ([]:List Keyword).isEmpty then 0 else 1)<30))=true:=by rfl)
  (hline:(apos.endLine == cpos.line)=true:=by rfl) (hs:starEach (e::es) X.env=(false,eval e X.env)::starEach es X.env:=by rfl) (hplain:(backTo cpos (starEach es X.env)).any (·.1)=false:=by rfl) :
  PE X (.Call (.Attribute o name apos) (e::es) [] cpos) (tBM X.K T r to t):=by
 intro pins s σ H Q I h
 refine wpAny_Call_method_late hbase hfew hline rfl (thn (ho pins s σ H _ I h) fun v s1 ⟨x,H1,I1,r1,ty,q1⟩=>?_)
 obtain ⟨h1,h2⟩:=zsM I1 r1 ty
 refine ⟨T,id,pa,slot,hty,h1,h2,?_⟩
 have hA:=ha cpos pins s1 σ H1 _ I1 q1
 rw[hs] at hA ⊢
 refine Calls.callWith_builtin (by show (false || (backTo cpos (starEach es X.env)).any (·.1))=false;rw[hplain] <;> rfl) (Calls.evalArgs_plain ?_)
 exact thn hA fun us s2 ⟨vs,H2,I2,r2,q2⟩=>hm pins s2 σ H2 x vs v us Q I2 r1 r2 q2
/- xs.append(e),list.index on a module's tuple .. are MtR facts of 06m -/
end
def MtM (X:Cx) (id:String) (r:V->List V->Hp->VK->Prop):Prop :=
 ∀ (pins:List (Addr × Obj)) (s:Shared) (σ:St) (H:Hp) (x:V) (xs:List V) (v:Value) (us:List Value) (Q:VK),Inv X pins σ H s->RelV x v->Vals xs us->r x xs H Q ->
  wpAny (model X.prog X.w) X.A (call (.builtin id) (v::us)) (EP X pins σ Q) X.xe s
theorem Vals.one:∀ {x:V} {us:List Value},Vals [x] us->∃ u,us=[u]/\RelV x u
 | _,_,.cons r .nil=>⟨_,rfl,r⟩
theorem Vals.rep {xs:List V} {us:List Value} (h:Vals xs us):∀ k:Nat,Vals (yax k xs).flatten (yax k us).flatten
 | 0=>.nil
 | k+1=>by
  rw[ybr,ybr,yck,yck]
  exact Vals.append h (Vals.rep h k)
theorem foldl_rep (its:List Value):∀ (k:Nat) (acc:List Value),
  List.foldl (fun x1 x2=>x1++x2) acc.toArray (yax k its.toArray)=(acc++(yax k its).flatten).toArray
 | 0,acc=>by simp
 | k+1,acc=>by
  have e:acc.toArray++its.toArray=(acc++its).toArray:=by simp
  have e2:(acc++its)++(yax k its).flatten=acc++(yax (k+1) its).flatten:=by
   rw[ybr,yck,ycl]
  rw[<-e2,<-foldl_rep its k (acc++its),<-e,ybr,yca]
section
variable {X:Cx} {pins:List (Addr × Obj)} {σ:St} {H:Hp} {s:Shared} {l b:Addr} {xs ys zs:List V}
theorem Inv.lset {its its':List Value} {n:Nat} {f:Array Value->Array Value} {t':Nat} (I:Inv X pins σ H s) (hH:H l=some (.lst xs))
  (e:s.heap.get? l=some { cls:=.type "list", data:=.seq its.toArray n }) (hf:f its.toArray=its'.toArray) (hv:Vals ys its') (hz:ys.length<=sizeLine) :
  Inv X pins σ (upd H l (.lst ys)) { s with heap:=s.heap.update l (Obj.mapSeq f),toks:=t' }:=by
 have q:=PySem.IsL.update e f
 rw[hf] at q
 refine I.write (x:=l) (e:=l) (by rw[hH];exact trivial) (.inl rfl) (fun b' u hb hu=>(Heap.get?_update_other s.heap (Obj.mapSeq f) (Ne.symm hb)).trans hu) ⟨_,q⟩ ?_
 exact ⟨hz,its',_,hv,q⟩
theorem Inv.lnew {its:List Value} {t':Nat} (I:Inv X pins σ H s) (hv:Vals ys its) (hz:ys.length<=sizeLine) :
  Inv X pins σ (upd H s.heap.objs.size (.lst ys)) { s with heap:=s.heap.push { cls:=.type "list", data:=.seq its.toArray },toks:=t' } :=
 I.laid (fun _ _ q=>ydq _ q) (ycz _) ⟨hz,its,0,hv,yds _ rfl⟩
theorem Inv.fresh (I:Inv X pins σ H s):H s.heap.objs.size=none:=I.hok.fresh (ycz _)
theorem Inv.zke (I:Inv X pins σ H s) (hH:H l=some (.lst xs)):xs.length<=sizeLine/\∃ (its:List Value) (n:Nat),Vals xs its/\xs.length=its.length/\s.heap.get? l=some { cls:=.type "list", data:=.seq its.toArray n }:=by
 obtain ⟨z,its,n,r,e⟩:=I.hok l _ hH
 exact ⟨z,its,n,r,r.length,e⟩
theorem zm1 {n:Nat} (h:n<=sizeLine):Builtin.List.listTooLong n=false:=by
 unfold Builtin.List.listTooLong
 exact decide_eq_false (by ac_rfl)
end
section
variable {X:Cx}
noncomputable def zrN:V->List V->Hp->VK->Prop:=fun x vs H Q=>∃ l xs y,x=.ref l/\vs=[y]/\H l=some (.lst xs)/\xs.length<sizeLine/\Q .non (upd H l (.lst (xs++[y])))
theorem zcF:MtM X "list.append" zrN:=by
 intro pins s σ H x vs v us Q I rx rv h
 obtain ⟨l,xs,y,rfl,rfl,hH,hz,q⟩:=h
 cases rx
 obtain ⟨u,rfl,ru⟩:=rv.one
 obtain ⟨z,its,n,r,hl,e⟩:=I.zke hH
 refine call_meets F.slot_list_append ⟨_,e,rfl⟩ F.entry_list_append (F.args_list_append_2 _ _) (PySem.list_append l its.toArray n u (by rw[yan];ac_rfl)) ⟨e,?_⟩
 refine ⟨.non,_,I.lset (its':=its++[u]) hH e (by simp) (r.append (.cons ru .nil)) ?_,rfl,q⟩
 rw[yac,ybs]
 ac_rfl
noncomputable def zrW:V->List V->Hp->VK->Prop:=fun x vs H Q=>∃ l b xs zs,x=.ref l/\vs=[.ref b]/\H l=some (.lst xs)/\H b=some (.lst zs)/\xs.length+zs.length<=sizeLine/\Q .non (upd H l (.lst (xs++zs)))
theorem zkM:MtM X "list.extend" zrW:=by
 intro pins s σ H x vs v us Q I rx rv h
 obtain ⟨l,b,xs,zs,rfl,rfl,hH,hB,hz,q⟩:=h
 cases rx
 obtain ⟨u,rfl,ru⟩:=rv.one
 cases ru
 obtain ⟨z,its,n,r,hl,e⟩:=I.zke hH
 obtain ⟨z2,its2,n2,r2,hl2,e2⟩:=I.zke hB
 have hsz:its.toArray.size+its2.toArray.size<=sizeLine:=by rw[yan,yan];ac_rfl
 have hlong:¬ (!its.toArray.isEmpty && Builtin.List.listTooLong (its.toArray.size+its2.toArray.size))=true:=by
  rw[zm1 hsz,Bool.and_false]
  exact Bool.false_ne_true
 refine call_meets F.slot_list_extend ⟨_,e,rfl⟩ F.entry_list_extend (F.args_list_extend_2 _ _)
  (AutoSeq1.list_extend_list_list_0 l its.toArray n b its2.toArray n2 hlong (by rw[yan];ac_rfl) (by ac_rfl)) ⟨e,e2,?_⟩
 refine ⟨.non,_,I.lset (its':=its++its2) hH e (by simp) (r.append r2) ?_,rfl,q⟩
 rw[yac]
 ac_rfl
def ztP:R2:=fun x y H Q=>∃ l b xs zs,x=.ref l/\y=.ref b/\H l=some (.lst xs)/\H b=some (.lst zs)/\xs.length+zs.length<=sizeLine/\∀ p,H p=none->Q (.ref p) (upd H p (.lst (xs++zs)))
theorem zaV:OpR X (binaryOp .Add) ztP:=by
 intro pins s σ H x y v u Q I rx ry h
 obtain ⟨l,b,xs,zs,rfl,rfl,hH,hB,hz,q⟩:=h
 cases rx
 cases ry
 obtain ⟨z,its,n,r,hl,e⟩:=I.zke hH
 obtain ⟨z2,its2,n2,r2,hl2,e2⟩:=I.zke hB
 refine PySem.P.add_list e e2 ?_ (by rw[yan,yan];ac_rfl)
 have ea:its.toArray++its2.toArray=(its++its2).toArray:=by simp
 rw[ea]
 exact ⟨.ref _,_,I.lnew (t':=s.toks) (r.append r2) (by rw[yac];ac_rfl),rfl,q _ I.fresh⟩
def ztu:R2:=fun x y H Q=>∃ l k xs,x=.ref l/\y=.int k/\H l=some (.lst xs) /\ -(2 ^ 63)<=k/\k<2 ^ 63/\xs.length*k.toNat<=sizeLine /\
 ∀ p,H p=none->Q (.ref p) (upd H p (.lst (yax k.toNat xs).flatten))
theorem len_rep {α:Type} (xs:List α) (k:Nat):(yax k xs).flatten.length=k*xs.length:=by
 induction k with
 | zero=>simp
 | succ k ih=>rw[ybr,yck,yac,ih,Nat.succ_mul,Nat.add_comm]
theorem zjT:OpR X (binaryOp .Mult) ztu:=by
 intro pins s σ H x y v u Q I rx ry h
 obtain ⟨l,k,xs,rfl,rfl,hH,h1,h2,hz,q⟩:=h
 cases rx
 obtain ⟨t,rfl⟩:=ry
 obtain ⟨z,its,n,r,hl,e⟩:=I.zke hH
 have hlen:its.toArray.size*k.toNat<=sizeLine:=by rw[yan,<-hl];exact hz
 have hcap:¬ its.toArray.size*k.toNat > (2 ^ 63-1) / 8:=by
  have:(sizeLine:Nat)<=(2 ^ 63-1) / 8:=by decide
  ac_rfl
 have hfit:¬ (!Builtin.List.listFitsIndex k)=true:=by
  rw[fitsIndex_both h1 h2]
  exact Bool.false_ne_true
 have hlong:¬ Builtin.List.listTooLong (its.toArray.size*k.toNat)=true:=by
  rw[zm1 hlen]
  exact Bool.false_ne_true
 have hnew:List.foldl (fun x1 x2=>x1++x2) #[] (yax (if its.toArray.isEmpty=true then 0 else k.toNat) its.toArray)=(yax k.toNat its).flatten.toArray:=by
  have f0:∀ m:Nat,List.foldl (fun x1 x2=>x1++x2) #[] (yax m its.toArray)=(yax m its).flatten.toArray:=fun m=>by
   have:=foldl_rep its m []
   rw[List.nil_append] at this
   exact this
  rw[f0]
  cases its with
  | nil=>simp
  | cons a r'=>rw[if_neg (by simp)]
 refine wpAny_binaryOp_repeat_ref (T:="list") (U:="int") (by decide) ⟨_,e,rfl⟩ (fun s'=>typeIs_int s' k t) noFill_list_mul F.fills_int_mul F.slot_int_rmul repeat_list F.slot_int_index.lookup
  (call_meets F.slot_int_rmul (typeIs_int s k t) F.entry_int_rmul (F.args_int_rmul_2 _ _) (int___rmul___int_list k t l its.toArray n)
   ⟨e,rfl,⟨_,e,rfl⟩,call_meets F.slot_list_mul ⟨_,e,rfl⟩ F.entry_list_mul (F.args_list_mul_2 _ _) (AutoListH.list___mul___list_int_3 l its.toArray n k t hfit hcap hlong) ⟨e,?_⟩⟩)
 rw[hnew]
 exact ⟨.ref _,_,I.lnew (t':=s.toks) (r.rep k.toNat) (by rw[len_rep,Nat.mul_comm];exact hz),rfl,q _ I.fresh⟩
end
section
variable {prog:Program} {w:World} {A:Around} {E:Value->Shared->Prop} {s:Shared}
set_option maxRecDepth 100000 in
end
section
variable {X:Cx}
end
end L2
namespace Att
open PySem PySem.W PySem.Calls PyProof.Rows
theorem zjD {P:Params} {h:Heap}:∀ (ns:List Int) (vs:List Value),WellAll P h vs (ns.map WData.int)->IntsAre vs ns:=by
 intro ns
 induction ns with
 | nil =>
  intro vs w
  rw[List.map_nil] at w
  cases w
  exact .nil
 | cons n ns ih =>
  intro vs w
  rw[ybf] at w
  cases w with
  | cons a b =>
   cases a
   exact .cons _ _ (ih _ b)
theorem zpr {l:OpenLaw} {n:Nat} (hn:l.most=some n) {P:Params} {h:Heap} {args:List WData} {vals:List Value}
  (hpre:l.row.toRowW.claim.pre args=true) (hwl:WellAll P h vals args) :
  ∃ a vs ns,vals=[Value.ref a]/\args=[WData.list (ns.map WData.int)]/\h.get? a=some { cls:=.type "list", data:=.seq vs.toArray }/\IntsAre vs ns/\ns.length<=n:=by
 have hsh:WShape.hasAll [] args [.list .int]=true:=(pre_splitW hpre).1
 have hc:l.pre.holds [] { args:=args }=true:=(pre_splitW hpre).2
 obtain ⟨d,r,rfl,h1,h2⟩:=hasAllW_cons hsh
 obtain rfl:=hasAllW_nil h2
 obtain ⟨xs,rfl,h3⟩:=hasW_list h1
 obtain ⟨ns,rfl⟩:=items_int h3
 have hlen:ns.length<=n:=by
  unfold OpenLaw.pre at hc
  have h4:(WTm.not (.lt (.lit (.int (n:Int))) (.len (.arg 0)))).holds [] { args:=[.list (ns.map .int)] }=true:=by
   have h4:=(holds_andW hc).1
   rw[hn] at h4
   exact h4
  have h5:=condW_of h4 (w_not (w_lt w_lit (w_len_list (w_arg rfl))))
  rw[yab] at h5
  refine Nat.le_of_not_lt fun q=>?_
  have q':(n:Int)<((ns.length:Nat):Int):=by ac_rfl
  first
   | (rw[decide_eq_true q'] at h5;exact absurd h5 (by decide))
   | (simp at h5;ac_rfl)
 cases hwl with
 | cons w1 w2 =>
  cases w2
  cases w1 with
  | list ho hall=>exact ⟨_,_,ns,rfl,rfl,ho,zjD ns _ hall,hlen⟩
theorem zpm (l:OpenLaw) (args:List WData):l.row.toRowW.claim.post args (.bool true) args=true :=
 postW_of (r:=l.row.toRowW) (X:=(true == true))
  (show WShape.has [] (.bool true) .bool=true by first | rfl | decide | simp[WShape.has,WShape.arms,WShape.armsAll])
  (show (WTm.eq .res (.lit (.bool true))).value [] { args:=args,res:=some (.bool true),after:=args }=some (.bool (true == true)) from w_eq_bool (w_res rfl) w_lit) rfl
theorem zny {l:OpenLaw} {n:Nat} {q:Program} {loose:List Str} {XP:(Str->Option Value)->Heap->Prop} {YP:World->Heap->Prop} {d:DefRec}
  (hn:l.most=some n) (hdf:d.params.defaults=[])
  (call:∀ (w:World) (s₀ s₁:Shared) (mg mb:Str->Option Value) (fa:Addr) (o:Obj) (pm cd doc:Value) (a:Addr) (vs:List Value) (ns:List Int),
   Ground q loose [] XP w s₀ mg mb s₁.heap->YP w s₁.heap ->
   s₁.heap.get? fa=some o->o.data=.func (docDef d.name d.params d.body d.scope pm cd doc)->s₁.heap.CodeRec cd d.name->mg d.name=some (.ref fa) ->
   s₁.heap.get? a=some { cls:=.type "list", data:=.seq vs.toArray }->IntsAre vs ns->ns.length<=n->s₁.gens=#[] ->
   codeAny (model l.prog w) callerA (.call (.ref fa) ⟨[.ref a],[]⟩) (fun r s'=>r=.ok (.ret (.bool true))/\OldK s₁.heap s'.heap/\s'.os=s₁.os/\AllBare s'.gens) s₁) :
  WalkO q loose XP YP l.row.toRowW d [] (fun f vs=>PySem.call f vs):=by
 intro w s₀ s₁ mg mb G Y fa o pm cd doc dV kV ho hd hcd hD hmg hg args vals as hpre hlay hrd hwl hlo
 obtain rfl:dV=.none:=Dflts.none hD hdf
 obtain rfl:kV=.none:=Dflts.noKw hD
 obtain ⟨a,vs,ns,rfl,rfl,hobj,hints,hlen⟩:=zpr hn hpre hwl
 refine enter_call (codeAny_mono (call w s₀ s₁ mg mb fa o pm cd doc a vs ns G Y ho (fd_plain hd) hcd hmg hobj hints hlen hg) fun r s' hq=>?_)
 obtain ⟨rfl,h2,h3,h4⟩:=hq
 exact ⟨.inl ⟨.bool true,.bool true,[],rfl,fun _=>rfl,.bool true,zpm l _,fun _=>⟨List.Pairwise.nil,fun _ hm=>(nomatch hm)⟩⟩,h2,h3,h4⟩
section
variable {prog:Program} {w:World} {A:Around} {E:Value->Shared->Prop} {s:Shared} {K:Frag}
noncomputable def ledger (h:Heap) (L d:Addr):List (Addr × Obj):=(yar h.objs.size).filterMap fun a=>if a=L\/a=d then none else (h.get? a).map fun o=>(a,o)
end
end Att
namespace L2
open PySem PySem.Spec PyProof.Rows
theorem zhT:∀ {vs:List Value} {ns:List Int},IntsAre vs ns->Vals (ns.map V.int) vs
 | _,_,.nil=>.nil
 | _,_,.cons n t h=>.cons ⟨t,rfl⟩ (zhT h)
def Only (H:Hp):Prop:=∀ b,H b=none\/∃ o xs,H b=some (.frz o (.lst xs))
theorem zq1 {P:Program} {w:World} {K:W.Frag} {mg mb:Str->Option Value} {CX:CXT} {k:Nat} {fa a:Addr} {fd:FuncData} {x:Str} {sp:Sp} {s₁:Shared} {vs:List Value} {ns:List Int}
  (KX:K.In s₁.heap) (hns:s₁.heap.Ns mainGlobals mg) (hb:s₁.heap.Ns builtinsNs mb) (hbb:∀ x:Str,x ≠ "__name__" -> mb x=bootBuiltins x) (hlim:s₁.heap.NoLimit) (hg:s₁.gens=#[])
  (ha:s₁.heap.get? a=some { cls:=.type "list", data:=.seq vs.toArray }) (hi:IntsAre vs ns) (hl:ns.length<=sizeLine) (hr:Room k callerA)
  (F:∀ base:Heap,K.In base->base.Ns mainGlobals mg->zcd P w K mg base CX k fa fd [x] sp) (hbind:∀ (s:Shared) (u:Value),BindsTo s fd ⟨[u],[]⟩ [(x,u)])
  (hsp:∀ H:Hp,Only H->SqL K H a (ns.map V.int)->sp [.ref a] H (fun v _=>v=.bl true) fun _ _ _=>False)
  (hCX:∀ H e s',CX [] H s₁ (fun _ _ _=>False) e s'->False) :
  codeAny (model P w) callerA (.call (.ref fa) ⟨[.ref a],[]⟩) (fun r s'=>r=.ok (.ret (.bool true))/\OldK s₁.heap s'.heap/\s'.os=s₁.os/\AllBare s'.gens) s₁:=by
 have rv:=zhT hi
 have lenV:=hi.length
 have core:∀ H:Hp,Only H->SqL K H a (ns.map V.int)->HOk P w H s₁.heap->(∀ b,H b≠none->b=a)->(H a≠none->K.lookup a=none) ->
   codeAny (model P w) callerA (.call (.ref fa) ⟨[.ref a],[]⟩) (fun r s'=>r=.ok (.ret (.bool true))/\OldK s₁.heap s'.heap/\s'.os=s₁.os/\AllBare s'.gens) s₁:=by
  intro H hO hS hok hA hK
  have base_of:∀ {b:Addr} {o:Obj},s₁.heap.get? b=some o->H b=none->(zgT s₁.heap H).get? b=some o:=fun e n=>zqP e n
  have noA:∀ {b:Addr} {o:Obj} {es:Array DictEntry} {ep:Nat},s₁.heap.get? b=some o->o.data=.dict es ep->H b=none:=fun {b o es ep} e d=>by
   cases q:H b with
   | none=>rfl
   | some u =>
    have e':b=a:=hA b (by rw[q];simp)
    subst e'
    rw[ha] at e;cases e
    have d':Data.seq vs.toArray _=Data.dict es ep:=d
    cases d'
  have nsK:∀ {b:Addr} {m:Str->Option Value},s₁.heap.Ns b m->(zgT s₁.heap H).Ns b m:=fun {b m} ⟨o,es,ep,e,d,r⟩=>⟨o,es,ep,base_of e (noA e d),d,r⟩
  have hKb:K.In (zgT s₁.heap H):=fun b o e=>base_of (KX b o e) (by
   cases q:H b with
   | none=>rfl
   | some u =>
    have e':b=a:=hA b (by rw[q];simp)
    subst e'
    rw[hK (by rw[q];simp)] at e;cases e)
  have hM:Mod K mg (zgT s₁.heap H):=⟨hKb,nsK hns,⟨mb,nsK hb,hbb⟩,let ⟨mc,h1,h2⟩:=hlim;⟨mc,nsK h1,h2⟩⟩
  have e0:zjc P w K mg (zgT s₁.heap H) callerA [] s₁ H:=⟨rfl,hM,fun b o e=>zrT e,Nat.le_of_eq (zpz _ _),trivial,fun b hb=>absurd (show b∈([]:List Addr) from hb) (by simp),hok,.of_eq hg⟩
  refine codeAny_mono ((F _ hKb (nsK hns)).run callerA [] s₁ H ⟨[.ref a],[]⟩ [.ref a] [.ref a] _ _ hr e0 (hbind s₁ (.ref a)) (.cons rfl .nil) (hsp H hO hS)) fun r s' h=>?_
  cases r with
  | error e=>exact (hCX H e s' h).elim
  | ok fl =>
   cases fl with
   | next=>exact False.elim h
   | brk=>exact False.elim h
   | cont=>exact False.elim h
   | ret u =>
    obtain ⟨v,H',os,bare,un,hok',r',q⟩:=h
    have q':v=.bl true:=q
    subst q'
    obtain rfl:u=Value.bool true:=r'
    refine ⟨rfl,OldK.of_keep fun b o e=>?_,os,bare⟩
    cases q:H b with
    | none=>exact un.keep b o e q (by intro z;exact absurd (show b∈([]:List Addr) from z) (by simp)) (by simp)
    | some u =>
     rcases hO b with z | ⟨ob,xs,z⟩
     ·rw[q] at z;cases z
     ·have z2:=un.frzs b ob _ z
      obtain ⟨e1,_⟩:=hok b _ z
      obtain ⟨e2,_⟩:=hok' b _ z2
      rw[e] at e1;cases e1
      exact e2
 cases hk:K.lookup a with
 | some o =>
  have e:=KX a o hk
  rw[ha] at e
  cases e
  refine core (fun _=>none) (fun _=>.inl rfl) (.inr ⟨_,vs.toArray,_,hk,rfl,rfl,rfl,by rw[yan,lenV];exact hl,by simpa using rv⟩) (fun b u z=>by have z':(none:Option HO)=some u:=z;cases z') (fun b z=>absurd rfl z) fun z=>absurd rfl z
 | none =>
  refine core (fun b=>if b=a then some (.frz { cls:=.type "list", data:=.seq vs.toArray } (.lst (ns.map V.int))) else none) (fun b=>?_) (.inl (.inr ⟨{ cls:=.type "list", data:=.seq vs.toArray },if_pos rfl⟩)) (fun b u z=>?_) (fun b z=>?_) fun _=>hk
  ·by_cases hb:b=a
   ·exact .inr ⟨_,_,if_pos hb⟩
   ·exact .inl (if_neg hb)
  ·by_cases hb:b=a
   ·have z':=(if_pos hb).symm.trans z
    cases z'
    subst hb
    exact ⟨ha,by rw[yab];exact hl,vs,_,rv,ha⟩
   ·have z':=(if_neg hb).symm.trans z
    cases z'
  ·by_cases hb:b=a
   ·exact hb
   ·exact absurd (if_neg hb) z
theorem zrR {l:PySem.W.OpenLaw} {n k:Nat} {q:Program} {loose:List Str} {XP:(Str->Option Value)->Heap->Prop} {YP:World->Heap->Prop} {d:DefRec} {K:Params->W.Frag} {CX:World->CXT} {sp:World->Sp} {x:Str}
  (hn:l.most=some n) (hn2:n<=sizeLine) (hdf:d.params.defaults=[]) (hr:Room k callerA)
  (hY:∀ (w:World) (h:Heap),YP w h->(K w.params).In h)
  (F:∀ (w:World) (mg:Str->Option Value) (fa:Addr) (h:Heap),(K w.params).In h->h.Ns mainGlobals mg->mg d.name=some (.ref fa) ->
   ∃ fd:FuncData,(∀ (s:Shared) (u:Value),BindsTo s fd ⟨[u],[]⟩ [(x,u)]) /\
    ∀ base:Heap,(K w.params).In base->base.Ns mainGlobals mg->zcd l.prog w (K w.params) mg base (CX w) k fa fd [x] (sp w))
  (hsp:∀ (w:World) (H:Hp) (a:Addr) (ns:List Int),ns.length<=n->Only H->SqL (K w.params) H a (ns.map V.int)->sp w [.ref a] H (fun v _=>v=.bl true) fun _ _ _=>False)
  (hCX:∀ (w:World) (H:Hp) (s:Shared) (e:Value) (s':Shared),CX w [] H s (fun _ _ _=>False) e s'->False) :
  PySem.W.WalkO q loose XP YP l.row.toRowW d [] (fun f vs=>PySem.call f vs):=by
 refine Att.zny hn hdf fun w s₀ s₁ mg mb fa o pm cd doc a vs ns G Y ho hd hcd hmg hobj hints hlen hg=>?_
 have KX:=hY w _ Y
 obtain ⟨fd,hb,hF⟩:=F w mg fa _ KX G.T.g hmg
 exact zq1 KX G.T.g G.T.b G.T.builtins G.T.nolimit hg hobj hints (yde hlen hn2) hr hF hb (fun H hO hS=>hsp w H a ns hlen hO hS) fun H e s'=>hCX w H s₁ e s'
noncomputable def inClass (s:Stmt) (j:Nat):Stmt:=match s with
 | .ClassDef _ _ _ body _ _ _ _ _ _ _=>body.getD j (.Pass ⟨0,0,0,0⟩)
 | _=>.Pass ⟨0,0,0,0⟩
noncomputable def zcb (s:Stmt):Arguments:=match s with
 | .FunctionDef _ a _ _ _ _ _ _ _ _=>a
 | _=>{ posonlyargs:=[],args:=[],vararg:=none,kwonlyargs:=[],kw_defaults:=[],kwarg:=none,defaults:=[] }
noncomputable def zaF (s:Stmt):List Stmt:=match s with
 | .FunctionDef _ _ b _ _ _ _ _ _ _=>b
 | _=>[]
noncomputable def zi (s:Stmt):Scope:=match s with
 | .FunctionDef _ _ _ _ _ _ sc _ _ _=>sc
 | _=>{ kind:=.function,names:=[],isGenerator:=false,isCoroutine:=false }
noncomputable abbrev CX0:CXT:=fun _ _ _ _ _ _=>False
noncomputable abbrev E0:XK:=fun _ _ _=>False
theorem ziG {X:Cx}:Passes CX0 X E0:=fun _ _ _ _ _ _ _ h=>h.elim
structure Fun (K:W.Frag) (x qual:Str) (st:Stmt) (f:Addr) (fd:FuncData):Prop where
 ex:∃ (oc:Value) (od:Option Addr) (kV doc pm:Value) (an:Option Addr) (cdv ct:Value) (osl:Array (Option Value)),
  fd=PySem.W.fnOf x qual (zcb st) (zaF st) (zi st) .none kV doc pm an cdv ct/\K.lookup f=some ⟨oc,od,.func fd,osl⟩/\PySem.W.codeIn K cdv qual=true
 kp:PySem.W.keepIn K (.ref f)=true
section
variable {P:Program} {w:World} {K:W.Frag} {mg:Str->Option Value} {base:Heap}
theorem Fun.ok {x qual:Str} {st:Stmt} {f:Addr} {fd:FuncData} {N ps:List Str} {k:Nat} {sp:Sp} (F:Fun K x qual st f fd) (S:zk N ps (zi st)) (len:∀ vs H Q E,sp vs H Q E->vs.length=ps.length)
  (hbody:∀ (cdv:Value) (A:Around) (outer:List Env) (s:Shared) (H:Hp) (vs:List V) (Q:VK) (E:XK),Room k (A.deeper (envOfC qual (zi st) s.heap.objs.size f cdv))->sp vs H Q E ->
   ∃ t,PSs (zf9 CX0 P w K mg base N qual (zi st) f cdv A outer s H E).nox (zaF st) t/\t { nx:=fun _ H'=>Q .non H',rt:=Q } (start N vs) H):zcd P w K mg base CX0 (k+1) f fd ps sp:=by
 obtain ⟨oc,od,kV,doc,pm,an,cdv,ct,osl,rfl,lk,hcd⟩:=F.ex
 refine zsT lk hcd S len fun A outer s H vs Q E hr hsp=>?_
 obtain ⟨t,h,q⟩:=hbody cdv A outer s H vs Q E hr hsp
 exact ⟨t,h.nox,q⟩
theorem zmQ {x qual:Str} {st:Stmt} {f:Addr} {oc:Value} {od an:Option Addr} {osl:Array (Option Value)} {kV doc pm cdv ct:Value} (l:K.lookup f=some ⟨oc,od,.func (PySem.W.fnOf x qual (zcb st) (zaF st) (zi st) .none kV doc pm an cdv ct),osl⟩)
  (c:PySem.W.codeIn K cdv qual=true) (k:PySem.W.keepIn K (.ref f)=true):Fun K x qual st f (PySem.W.fnOf x qual (zcb st) (zaF st) (zi st) .none kV doc pm an cdv ct):=⟨⟨oc,od,kV,doc,pm,an,cdv,ct,osl,rfl,l,c⟩,k⟩
end
section
variable {X:Cx}
theorem pv (i:Nat) {x:Str} {pos:Pos} (hN:X.N[i]?=some x:=by rfl) (hv:Vis X.env.scope x:=by first | exact Or.inl rfl | exact Or.inr (Or.inl rfl) | exact Or.inr (Or.inr rfl)) (hd:(x == ("__debug__" : Str))=false:=by decide)
  (hcd:(x == ("__classdict__" : Str))=false:=by decide):PE X (.Name x pos) (zsK i):=zsf hN hv hd hcd
end
theorem zse {A B:Prop} (h:B):if false=true then A else B:=by
 rw[if_neg Bool.false_ne_true]
 exact h
theorem zsd {A B:Prop} (h:A):if true=true then A else B:=by
 rw[if_pos rfl]
 exact h
def Same (H H':Hp):Prop:=∀ b o,H b=some o->H' b=some o
theorem Same.refl (H:Hp):Same H H:=fun _ _ h=>h
theorem Same.trans {H H1 H2:Hp} (a:Same H H1) (b:Same H1 H2):Same H H2:=fun c o h=>b c o (a c o h)
theorem Same.seq {K:W.Frag} {H H':Hp} {a:Addr} {xs:List V} (e:Same H H') (h:SqL K H a xs):SqL K H' a xs:=by
 rcases h with (h | ⟨o,h⟩) | h
 ·exact .inl (.inl (e _ _ h))
 ·exact .inl (.inr ⟨o,e _ _ h⟩)
 ·exact .inr h
theorem zaf.swap {P:Program} {w:World} {H H':Hp} {h h':Heap} {a:Addr} {o:HO} (x:zaf P w H h a o) (y:zaf P w H' h' a o):zaf P w H h' a o:=by
 induction o with
 | ins C dx fs=>exact ⟨x.1,y.2⟩
 | frz ob u ih=>exact ⟨y.1,ih x.2 y.2⟩
 | _=>exact y
theorem HOk.forget {P:Program} {w:World} {H H':Hp} {h h':Heap} (a:HOk P w H h) (b:HOk P w H' h') (s:Same H H'):HOk P w H h':=fun x o e=>(a x o e).swap (b x o (s x o e))
theorem Un.forget {fs ex:List Addr} {H H':Hp} {h h':Heap} (u:Un fs ex H H' h h'):Un fs ex H H h h' :=
 ⟨u.keep,u.slot,fun _ _ _ n _=>n,u.there,fun _ _ q=>q,fun _ _ _ q=>q,fun b ps q=>⟨#[],by rw[q];simp⟩⟩
theorem zcd.forget {P:Program} {w:World} {K:W.Frag} {mg:Str->Option Value} {base:Heap} {CX:CXT} {k:Nat} {f:Addr} {fd:FuncData} {ps:List Str} {sp sp':Sp} (F:zcd P w K mg base CX k f fd ps sp)
  (h:∀ vs H Q E,sp' vs H Q E->sp vs H (fun v H'=>Same H H'/\Q v H) E):zcd P w K mg base CX k f fd ps sp' where
 len:=fun vs H Q E q=>F.len _ _ _ _ (h _ _ _ _ q)
 run:=fun A outer s H args us vs Q E hr e0 hb hv hs=>by
  refine codeAny_mono (F.run A outer s H args us vs _ E hr e0 hb hv (h _ _ _ _ hs)) fun r s' q=>?_
  cases r with
  | error e=>exact q
  | ok fl =>
   cases fl with
   | ret u =>
    obtain ⟨v,H',os,bare,un,hok,rv,sm,qv⟩:=q
    exact ⟨v,H,os,bare,un.forget,e0.hok.forget hok sm,rv,qv⟩
   | next=>exact q
   | brk=>exact q
   | cont=>exact q
structure Src (K:W.Frag) (mg:Str->Option Value) (x:Str) (st:Stmt) (ps:List Str):Prop where
 ex:∃ (f:Addr) (fd:FuncData),Fun K x x st f fd/\mg x=some (.ref f)/\∀ us:List Value,us.length=ps.length->bindArgs fd ⟨us,[]⟩=pure (ps.zip us)
structure Def (P:Program) (w:World) (K:W.Frag) (mg:Str->Option Value) (base:Heap) (k:Nat) (x:Str) (ps:List Str) (sp:Sp):Prop where
 ex:∃ (f:Addr) (fd:FuncData),zcd P w K mg base CX0 k f fd ps sp/\mg x=some (.ref f)/\PySem.W.keepIn K (.ref f)=true/\(∀ us:List Value,us.length=ps.length->bindArgs fd ⟨us,[]⟩=pure (ps.zip us)) /\
  ∃ o,K.lookup f=some o/\o.data=.func fd
section
variable {P:Program} {w:World} {K:W.Frag} {mg:Str->Option Value} {base:Heap} {x:Str} {st:Stmt} {N ps:List Str} {k:Nat} {sp:Sp}
theorem Src.ok (S:Src K mg x st ps) (sc:zk N ps (zi st)) (len:∀ vs H Q E,sp vs H Q E->vs.length=ps.length)
  (hbody:∀ (f:Addr) (cdv:Value) (A:Around) (outer:List Env) (s:Shared) (H:Hp) (vs:List V) (Q:VK) (E:XK),Room k (A.deeper (envOfC x (zi st) s.heap.objs.size f cdv))->sp vs H Q E ->
   ∃ t,PSs (zf9 CX0 P w K mg base N x (zi st) f cdv A outer s H E).nox (zaF st) t/\t { nx:=fun _ H'=>Q .non H',rt:=Q } (start N vs) H):Def P w K mg base (k+1) x ps sp:=by
 obtain ⟨f,fd,F,hm,hb⟩:=S.ex
 refine ⟨f,fd,F.ok sc len (fun cdv=>hbody f cdv),hm,F.kp,hb,?_⟩
 obtain ⟨oc,od,kV,doc,pm,an,cdv,ct,osl,e,lk,hcd⟩:=F.ex
 exact ⟨_,lk,rfl⟩
theorem Src.okF (S:Src K mg x st ps) (sc:zk N ps (zi st)) (len:∀ vs H Q E,sp vs H Q E->vs.length=ps.length)
  (hbody:∀ (f:Addr) (cdv:Value) (A:Around) (outer:List Env) (s:Shared) (H:Hp) (vs:List V) (Q:VK) (E:XK),Room k (A.deeper (envOfC x (zi st) s.heap.objs.size f cdv))->sp vs H Q E ->
   ∃ t,PSs (zf9 CX0 P w K mg base N x (zi st) f cdv A outer s H E).nox (zaF st) t/\t { nx:=fun _ H'=>Same H H'/\Q .non H,rt:=fun v H'=>Same H H'/\Q v H } (start N vs) H):Def P w K mg base (k+1) x ps sp:=by
 obtain ⟨f,fd,F,hm,hb⟩:=S.ex
 have G:zcd P w K mg base CX0 (k+1) f fd ps (fun vs H R E=>∃ Q,sp vs H Q E/\R=fun v H'=>Same H H'/\Q v H) :=
  F.ok sc (fun vs H R E ⟨Q,h,_⟩=>len vs H Q E h) fun cdv A outer s H vs R E hr ⟨Q,h,e⟩=>by
   subst e
   exact hbody f cdv A outer s H vs Q E hr h
 refine ⟨f,fd,G.forget fun vs H Q E h=>⟨Q,h,rfl⟩,hm,F.kp,hb,?_⟩
 obtain ⟨oc,od,kV,doc,pm,an,cdv,ct,osl,e,lk,hcd⟩:=F.ex
 exact ⟨_,lk,rfl⟩
theorem zE {h:Heap} {f:Addr} {oc:Value} {od an:Option Addr} {osl:Array (Option Value)} {kV doc pm cdv ct:Value} (X:K.In h) (G:h.Ns mainGlobals mg) (a:PySem.W.nsIn K mainGlobals x=some (some (.ref f)))
  (l:K.lookup f=some ⟨oc,od,.func (PySem.W.fnOf x x (zcb st) (zaF st) (zi st) .none kV doc pm an cdv ct),osl⟩) (c:PySem.W.codeIn K cdv x=true) (k:PySem.W.keepIn K (.ref f)=true)
  (hb:∀ us:List Value,us.length=ps.length->bindArgs (PySem.W.fnOf x x (zcb st) (zaF st) (zi st) .none kV doc pm an cdv ct) ⟨us,[]⟩=pure (ps.zip us)):Src K mg x st ps :=
 ⟨f,_,zmQ l c k,PySem.W.mg_of X G a,hb⟩
theorem zky {h:Heap} {i:Int} {t:Tok} (X:K.In h) (G:h.Ns mainGlobals mg) (a:PySem.W.nsIn K mainGlobals x=some (some (.int i t))):∃ t,mg x=some (.int i t):=⟨t,PySem.W.mg_of X G a⟩
end
theorem zqM {l:PySem.W.OpenLaw} {lv:Nat} {q:Program} {loose:List Str} {XP:(Str->Option Value)->Heap->Prop} {YP:World->Heap->Prop} {d:DefRec} {K:Params->W.Frag} {sp:W.Frag->Sp} {x:Str} {st:Stmt}
  (hn:l.most=some 63) (hdf:d.params.defaults=[]) (hnm:d.name = "law") (hr:Room lv callerA)
  (hY:∀ (w:World) (h:Heap),YP w h->(K w.params).In h)
  (F:∀ (w:World) (mg:Str->Option Value) (h:Heap),(K w.params).In h->h.Ns mainGlobals mg ->
   Src (K w.params) mg "law" st [x]/\∀ base:Heap,Def l.prog w (K w.params) mg base lv "law" [x] (sp (K w.params)))
  (hsp:∀ (K:W.Frag) (H:Hp) (a:Addr) (ns:List Int),ns.length<=63->SqL K H a (ns.map V.int)->sp K [.ref a] H (fun v _=>v=.bl true) fun _ _ _=>False) :
  PySem.W.WalkO q loose XP YP l.row.toRowW d [] (fun f vs=>PySem.call f vs):=by
 refine L2.zrR (n:=63) (k:=lv) (x:=x) (CX:=fun _=>CX0) (sp:=fun w=>sp (K w.params)) hn (by decide) hdf hr hY ?_ (fun w H a ns h1 h2 h3=>hsp (K w.params) H a ns h1 h3) fun _ _ _ _ _ z=>z
 intro w mg fa h KX G hmg
 obtain ⟨S,D⟩:=F w mg h KX G
 obtain ⟨f,fd,Fn,hm,hb⟩:=S.ex
 obtain ⟨oc,od,kV,doc,pm,an,cdv,ct,osl,e,lk,hcd⟩:=Fn.ex
 refine ⟨fd,fun s u=>.of_eq (hb [u] rfl),fun base _ _=>?_⟩
 obtain ⟨f',fd',ok,hm',_,_,o,lk',ho⟩:=(D base).ex
 rw[hnm,hm] at hmg
 rw[hm] at hm'
 cases hmg
 cases hm'
 rw[lk] at lk'
 cases lk'
 cases ho
 exact ok
section
variable {X:Cx} {x:Str} {p pos:Pos} {e:Expr} {es:List Expr} {t:TA} {j k:Nat} {ps:List Str} {sp:Sp}
theorem zl (D:Def X.prog X.w X.K X.mg X.base j x ps sp) (hr:Room k X.A) (ha:PA X (e::es) t) (hg:Gl X x:=by rfl) (hj:j<=k:=by decide) (hdb:(x == ("__debug__" : Str))=false:=by decide)
  (he:starEach (e::es) X.env=(false,eval e X.env)::starEach es X.env:=by rfl) (hpl:(backTo pos (starEach es X.env)).any (·.1)=false:=by rfl) :
  PE X (.Call (.Name x p) (e::es) [] pos) (zoF sp [] E0 t):=by
 obtain ⟨f,fd,F,hm,hk,hb,_⟩:=D.ex
 exact zrF F (hr.mono hj) hg hm hk (.all hb) .nil ziG ha hdb he hpl
theorem ziC {i:Int} (h:∃ t,X.mg x=some (.int i t)) (hg:Gl X x:=by rfl) (hd:(x == ("__debug__" : Str))=false:=by decide):PE X (.Name x pos) (tC (.int i)):=by
 obtain ⟨t,h⟩:=h
 exact zgx hg h ⟨t,rfl⟩ hd
theorem zfR:zaN X (.builtin "isinstance") (fun xs H Q=>∃ x t n b,xs=[x,.ty n]/\zcB X.K H x t/\PySem.W.kitOne X.K t (.type n)=some b/\Q (.bl b) H):=by
 intro pins s σ H xs us Q I r h
 obtain ⟨x,t,n,b,rfl,ty,e,q⟩:=h
 obtain ⟨u,w',rfl,rx,rn⟩:=vals2 r
 cases rn
 exact zkN I rx ty e fun tk=>⟨.bl b,H,I.tok tk,rfl,q⟩
end
theorem ifI {a b:Int} {A B:Prop} (h1:a=b->A) (h2:¬ a=b->B):if decide (V.int a=V.int b)=true then A else B:=by
 by_cases h:a=b
 ·rw[if_pos (by rw[h];simp)];exact h1 h
 ·rw[if_neg (by simpa using h)];exact h2 h
theorem ztB {a b:Int} {A B:Prop} (h1:¬ a=b->A) (h2:a=b->B):if (!decide (V.int a=V.int b))=true then A else B:=by
 by_cases h:a=b
 ·rw[if_neg (by rw[h];simp)];exact h2 h
 ·rw[if_pos (by simpa using h)];exact h1 h
theorem ifD {p A B:Prop} [Decidable p] (h1:p->A) (h2:¬ p->B):if decide p=true then A else B:=by
 by_cases h:p
 ·rw[if_pos (by simpa using h)];exact h1 h
 ·rw[if_neg (by simpa using h)];exact h2 h
theorem dI {a b:Int}:decide (V.int a=V.int b)=decide (a=b):=by
 by_cases h:a=b <;> simp[h]
theorem zoo {ns:List Int} {k:Int} (h0:0<=k) (h:k<(ns.length:Int)):atI (ns.map V.int) k=some (.int (ns.getD k.toNat 0)):=by
 have hk:k.toNat<ns.length:=by ac_rfl
 have q:atI (ns.map V.int) ((k.toNat:Nat):Int)=some (.int (ns.getD k.toNat 0)):=zay (by rw[yag,yaa hk,yaf,yaa hk] <;> rfl)
 rw[show ((k.toNat:Nat):Int)=k by ac_rfl] at q
 exact q
def ztv (t:TS):TS:=fun D σ H=>∃ Mid:St->Hp->Prop,t { D with nx:=Mid } σ H/\∀ σ' H',Mid σ' H'->D.nx σ' H'
theorem zcZ {X:Cx} {st:Stmt} {t:TS} (h:PS X st t):PS X st (ztv t):=by
 intro pins s σ H D I ⟨Mid,hq,hm⟩
 refine thn (h pins s σ H _ I hq) fun f s' q=>?_
 cases f with
 | next =>
  obtain ⟨σ',H',I',q⟩:=q
  exact ⟨σ',H',I',hm σ' H' q⟩
 | ret v=>exact q
 | brk=>exact q
 | cont=>exact q
theorem noE {α:Type} {M:Model} {A:Around} {s:Shared} {t:Sem α} {Q:α->Shared->Prop} {E:Value->Shared->Prop} (h:wpAny M A t Q (fun _ _=>False) s):wpAny M A t Q E s:=wpAny_mono h (fun _ _ q=>q) fun _ _ z=>z.elim
section
variable {prog:Program} {w:World} {A:Around} {R:Result->Shared->Prop} {s:Shared}
theorem zpW {elt target iter:Expr} {scope:Scope} {pos:Pos} {it acc:Value} {env:Env} (I:Nat->Shared->Prop)
  (turn:∀ n s,I n s->wpAny (model prog w) A (pyNext it) (fun r s₁=>match r with
   | none=>R (.ok .next) s₁
   | some v=>wpAny (model prog w) A (letOwnedTupleGo target it v) (fun _ s₂=>wpAny (model prog w) A (assign target env v) (fun _ s₃=>wpAny (model prog w) A (eval elt env) (fun y s₄ =>
     wpAny (model prog w) A (call (.builtin "list.append") [acc,y]) (fun _ s₅=>∃ m,m<n/\I m s₅) (fun _ _=>False) s₄) (fun _ _=>False) s₃) (fun _ _=>False) s₂) (fun _ _=>False) s₁) (fun _ _=>False) s)
  (n:Nat) (h:I n s):codeAny (model prog w) A (.compLoop (.ListComp elt [⟨target,iter,[],0⟩] scope pos) 0 it acc env) R s:=by
 refine codeAny_loop rfl I (fun n s hI=>?_) n h
 show wpAny _ _ (Sem.onRaise (compTurn (.ListComp elt [⟨target,iter,[],0⟩] scope pos) 0 it acc env) _) _ _ s
 refine wpAny_noted (noE ?_)
 rw[compTurn_list1]
 refine wpAny_bind (wpAny_standAt (wpAny_bind (wpAny_mono (turn n s hI) (fun r s₁ h₁=>?_) fun _ _ z=>z)))
 cases r with
 | none=>exact wpAny_pure h₁
 | some v =>
  refine wpAny_bind (wpAny_mono h₁ (fun _ s₂ h₂=>?_) fun _ _ z=>z)
  refine wpAny_bind (wpAny_mono h₂ (fun _ s₃ h₃=>?_) fun _ _ z=>z)
  refine wpAny_bind (wpAny_bind (wpAny_mono h₃ (fun y s₄ h₄=>?_) fun _ _ z=>z))
  refine wpAny_bind (wpAny_mono h₄ (fun _ s₅ h₅=>?_) fun _ _ z=>z)
  exact wpAny_pure (wpAny_pure ⟨rfl,h₅⟩)
theorem zmI {elt target iter c:Expr} {scope:Scope} {pos:Pos} {it acc:Value} {env:Env} (I:Nat->Shared->Prop)
  (turn:∀ n s,I n s->wpAny (model prog w) A (pyNext it) (fun r s₁=>match r with
   | none=>R (.ok .next) s₁
   | some v=>wpAny (model prog w) A (letOwnedTupleGo target it v) (fun _ s₂=>wpAny (model prog w) A (assign target env v) (fun _ s₃=>wpAny (model prog w) A (isTrue c env (eval c env)) (fun b s₄ =>
     if b=true then wpAny (model prog w) A (eval elt env) (fun y s₅ =>
      wpAny (model prog w) A (call (.builtin "list.append") [acc,y]) (fun _ s₆=>∃ m,m<n/\I m s₆) (fun _ _=>False) s₅) (fun _ _=>False) s₄
     else ∃ m,m<n/\I m s₄) (fun _ _=>False) s₃) (fun _ _=>False) s₂) (fun _ _=>False) s₁) (fun _ _=>False) s)
  (n:Nat) (h:I n s):codeAny (model prog w) A (.compLoop (.ListComp elt [⟨target,iter,[c],0⟩] scope pos) 0 it acc env) R s:=by
 refine codeAny_loop rfl I (fun n s hI=>?_) n h
 show wpAny _ _ (Sem.onRaise (compTurn (.ListComp elt [⟨target,iter,[c],0⟩] scope pos) 0 it acc env) _) _ _ s
 refine wpAny_noted (noE ?_)
 rw[compTurn_list]
 refine wpAny_bind (wpAny_standAt (wpAny_bind (wpAny_mono (turn n s hI) (fun r s₁ h₁=>?_) fun _ _ z=>z)))
 cases r with
 | none=>exact wpAny_pure h₁
 | some v =>
  refine wpAny_bind (wpAny_mono h₁ (fun _ s₂ h₂=>?_) fun _ _ z=>z)
  refine wpAny_bind (wpAny_mono h₂ (fun _ s₃ h₃=>?_) fun _ _ z=>z)
  simp only[ycb,List.forIn_nil,if_true,bind_assoc,pure_bind]
  refine wpAny_bind (wpAny_mono h₃ (fun b s₄ h₄=>?_) fun _ _ z=>z)
  cases b with
  | true =>
   simp only[if_true] at h₄ ⊢
   refine wpAny_bind (wpAny_mono h₄ (fun y s₅ h₅=>?_) fun _ _ z=>z)
   refine wpAny_bind (wpAny_mono h₅ (fun _ s₆ h₆=>?_) fun _ _ z=>z)
   exact wpAny_pure ⟨rfl,h₆⟩
  | false =>
   simp only[Bool.false_eq_true,if_false] at h₄ ⊢
   exact wpAny_pure ⟨rfl,h₄⟩
end
noncomputable def zdg (sc:Scope) (env:Env):List (Str × Addr):=(sc.names.filterMap fun p=>if p.2 == .free then (env.cells.lookup p.1).map fun c=>(p.1,c) else none).reverse
structure Blk where
 C:Addr
 s:Shared
 H:Hp
 pn:List (Addr × Obj)
 ex:List Addr
noncomputable def Cx.block (X:Cx) (sc:Scope) (x:Str) (ix:List Nat) (b:Blk):Cx where
 prog:=X.prog
 w:=X.w
 K:=X.K
 mg:=X.mg
 base:=X.base
 A:=X.A
 N:=x::ix.map fun i=>X.N.getD i x
 s₀:=b.s
 H₀:=b.H
 env:=compEnvC sc (zdg sc X.env) b.C X.env
 outer:=X.stack
 stack:=X.stack
 ex:=b.ex
 fn:=fun _=>false
 calm:=X.calm
 pn:=b.pn
 xe:=fun _ _=>False
noncomputable def capts (σ:St) (ix:List Nat):St:=ix.map fun i=>σ.getD i none
def zrn (X:Cx) (sc:Scope) (x:Str) (i:Nat):Prop :=
 (X.env.kindOf (X.N.getD i x)=some .cell\/X.env.kindOf (X.N.getD i x)=some .free)/\((relabel sc X.env).names.lookup (X.N.getD i x)=some .cell\/(relabel sc X.env).names.lookup (X.N.getD i x)=some .free) /\
  (zdg sc X.env).lookup (X.N.getD i x)=X.env.cells.lookup (X.N.getD i x)
noncomputable def zhO (X:Cx) (sc:Scope) (x:Str):List Nat->Prop
 | []=>True
 | i::r=>zrn X sc x i/\zhO X sc x r
theorem zhO.get {X:Cx} {sc:Scope} {x:Str}:∀ {ix:List Nat},zhO X sc x ix->∀ i∈ix,zrn X sc x i
 | [],_,_,h=>nomatch h
 | _::_,h,_,hi=>(yaj.mp hi).elim (fun e=>e ▸ h.1) fun z=>zhO.get h.2 _ z
noncomputable def zjH (cells:List (Str × Addr)):List (Str × Addr)->Prop
 | []=>True
 | p::r=>cells.lookup p.1=some p.2/\zjH cells r
theorem zjH.get {cells:List (Str × Addr)}:∀ {cl:List (Str × Addr)},zjH cells cl->∀ y c,cl.lookup y=some c->cells.lookup y=some c
 | [],_,_,_,h=>by simp at h
 | p::r,h,y,c,e=>by
  rw[List.lookup_cons] at e
  cases q:y == p.1 with
  | true =>
   rw[q] at e
   have e1:p.2=c:=Option.some.inj e
   rw[eq_of_beq q,<-e1]
   exact h.1
  | false =>
   rw[q] at e
   exact zjH.get h.2 y c e
noncomputable def zjM (cl:List (Str × Addr)):List (Str × NameKind)->Prop
 | []=>True
 | p::r=>(p.2=.cell\/p.2=.free->∃ c,cl.lookup p.1=some c)/\zjM cl r
theorem zjM.get {cl:List (Str × Addr)}:∀ {ns:List (Str × NameKind)},zjM cl ns->∀ p∈ns,p.2=.cell\/p.2=.free->∃ c,cl.lookup p.1=some c
 | [],_,_,h=>nomatch h
 | _::_,h,_,hp=>(yaj.mp hp).elim (fun e=>e ▸ h.1) fun z=>zjM.get h.2 _ z
structure zd0 (X:Cx) (sc:Scope) (x:Str) (ix:List Nat):Prop where
 clos:closureFor sc X.env=pure (zdg sc X.env)
 cell:∀ y∈sc.names,y.2≠.cell
 kind:sc.kind=.function
 names:∀ y∈sc.names,y.2=.local->sc.names.lookup y.1=some .local
 var:sc.names.lookup x=some .local
 nd:(x::ix.map fun i=>X.N.getD i x).Nodup
 cap:zhO X sc x ix
 sub:zjH X.env.cells (zdg sc X.env)
 has:zjM (zdg sc X.env) (relabel sc X.env).names
section
variable {X:Cx} {pins:List (Addr × Obj)} {σ:St} {H:Hp} {s:Shared} {sc:Scope} {x:Str} {ix:List Nat} {fp:List Addr}
theorem zqe (I:Inv X pins σ H s) (O:zd0 X sc x ix) (hf:∀ b∈fp,zbQ X pins H b) (hx:∀ b∈fp,∃ o,s.heap.get? b=some o):(X.block sc x ix ⟨s.heap.objs.size,s,H,X.pn++pins,fp⟩).Ok where
 mod:=I.ok.mod
 kind:=O.kind
 glob:=I.ok.glob
 blt:=I.ok.blt
 above:=ycz _
 inj:=fun y z c h1 h2=>I.ok.inj y z c (O.sub.get y c h1) (O.sub.get z c h2)
 has:=fun y h=>by
  have h':(relabel sc X.env).names.lookup y=some .cell\/(relabel sc X.env).names.lookup y=some .free:=h
  rcases h' with h' | h'
  ·exact O.has.get _ (PySem.mem_of_lookup h') (.inl rfl)
  ·exact O.has.get _ (PySem.mem_of_lookup h') (.inr rfl)
 cab:=fun _ _ h=>absurd (show false=true from h) Bool.false_ne_true
 hd:=I.ok.hd
 frames:=I.ok.frames
 stk:=.inl rfl
 exf:=fun b hb=>by
  obtain ⟨o,e⟩:=hx b hb
  exact ⟨yda (ydr e),fun y c h=>(hf b hb).2.2.2.2.1 y c (O.sub.get y c h)⟩
 bs:=I.bs
 bsz:=yde I.ok.bsz I.sz
 noex:=fun b o e hb=>by
  rcases (hf b hb).2.2.2.1 with z | z
  ·exact I.ok.noex b o e z
  ·exact absurd (ydb (ydr e) (yde I.ok.bsz z)) (ydf _)
 exfs:=fun b hb z=>(yaj.mp (I.zgA b z)).elim (hf b hb).2.1 (hf b hb).2.2.1
 funs:=I.stack
 frf:=I.zos
theorem zkY {h₁:Heap} {m:Str->Option Value} {tk:Nat} (I:Inv X pins σ H s) (O:zd0 X sc x ix) (hf:∀ b∈fp,zbQ X pins H b) (hx:∀ b∈fp,∃ o,s.heap.get? b=some o)
  (hn:h₁.Ns s.heap.objs.size m) (keep:∀ b o,s.heap.get? b=some o->h₁.get? b=some o) :
  Inv (X.block sc x ix ⟨s.heap.objs.size,s,H,X.pn++pins,fp⟩) [] (none::capts σ ix) H { s with heap:=h₁,toks:=tk }:=by
 refine ⟨zqe I O hf hx,rfl,I.bare,Un.kept keep,⟨m,hn,fun i y v e1 e2 _=>?_⟩,fun y c h=>?_,I.hok.fresh (ycz _),fun y c h=>I.freeC y c (O.sub.get y c h),fun p hp=>?_,I.hok.kept keep,?_⟩
 ·cases i with
  | zero=>cases e2
  | succ j =>
   have e1':(ix.map fun i=>X.N.getD i x)[j]?=some y:=e1
   have e2':(capts σ ix)[j]?=some (some v):=e2
   unfold capts at e2'
   rw[yag] at e1' e2'
   cases q:ix[j]? with
   | none=>rw[q] at e1';cases e1'
   | some i =>
    rw[q] at e1' e2'
    have e3:X.N.getD i x=y:=Option.some.inj e1'
    have e4:σ.getD i none=some v:=Option.some.inj e2'
    obtain ⟨c1,c2,c3⟩:=O.cap.get i (yah q)
    rw[e3] at c1 c2 c3
    have e5:σ[i]?=some (some v):=by
     rw[yaf] at e4
     cases z:σ[i]? with
     | none=>rw[z] at e4;cases e4
     | some a=>rw[z] at e4;exact congrArg some e4
    have hl:i<X.N.length:=by
     rw[<-I.len]
     exact (yad.mp e5).1
    have e6:X.N[i]?=some y:=by
     rw[yaf,yaa hl] at e3
     rw[yaa hl]
     exact congrArg some e3
    obtain ⟨m0,_,l0⟩:=I.loc
    have vis:Vis X.env.scope y:=by
     rcases c1 with z | z
     ·exact .inr (.inl z)
     ·exact .inr (.inr z)
    obtain ⟨u,ru,lu⟩:=l0 i y v e6 e5 vis
    refine ⟨u,ru,?_⟩
    rcases lu with ⟨k,_⟩ | ⟨_,c,hc,o,ho,hd⟩
    ·rcases c1 with z | z
     ·rw[z] at k;cases k
     ·rw[z] at k;cases k
    ·exact .inr ⟨c2,c,c3.trans hc,o,keep c o ho,hd⟩
 ·obtain ⟨v,o,ho,hd⟩:=I.cell y c (O.sub.get y c h)
  exact ⟨v,o,keep c o ho,hd⟩
 ·have hp':p∈X.pn++pins:=by
   rcases yam.mp hp with z | z
   ·exact z
   ·cases z
  obtain ⟨e,n,ne,nf,d⟩:=I.pin p hp'
  exact ⟨keep _ _ e,n,yda (ydr e),fun z=>(yaj.mp (I.zgA _ z)).elim ne nf,d⟩
 ·show (none::capts σ ix).length=(x::ix.map fun i=>X.N.getD i x).length
  simp[capts]
theorem zjB {pins':List (Addr × Obj)} {σ':St} {H':Hp} {s':Shared} (I:Inv X pins σ H s) (hf:∀ b∈fp,zbQ X pins H b) (J:Inv (X.block sc x ix ⟨s.heap.objs.size,s,H,X.pn++pins,fp⟩) pins' σ' H' s'):Inv X pins σ H' s' :=
 I.call' J.os J.base J.hok J.bare fun b hb=>⟨(hf b hb).2.2.2.1,(hf b hb).2.1,(hf b hb).2.2.2.2.1,(hf b hb).2.2.2.2.2⟩
theorem Inv.addpin {b:Addr} {o:Obj} (I:Inv X pins σ H s) (e:s.heap.get? b=some o) (hn:H b=none) (hL:b≠X.env.locals) (hf:b ∉ X.fs) (hd:∀ v,o.data≠.cell v):Inv X (pins++[(b,o)]) σ H s :=
 I.zkz fun p hp=>(yam.mp hp).elim (fun z=>I.pin p (yai _ z)) fun z=>by
  have e':p=(b,o):=by simpa using z
  subst e'
  exact ⟨e,hn,hL,hf,hd⟩
end
def Turns (ix:List Nat) (te:TE) (σ:St) (J:It) (l:Addr) (R:Hp->Prop) (W:Nat->Nat->List V->Hp->Prop):Prop :=
 ∀ i m xs H',W i m xs H'->H' l=some (.lst xs)/\((J.stop i H'/\R H')\/(J.go i H'/\xs.length<sizeLine/\∀ x H2,J.yld i H' x H2 ->
  te (some x::capts σ ix) H2 fun v H3=>H3 l=some (.lst xs)/\∃ m',m'<m/\W (i+1) m' (xs++[v]) (upd H3 l (.lst (xs++[v])))))
def zrg (ix:List Nat) (wi:TI) (te:TE):TE:=fun σ H Q=>wi σ H fun J H1=>∀ l,H1 l=none->∃ W:Nat->Nat->List V->Hp->Prop,(∃ m,W 0 m [] (upd H1 l (.lst [])))/\Turns ix te σ J l (Q (.ref l)) W
section
variable {X:Cx} {pins:List (Addr × Obj)} {σ:St} {H:Hp} {s:Shared} {sc:Scope} {x:Str} {ix:List Nat} {fp:List Addr} {elt iter:Expr} {te:TE} {wi:TI} {px pos:Pos}
theorem zkQ {it:Addr} {tn:Nat->Heap->Prop} {J:It} {use:Option (Value->Sem Unit)} {Q:Value->Shared->Prop} {E:Value->Shared->Prop} (O:zd0 X sc x ix) (hel:∀ b,PE (X.block sc x ix b) elt te) (hc:X.calm=true)
  (I:Inv X pins σ H s) (T:Turn X.prog X.w X.K (.Name x px) J fp it tn) (st:tn 0 s.heap) (hf:∀ b∈fp,zbQ X pins H b) (R:Addr->Hp->Prop)
  (h:∀ l,H l=none->∃ W:Nat->Nat->List V->Hp->Prop,(∃ m,W 0 m [] (upd H l (.lst [])))/\Turns ix te σ J l (R l) W)
  (fin:∀ l C m s' H',Inv X pins σ H' s'->s'.heap.Ns C m->zbQ X pins H' C->R l H'->compPost (model X.prog X.w) X.A E use Q (.ref l) C (.ok .next) s') :
  wpAny (model X.prog X.w) X.A (newList []) (fun acc s₃=>wpAny (model X.prog X.w) X.A (newFunctionEnv sc X.env.globals (zdg sc X.env) [] X.env.qual none .none (some X.env)) (fun cenv s₄ =>
   codeAny (model X.prog X.w) X.A (.compStart (.ListComp elt [⟨.Name x px,iter,[],0⟩] sc pos) 0 (.ref it) acc { cenv with scope:=relabel sc X.env }) (compPost (model X.prog X.w) X.A E use Q acc cenv.locals) s₄) E s₃) E s:=by
 refine wpAny_newObj_type (wpAny_newFunctionEnv O.cell (by intro y hy;simp at hy) (fun h₁ hns hsb=>?_) O.kind)
 dsimp only at hns hsb ⊢
 have hl0:H s.heap.objs.size=none:=I.hok.fresh (ycz _)
 obtain ⟨W,⟨m0,w0⟩,tr⟩:=h s.heap.objs.size hl0
 have I3:Inv X pins σ (upd H s.heap.objs.size (.lst [])) { s with heap:=s.heap.push { cls:=.type "list", dict:=none,data:=.seq ([]:List Value).toArray } } :=
  I.laid (t':=s.toks) (fun b o e=>ydq _ e) (ycz _) ⟨ydc _,[],0,.nil,yds _ rfl⟩
 have ofp:∀ b∈fp,∃ o,s.heap.get? b=some o:=fun b hb=>by
  obtain ⟨o,e,_⟩:=T.obj 0 _ st b hb
  exact ⟨o,e⟩
 generalize e3:s.heap.push { cls:=.type "list", dict:=none,data:=.seq ([]:List Value).toArray }=G at I3 hns hsb ⊢
 have ofp3:∀ b∈fp,∃ o,G.get? b=some o:=fun b hb=>by
  obtain ⟨o,e⟩:=ofp b hb
  exact ⟨o,by rw[<-e3];exact ydq _ e⟩
 have nl:∀ b∈fp,b≠s.heap.objs.size:=fun b hb=>by
  obtain ⟨o,e⟩:=ofp b hb
  exact yda (ydr e)
 have hf3:∀ b∈fp,zbQ X pins (upd H s.heap.objs.size (.lst [])) b:=fun b hb=>⟨by rw[zt (nl b hb)];exact (hf b hb).1,(hf b hb).2⟩
 have keep3:∀ b o,G.get? b=some o->h₁.get? b=some o:=fun b o e=>hsb.extBut b o (yda (ydr e)) (ydq _ e)
 have stk:tn 0 h₁:=T.keep _ _ _ st fun b hb o e=>keep3 b o (by rw[<-e3];exact ydq _ e)
 have J0:=zkY (tk:=s.toks+([]:List (Str × Value)).length) I3 O hf3 ofp3 hns keep3
 have stat:∀ {H':Hp},(∀ b∈fp,H' b=none)->∀ b∈fp,zbQ (X.block sc x ix ⟨G.objs.size,{ s with heap:=G },upd H s.heap.objs.size (.lst []),X.pn++pins,fp⟩) [] H' b:=fun hn b hb=>by
  obtain ⟨o,e⟩:=ofp3 b hb
  refine ⟨hn b hb,yda (ydr e),fun z=>(yaj.mp (I3.zgA _ z)).elim (hf b hb).2.1 (hf b hb).2.2.1,.inl hb,fun y c q=>(hf b hb).2.2.2.2.1 y c (O.sub.get y c q),fun p hp=>?_⟩
  have hp':p∈X.pn++pins:=by
   rcases yam.mp hp with z | z
   ·exact z
   ·cases z
  exact (hf b hb).2.2.2.2.2 p hp'
 have loop:∀ s4:Shared,s4={ s with heap:=h₁,toks:=s.toks+([]:List (Str × Value)).length } ->
   codeAny (model X.prog X.w) X.A (.compLoop (.ListComp elt [⟨.Name x px,iter,[],0⟩] sc pos) 0 (.ref it) (.ref s.heap.objs.size) (compEnvC sc (zdg sc X.env) G.objs.size X.env))
    (compPost (model X.prog X.w) X.A E use Q (.ref s.heap.objs.size) G.objs.size) s4:=by
  rintro s4 rfl
  refine zpW (fun n s'=>∃ i xs H' z,Inv (X.block sc x ix ⟨G.objs.size,{ s with heap:=G },upd H s.heap.objs.size (.lst []),X.pn++pins,fp⟩) [] (z::capts σ ix) H' s'/\tn i s'.heap/\(∀ b∈fp,H' b=none)/\W i n xs H') ?_ m0
   ⟨0,[],_,none,J0,stk,fun b hb=>(hf3 b hb).1,w0⟩
  rintro n s5 ⟨i,xs,H5,z,I5,st5,fr5,w5⟩
  obtain ⟨hl5,h5⟩:=tr i n xs H5 w5
  rcases h5 with ⟨stop,r5⟩ | ⟨go,hz,step⟩
  ·refine thn (T.done (X.block sc x ix ⟨G.objs.size,{ s with heap:=G },upd H s.heap.objs.size (.lst []),X.pn++pins,fp⟩) rfl rfl rfl hc i [] s5 _ H5 _ I5 (stat fr5) st5 stop) fun r s6 ⟨hr,I6⟩=>?_
   subst hr
   obtain ⟨m6,hn6,_⟩:=I6.loc
   refine fin _ _ m6 s6 H5 (zjB I3 hf3 I6) hn6 ?_ r5
   exact I3.zkr (ycz _) I6.free
  ·refine thn (T.item (X.block sc x ix ⟨G.objs.size,{ s with heap:=G },upd H s.heap.objs.size (.lst []),X.pn++pins,fp⟩) rfl rfl rfl hc i [] s5 _ H5 _ I5 (stat fr5) st5 go) fun r s6 ⟨u,hr,h6⟩=>?_
   subst hr
   refine thn h6 fun _ s7 ⟨y,H7,I7,r7,y7,st7,fr7⟩=>?_
   have I7':=I7.pinned (stat fr7) (T.obj _ _ st7)
   have lx:(relabel sc X.env).names.lookup x=some .local:=lookup_relabel_local O.var
   refine thn ((zF (i:=0) O.nd rfl (Or.inl lx) (Or.inr lx):PG (X.block sc x ix ⟨G.objs.size,{ s with heap:=G },upd H s.heap.objs.size (.lst []),X.pn++pins,fp⟩) (.Name x px) (zfx 0)) _ s7 _ H7 y u (fun σ' H'=>σ'=some y::capts σ ix/\H'=H7) I7' r7 ⟨rfl,rfl⟩) fun _ s8 ⟨σ8,H8,I8,e8,e8'⟩=>?_
   subst e8 e8'
   refine thn (hel _ _ s8 _ H8 _ I8 (step y H8 y7)) fun v9 s9 ⟨v,H9,I9,r9,hl9,m',hm,w9⟩=>?_
   refine thn (zcF _ s9 _ H9 (.ref s.heap.objs.size) [v] (.ref s.heap.objs.size) [v9] (fun _ H'=>H'=upd H9 s.heap.objs.size (.lst (xs++[v]))) I9 rfl (.cons r9 .nil) ⟨_,xs,v,rfl,rfl,hl9,hz,rfl⟩) fun _ s10 ⟨_,H10,I10,_,e10⟩=>?_
   subst e10
   refine ⟨m',hm,i+1,xs++[v],_,some y,I10.unpinned,T.keep _ _ _ st7 fun b hb o e=>(I10.pin (b,o) (yai _ (yai _ (zb3 hb e)))).1,fun b hb=>?_,w9⟩
   obtain ⟨o,e,d⟩:=T.obj _ _ st7 b hb
   exact (I10.pin (b,o) (yai _ (yai _ (zb3 hb e)))).2.1
 exact codeAny_compStart_list (loop _ rfl) (T.self _ 0 _ _ _ stk (loop _ rfl))
theorem zcG (O:zd0 X sc x ix) (hi:PI X (.Name x px) iter wi) (hel:∀ b,PE (X.block sc x ix b) elt te) (hc:X.calm=true:=by rfl) (hs:∀ v,foldedSetIterable iter X.env v=pure v:=by intro _;rfl) :
  PE X (.ListComp elt [⟨.Name x px,iter,[],0⟩] sc pos) (zrg ix wi te):=by
 intro pins s σ H Q I h
 rw[eval_ListComp]
 refine wpAny_comprehension_free (use:=none) rfl hs O.clos O.kind O.names (thn (hi pins s σ H _ I h) fun xv s1 h1=>thn h1 fun itv s2 h2=>?_)
 obtain ⟨it,fp,tn,J,H2,e,I2,T,st2,f2,hq⟩:=h2
 subst e
 refine zkQ O hel hc I2 T st2 f2 (fun l H'=>Q (.ref l) H') hq ?_
 intro l C m s' H' I' hn hf r
 refine ⟨m,hn,fun h' hb=>⟨.ref l,H',?_,rfl,r⟩⟩
 exact I'.turned (t':=s'.toks) (fun b o hne e=>hb.extBut b o hne e) hf.1 hf.2.1 hf.2.2.2.1 hf.2.2.2.2.1 hf.2.2.2.2.2
theorem zrs {y:Str} {i:Nat} {py spos:Pos} (hN:X.N.Nodup) (hiy:X.N[i]?=some y) (hy:X.env.scope.names.lookup y=some .local) (O:zd0 X sc x ix) (hi:PI X (.Name x px) iter wi) (hel:∀ b,PE (X.block sc x ix b) elt te)
  (hc:X.calm=true:=by rfl) (hs:∀ v,foldedSetIterable iter X.env v=pure v:=by intro _;rfl) (hsw:swapsWith (.ListComp elt [⟨.Name x px,iter,[],0⟩] sc pos) (some (.Name y py)) spos.line X.env=pure true:=by rfl) :
  PS X (.Assign [.Name y py] (.ListComp elt [⟨.Name x px,iter,[],0⟩] sc pos) spos) (zoZ (zrg ix wi te) (zfx i)):=by
 intro pins s σ H D I h
 rw[exec_Assign_Name_used _ _ _ _ hsw]
 refine wpAny_bind (wpAny_standAt (wpAny_bind ?_))
 show wpAny _ X.A (do let _ <-comprehension (.ListComp elt [⟨.Name x px,iter,[],0⟩] sc pos) sc X.env _ (newList []) false (eval iter X.env) (some (assign (.Name y py) X.env))) _ _ s
 refine wpAny_bind (wpAny_mono (wpAny_comprehension_free (use:=some (assign (.Name y py) X.env)) (Q:=fun _ s'=>SP X pins D .next s') rfl hs O.clos O.kind O.names
  (thn (hi pins s σ H _ I h) fun xv s1 h1=>thn h1 fun itv s2 h2=>?_)) (fun _ s' hq=>wpAny_pure (wpAny_pure hq)) fun _ _ e=>e)
 obtain ⟨it,fp,tn,J,H2,e,I2,T,st2,f2,hq⟩:=h2
 subst e
 refine zkQ O hel hc I2 T st2 f2 (fun l H'=>D.nx (σ.set i (some (.ref l))) H') hq ?_
 intro l C m s' H' I' hn hf r
 obtain ⟨o,es,ep,ho,hd,hr⟩:=id hn
 have Ip:=I'.addpin ho hf.1 hf.2.1 hf.2.2.1 (by intro v z;rw[hd] at z;cases z)
 refine thn ((zF (i:=i) hN hiy (Or.inl hy) (Or.inr hy):PG X (.Name y py) (zfx i)) _ s' σ H' (.ref l) (.ref l) (fun σ' H''=>σ'=σ.set i (some (.ref l))/\H''=H') Ip rfl ⟨rfl,rfl⟩) fun _ s'' ⟨σ'',H'',I'',e1,e2⟩=>?_
 subst e1 e2
 have pc:=(I''.pin (C,o) (yai _ (yai _ yal))).1
 refine ⟨m,⟨o,es,ep,pc,hd,hr⟩,fun h' hb=>⟨_,_,?_,r⟩⟩
 exact I''.unpinned.turned (t':=s''.toks) (fun b o hne e=>hb.extBut b o hne e) hf.1 hf.2.1 hf.2.2.2.1 hf.2.2.2.2.1 hf.2.2.2.2.2
end
def zgn (ix:List Nat) (tt:TT) (te:TE) (σ:St) (J:It) (l:Addr) (R:Hp->Prop) (W:Nat->Nat->List V->Hp->Prop):Prop :=
 ∀ i m xs H',W i m xs H'->H' l=some (.lst xs)/\((J.stop i H'/\R H')\/(J.go i H'/\xs.length<sizeLine/\∀ x H2,J.yld i H' x H2 ->
  tt (some x::capts σ ix) H2 fun b H3=>if b=true then te (some x::capts σ ix) H3 fun v H4=>H4 l=some (.lst xs)/\∃ m',m'<m/\W (i+1) m' (xs++[v]) (upd H4 l (.lst (xs++[v]))) else ∃ m',m'<m/\W (i+1) m' xs H3))
def zn1 (ix:List Nat) (wi:TI) (tt:TT) (te:TE):TE:=fun σ H Q=>wi σ H fun J H1=>∀ l,H1 l=none->∃ W:Nat->Nat->List V->Hp->Prop,(∃ m,W 0 m [] (upd H1 l (.lst [])))/\zgn ix tt te σ J l (Q (.ref l)) W
section
variable {X:Cx} {pins:List (Addr × Obj)} {σ:St} {H:Hp} {s:Shared} {sc:Scope} {x:Str} {ix:List Nat} {fp:List Addr} {elt iter c:Expr} {te:TE} {tt:TT} {wi:TI} {px pos:Pos}
theorem ziQ {it:Addr} {tn:Nat->Heap->Prop} {J:It} {use:Option (Value->Sem Unit)} {Q:Value->Shared->Prop} {E:Value->Shared->Prop} (O:zd0 X sc x ix) (htt:∀ b,PT (X.block sc x ix b) c tt) (hel:∀ b,PE (X.block sc x ix b) elt te) (hc:X.calm=true)
  (I:Inv X pins σ H s) (T:Turn X.prog X.w X.K (.Name x px) J fp it tn) (st:tn 0 s.heap) (hf:∀ b∈fp,zbQ X pins H b) (R:Addr->Hp->Prop)
  (h:∀ l,H l=none->∃ W:Nat->Nat->List V->Hp->Prop,(∃ m,W 0 m [] (upd H l (.lst [])))/\zgn ix tt te σ J l (R l) W)
  (fin:∀ l C m s' H',Inv X pins σ H' s'->s'.heap.Ns C m->zbQ X pins H' C->R l H'->compPost (model X.prog X.w) X.A E use Q (.ref l) C (.ok .next) s') :
  wpAny (model X.prog X.w) X.A (newList []) (fun acc s₃=>wpAny (model X.prog X.w) X.A (newFunctionEnv sc X.env.globals (zdg sc X.env) [] X.env.qual none .none (some X.env)) (fun cenv s₄ =>
   codeAny (model X.prog X.w) X.A (.compStart (.ListComp elt [⟨.Name x px,iter,[c],0⟩] sc pos) 0 (.ref it) acc { cenv with scope:=relabel sc X.env }) (compPost (model X.prog X.w) X.A E use Q acc cenv.locals) s₄) E s₃) E s:=by
 refine wpAny_newObj_type (wpAny_newFunctionEnv O.cell (by intro y hy;simp at hy) (fun h₁ hns hsb=>?_) O.kind)
 dsimp only at hns hsb ⊢
 have hl0:H s.heap.objs.size=none:=I.hok.fresh (ycz _)
 obtain ⟨W,⟨m0,w0⟩,tr⟩:=h s.heap.objs.size hl0
 have I3:Inv X pins σ (upd H s.heap.objs.size (.lst [])) { s with heap:=s.heap.push { cls:=.type "list", dict:=none,data:=.seq ([]:List Value).toArray } } :=
  I.laid (t':=s.toks) (fun b o e=>ydq _ e) (ycz _) ⟨ydc _,[],0,.nil,yds _ rfl⟩
 have ofp:∀ b∈fp,∃ o,s.heap.get? b=some o:=fun b hb=>by
  obtain ⟨o,e,_⟩:=T.obj 0 _ st b hb
  exact ⟨o,e⟩
 generalize e3:s.heap.push { cls:=.type "list", dict:=none,data:=.seq ([]:List Value).toArray }=G at I3 hns hsb ⊢
 have ofp3:∀ b∈fp,∃ o,G.get? b=some o:=fun b hb=>by
  obtain ⟨o,e⟩:=ofp b hb
  exact ⟨o,by rw[<-e3];exact ydq _ e⟩
 have nl:∀ b∈fp,b≠s.heap.objs.size:=fun b hb=>by
  obtain ⟨o,e⟩:=ofp b hb
  exact yda (ydr e)
 have hf3:∀ b∈fp,zbQ X pins (upd H s.heap.objs.size (.lst [])) b:=fun b hb=>⟨by rw[zt (nl b hb)];exact (hf b hb).1,(hf b hb).2⟩
 have keep3:∀ b o,G.get? b=some o->h₁.get? b=some o:=fun b o e=>hsb.extBut b o (yda (ydr e)) (ydq _ e)
 have stk:tn 0 h₁:=T.keep _ _ _ st fun b hb o e=>keep3 b o (by rw[<-e3];exact ydq _ e)
 have J0:=zkY (tk:=s.toks+([]:List (Str × Value)).length) I3 O hf3 ofp3 hns keep3
 have stat:∀ {H':Hp},(∀ b∈fp,H' b=none)->∀ b∈fp,zbQ (X.block sc x ix ⟨G.objs.size,{ s with heap:=G },upd H s.heap.objs.size (.lst []),X.pn++pins,fp⟩) [] H' b:=fun hn b hb=>by
  obtain ⟨o,e⟩:=ofp3 b hb
  refine ⟨hn b hb,yda (ydr e),fun z=>(yaj.mp (I3.zgA _ z)).elim (hf b hb).2.1 (hf b hb).2.2.1,.inl hb,fun y c q=>(hf b hb).2.2.2.2.1 y c (O.sub.get y c q),fun p hp=>?_⟩
  have hp':p∈X.pn++pins:=by
   rcases yam.mp hp with z | z
   ·exact z
   ·cases z
  exact (hf b hb).2.2.2.2.2 p hp'
 have loop:∀ s4:Shared,s4={ s with heap:=h₁,toks:=s.toks+([]:List (Str × Value)).length } ->
   codeAny (model X.prog X.w) X.A (.compLoop (.ListComp elt [⟨.Name x px,iter,[c],0⟩] sc pos) 0 (.ref it) (.ref s.heap.objs.size) (compEnvC sc (zdg sc X.env) G.objs.size X.env))
    (compPost (model X.prog X.w) X.A E use Q (.ref s.heap.objs.size) G.objs.size) s4:=by
  rintro s4 rfl
  refine zmI (fun n s'=>∃ i xs H' z,Inv (X.block sc x ix ⟨G.objs.size,{ s with heap:=G },upd H s.heap.objs.size (.lst []),X.pn++pins,fp⟩) [] (z::capts σ ix) H' s'/\tn i s'.heap/\(∀ b∈fp,H' b=none)/\W i n xs H') ?_ m0
   ⟨0,[],_,none,J0,stk,fun b hb=>(hf3 b hb).1,w0⟩
  rintro n s5 ⟨i,xs,H5,z,I5,st5,fr5,w5⟩
  obtain ⟨hl5,h5⟩:=tr i n xs H5 w5
  rcases h5 with ⟨stop,r5⟩ | ⟨go,hz,step⟩
  ·refine thn (T.done (X.block sc x ix ⟨G.objs.size,{ s with heap:=G },upd H s.heap.objs.size (.lst []),X.pn++pins,fp⟩) rfl rfl rfl hc i [] s5 _ H5 _ I5 (stat fr5) st5 stop) fun r s6 ⟨hr,I6⟩=>?_
   subst hr
   obtain ⟨m6,hn6,_⟩:=I6.loc
   refine fin _ _ m6 s6 H5 (zjB I3 hf3 I6) hn6 ?_ r5
   exact I3.zkr (ycz _) I6.free
  ·refine thn (T.item (X.block sc x ix ⟨G.objs.size,{ s with heap:=G },upd H s.heap.objs.size (.lst []),X.pn++pins,fp⟩) rfl rfl rfl hc i [] s5 _ H5 _ I5 (stat fr5) st5 go) fun r s6 ⟨u,hr,h6⟩=>?_
   subst hr
   refine thn h6 fun _ s7 ⟨y,H7,I7,r7,y7,st7,fr7⟩=>?_
   have I7':=I7.pinned (stat fr7) (T.obj _ _ st7)
   have lx:(relabel sc X.env).names.lookup x=some .local:=lookup_relabel_local O.var
   refine thn ((zF (i:=0) O.nd rfl (Or.inl lx) (Or.inr lx):PG (X.block sc x ix ⟨G.objs.size,{ s with heap:=G },upd H s.heap.objs.size (.lst []),X.pn++pins,fp⟩) (.Name x px) (zfx 0)) _ s7 _ H7 y u (fun σ' H'=>σ'=some y::capts σ ix/\H'=H7) I7' r7 ⟨rfl,rfl⟩) fun _ s8 ⟨σ8,H8,I8,e8,e8'⟩=>?_
   subst e8 e8'
   refine thn (htt _ _ s8 _ H8 _ I8 (step y H8 y7)) fun b s9 ⟨H9,I9,q9⟩=>?_
   have kp:∀ {σ0:St} {H0:Hp} {s0:Shared},Inv (X.block sc x ix ⟨G.objs.size,{ s with heap:=G },upd H s.heap.objs.size (.lst []),X.pn++pins,fp⟩) ([]++zhV fp s7.heap) σ0 H0 s0->tn (i+1) s0.heap/\∀ b∈fp,H0 b=none:=fun {σ0 H0 s0} I0=>by
    refine ⟨T.keep _ _ _ st7 fun b hb o e=>(I0.pin (b,o) (yai _ (yai _ (zb3 hb e)))).1,fun b hb=>?_⟩
    obtain ⟨o,e,d⟩:=T.obj _ _ st7 b hb
    exact (I0.pin (b,o) (yai _ (yai _ (zb3 hb e)))).2.1
   cases b with
   | false =>
    rw[if_neg Bool.false_ne_true] at q9 ⊢
    obtain ⟨m',hm,w9⟩:=q9
    exact ⟨m',hm,i+1,xs,_,some y,I9.unpinned,(kp I9).1,(kp I9).2,w9⟩
   | true =>
    rw[if_pos rfl] at q9 ⊢
    refine thn (hel _ _ s9 _ H9 _ I9 q9) fun v9 s10 ⟨v,H10,I10,r10,hl10,m',hm,w10⟩=>?_
    refine thn (zcF _ s10 _ H10 (.ref s.heap.objs.size) [v] (.ref s.heap.objs.size) [v9] (fun _ H'=>H'=upd H10 s.heap.objs.size (.lst (xs++[v]))) I10 rfl (.cons r10 .nil) ⟨_,xs,v,rfl,rfl,hl10,hz,rfl⟩) fun _ s11 ⟨_,H11,I11,_,e11⟩=>?_
    subst e11
    exact ⟨m',hm,i+1,xs++[v],_,some y,I11.unpinned,(kp I11).1,(kp I11).2,w10⟩
 exact codeAny_compStart_list (loop _ rfl) (T.self _ 0 _ _ _ stk (loop _ rfl))
theorem zcK (O:zd0 X sc x ix) (hi:PI X (.Name x px) iter wi) (htt:∀ b,PT (X.block sc x ix b) c tt) (hel:∀ b,PE (X.block sc x ix b) elt te) (hc:X.calm=true:=by rfl) (hs:∀ v,foldedSetIterable iter X.env v=pure v:=by intro _;rfl) :
  PE X (.ListComp elt [⟨.Name x px,iter,[c],0⟩] sc pos) (zn1 ix wi tt te):=by
 intro pins s σ H Q I h
 rw[eval_ListComp]
 refine wpAny_comprehension_free (use:=none) rfl hs O.clos O.kind O.names (thn (hi pins s σ H _ I h) fun xv s1 h1=>thn h1 fun itv s2 h2=>?_)
 obtain ⟨it,fp,tn,J,H2,e,I2,T,st2,f2,hq⟩:=h2
 subst e
 refine ziQ O htt hel hc I2 T st2 f2 (fun l H'=>Q (.ref l) H') hq ?_
 intro l C m s' H' I' hn hf r
 refine ⟨m,hn,fun h' hb=>⟨.ref l,H',?_,rfl,r⟩⟩
 exact I'.turned (t':=s'.toks) (fun b o hne e=>hb.extBut b o hne e) hf.1 hf.2.1 hf.2.2.2.1 hf.2.2.2.2.1 hf.2.2.2.2.2
end
theorem zb {H:Hp} {p:Addr} (h:H p=none) (o:HO):Same H (upd H p o):=fun b u q=>by rw[zt (zai q h)];exact q
section
variable {X:Cx}
theorem zdj:∀ {ns:List Int} {us:List Value},Vals (ns.map V.int) us->IntsAre us ns
 | [],_,.nil=>.nil
 | n::ns,_,.cons ⟨t,e⟩ r=>by
  subst e
  exact .cons n t (zdj r)
theorem zpJ (hc:X.calm=true):zaN X (.builtin "sum") (fun xs H Q=>∃ (p:Addr) (ns:List Int),xs=[.ref p]/\SqL X.K H p (ns.map V.int)/\Q (.int ns.sum) H):=by
 intro pins s σ H xs us Q I r h
 obtain ⟨p,ns,rfl,hq,q⟩:=h
 obtain ⟨u,rfl,rx⟩:=vals1 r
 cases rx
 obtain ⟨its,rv,pl,hz⟩:=I.list hq
 obtain ⟨xs,e⟩:=(zdj rv).allInts.items
 rw[e] at pl
 refine sum_intListG (I.ok.hd hc) pl.isList fun h' tk t' k=>⟨.int ns.sum,H,I.kept k,⟨t',?_⟩,q⟩
 have e1:=(zdj rv).numsOf
 rw[preSum_eq,yas (by simp),<-e1]
 congr 1
 rw[<-nums_intItems,<-e]
end
mutual
inductive RdV (K:W.Frag) (H:Hp):V->PyData->Prop
 | non:RdV K H .non .none
 | bl (b:Bool):RdV K H (.bl b) (.bool b)
 | int (i:Int):RdV K H (.int i) (.int i)
 | str (x:Str):RdV K H (.str x) (.str x)
 | lst {a:Addr} {xs:List V} {ds:List PyData}:SqL K H a xs->zbr K H xs ds->RdV K H (.ref a) (.list ds)
 | tup {a:Addr} {xs:List V} {ds:List PyData}:SqT K H a xs->zbr K H xs ds->RdV K H (.ref a) (.tuple ds)
inductive zbr (K:W.Frag) (H:Hp):List V->List PyData->Prop
 | nil:zbr K H [] []
 | cons {x:V} {d:PyData} {xs:List V} {ds:List PyData}:RdV K H x d->zbr K H xs ds->zbr K H (x::xs) (d::ds)
end
theorem zbr.ints {K:W.Frag} {H:Hp}:∀ ns:List Int,zbr K H (ns.map V.int) (ns.map PyData.int)
 | []=>.nil
 | n::r=>.cons (.int n) (zbr.ints r)
section
variable {X:Cx} {pins:List (Addr × Obj)} {σ:St} {H:Hp} {s:Shared} {pos:Pos}
mutual
theorem RdV.reads (I:Inv X pins σ H s):∀ {x:V} {d:PyData} {u:Value},RdV X.K H x d->RelV x u->∃ as,Reads s.heap u d as
 | _,_,_,.non,r=>by cases r;exact ⟨_,.none⟩
 | _,_,_,.bl b,r=>by cases r;exact ⟨_,.bool b⟩
 | _,_,_,.int i,r=>by obtain ⟨t,rfl⟩:=r;exact ⟨_,.int i t⟩
 | _,_,_,.str x,r=>by obtain ⟨t,rfl⟩:=r;exact ⟨_,.str x t⟩
 | _,_,_,.lst h hs,r=>by
  cases r
  obtain ⟨its,rv,pl,hz⟩:=I.list h
  obtain ⟨as,q⟩:=zbr.reads I hs rv
  obtain ⟨o,n,e,c,hd,dt⟩:=pl
  exact ⟨_,reads_list_at e c dt (by simpa using q)⟩
 | _,_,_,.tup h hs,r=>by
  cases r
  obtain ⟨its,rv,pl,hz⟩:=I.tuple h
  obtain ⟨as,q⟩:=zbr.reads I hs rv
  obtain ⟨o,e,c,n,dt⟩:=pl
  exact ⟨_,reads_tuple_at e c dt (by simpa using q)⟩
theorem zbr.reads (I:Inv X pins σ H s):∀ {xs:List V} {ds:List PyData} {us:List Value},zbr X.K H xs ds->Vals xs us->∃ as,ReadsAll s.heap us ds as
 | _,_,_,.nil,.nil=>⟨_,.nil⟩
 | _,_,_,.cons h hs,.cons r rs=>by
  obtain ⟨as,q⟩:=RdV.reads I h r
  obtain ⟨bs,q'⟩:=zbr.reads I hs rs
  exact ⟨_,.cons q q'⟩
end
def ztn (K:W.Frag):R2:=fun x y H Q=>∃ d e,RdV K H x d/\RdV K H y e/\SeqAt.shaped d=true/\SeqAt.shaped e=true/\Q (.bl (PyData.eqv d e)) H
def zty (K:W.Frag):R2:=fun x y H Q=>∃ d e,RdV K H x d/\RdV K H y e/\SeqAt.shaped d=true/\SeqAt.shaped e=true/\Q (.bl (!PyData.eqv d e)) H
theorem zr7 (hu:X.A.units+64<cLine):OpR X (compareOp .Eq) (ztn X.K):=by
 intro pins s σ H x y v u Q I rx ry h
 obtain ⟨d,e,hd,he,sd,se,q⟩:=h
 obtain ⟨as,ra⟩:=hd.reads I rx
 obtain ⟨bs,rb⟩:=he.reads I ry
 exact eq_dataH ra rb sd se hu ⟨.bl _,H,I,rfl,q⟩
theorem zmK (hu:X.A.units+64<cLine):OpR X (compareOp .NotEq) (zty X.K):=by
 intro pins s σ H x y v u Q I rx ry h
 obtain ⟨d,e,hd,he,sd,se,q⟩:=h
 obtain ⟨as,ra⟩:=hd.reads I rx
 obtain ⟨bs,rb⟩:=he.reads I ry
 exact ne_dataH ra rb sd se hu ⟨.bl _,H,I,rfl,q⟩
end
noncomputable def kinds:List String:=["NoneType", "bool", "int", "str", "list", "tuple", "dict"]
theorem zrA {K:W.Frag} {T:String} (h:T∈kinds):PySem.W.kitOne K (.type T) (.type "int")=some (decide (T = "int" \/ T = "bool")):=by
 simp only[kinds,yaj,ybh,or_false] at h
 rcases h with rfl | rfl | rfl | rfl | rfl | rfl | rfl <;> rfl
theorem zqU {K:W.Frag} {T:String} (h:T∈kinds):PySem.W.kitOne K (.type T) (.type "bool")=some (decide (T = "bool")):=by
 simp only[kinds,yaj,ybh,or_false] at h
 rcases h with rfl | rfl | rfl | rfl | rfl | rfl | rfl <;> rfl
def zsu (K:W.Frag) (H:Hp) (x:V) (T:String):Prop:=zcB K H x (.type T)/\T∈kinds
theorem zsX {A B:Prop} (h:A):if (!false)=true then A else B:=zsd (B:=B) h
theorem zsW {A B:Prop} (h:B):if (!true)=true then A else B:=zse (A:=A) h
theorem ztT {p A B:Prop} [Decidable p] (h1:¬ p->A) (h2:p->B):if (!decide p)=true then A else B:=by
 by_cases h:p
 ·rw[if_neg (by simpa using h)];exact h2 h
 ·rw[if_pos (by simpa using h)];exact h1 h
theorem zaB {X:Cx} {a b v:Int} {j j':Nat} {p p' pos:Pos} (h:a ^ b.toNat=v) (hb:CPow a b):PE X (.BinOp (.Constant (.int a) j p) .Pow (.Constant (.int b) j' p') pos) (tC (.int v)):=by
 intro pins s σ H Q I hq
 exact zh zsL zd zd pins s σ H Q I ⟨_,_,rfl,rfl,hb,by show Q (V.int (a ^ b.toNat)) H;rw[h];exact hq⟩
theorem zaf.get {P:Program} {w:World} {H:Hp} {h:Heap} {a:Addr} {o:HO} (x:zaf P w H h a o):∃ u,h.get? a=some u:=by
 cases o with
 | lst xs=>obtain ⟨_,_,_,_,e⟩:=x;exact ⟨_,e⟩
 | tup xs=>obtain ⟨_,_,_,_,e,_⟩:=x;exact ⟨_,e⟩
 | dK kvs=>obtain ⟨_,_,_,_,_,_,_,e,_⟩:=x;exact ⟨_,e⟩
 | set S n=>obtain ⟨_,_,_,_,e,_⟩:=x;exact ⟨_,e⟩
 | ins C dx fs=>obtain ⟨_,_,_,e,_⟩:=x;exact ⟨_,e⟩
 | own y=>exact x
 | xd fs=>obtain ⟨_,⟨_,_,_,e,_⟩,_⟩:=x;exact ⟨_,e⟩
 | rng lo hi=>obtain ⟨_,_,_,e⟩:=x;exact ⟨_,e⟩
 | frz ob u=>obtain ⟨e,_⟩:=x;exact ⟨_,e⟩
 | tbl ps=>exact ⟨_,(show h.get? a=some _ from x)⟩
 | met f y=>exact ⟨_,(show h.get? a=some _ from x)⟩
 | ext φ=>obtain ⟨_,e,_⟩:=x;exact e
theorem HOk.gone {P:Program} {w:World} {H:Hp} {h:Heap} {a:Addr} (x:HOk P w H h) (e:h.get? a=none):H a=none:=by
 cases q:H a with
 | none=>rfl
 | some o =>
  obtain ⟨u,z⟩:=(x a o q).get
  rw[e] at z;cases z
section
variable {X:Cx} {pins:List (Addr × Obj)} {σ:St} {H:Hp} {s:Shared} {h':Heap} {hid:List Addr}
end
section
variable {P:Program} {w:World} {K:W.Frag} {mg:Str->Option Value} {base:Heap} {N:List Str} {qual:Str} {scope:Scope} {f:Addr} {cd:Value} {A:Around} {outer:List Env} {s₀:Shared} {H₀:Hp} {E:XK}
end
section
variable {P:Program} {w:World} {K:W.Frag} {mg:Str->Option Value} {base:Heap} {x:Str} {st:Stmt} {N ps:List Str} {k:Nat} {sp:Sp}
end
section
variable {X:Cx} {x:Str} {p pos:Pos} {e:Expr} {es:List Expr} {t:TA} {j k:Nat} {ps:List Str} {sp:Sp}
end
noncomputable def cA (K:W.Frag) (x:Str):Addr:=match PySem.W.nsIn K mainGlobals x with
 | some (some (.ref C))=>C
 | _=>0
theorem zdb {K:W.Frag} {x:Str} {C:Addr} (e:PySem.W.nsIn K mainGlobals x=some (some (.ref C))):cA K x=C:=by unfold cA;rw[e]
section
variable {X:Cx} {x:Str} {np cpos pos:Pos} {e0:Expr} {rest:List Expr} {t:TA} {E:XK}
end
section
open PySem.Builtin PySem.Builtin.ObjectAttr PySem.Builtin.Getset_descriptor
variable {prog:Program} {w:World} {A:Around} {E:Value->Shared->Prop} {s:Shared} {K:W.Frag} {e C:Addr} {oe:Obj}
end
section
variable {K:W.Frag} {e C:Addr}
end
section
variable {X:Cx}
end
section
variable {X:Cx} {pins:List (Addr × Obj)} {σ:St} {H:Hp} {s:Shared} {e:Addr}
theorem Inv.track {o:HO} (I:Inv X pins σ H s) (hn:H e=none) (h0:X.s₀.heap.get? e=none) (hL:e≠X.env.locals) (hC:∀ x c,X.env.cells.lookup x=some c->c≠e) (hp:∀ p∈X.pn++pins,p.1≠e)
  (new:zaf X.prog X.w (upd H e o) s.heap e o):Inv X pins σ (upd H e o) s:=by
 refine ⟨I.ok,I.os,I.bare,⟨I.base.keep,I.base.slot,fun b u q n hx=>?_,I.base.there,fun b xs q=>?_,fun b u v q=>?_,fun b ps q=>?_⟩,I.loc,I.cell,?_,fun x c q=>?_,fun p q=>?_,fun b u q=>?_,I.len⟩
 ·rw[zt (fun z=>by rw[z,h0] at q;cases q)]
  exact I.base.free b u q n hx
 ·have z:=I.base.tups b xs q
  rw[zt (zai z hn)];exact z
 ·have z:=I.base.frzs b u v q
  rw[zt (zai z hn)];exact z
 ·obtain ⟨more,z⟩:=I.base.tbls b ps q
  exact ⟨more,by rw[zt (zai z hn)];exact z⟩
 ·rw[zt (Ne.symm hL)];exact I.free
 ·rw[zt (hC x c q)];exact I.freeC x c q
 ·obtain ⟨a,b,c,d,f⟩:=I.pin p q
  exact ⟨a,by rw[zt (hp p q)];exact b,c,d,f⟩
 ·by_cases hb:b=e
  ·subst hb
   rw[zf] at q;cases q
   exact new
  ·rw[zt hb] at q
   exact (I.hok b u q).stay (fun _ _ _ z=>z) (fun c z=>by rw[zt (zai z hn)];exact z) fun c xs z=>by rw[zt (zai z hn)];exact z
end
section
variable {K:W.Frag} {h:Heap} {mg:Str->Option Value} {x y:Str} {C D:Addr} {v:Bool} {n:String}
theorem zbb (X:K.In h) (a:PySem.W.nsIn K mainGlobals x=some (some (.ref C))):PySem.W.nsIn K mainGlobals x=some (some (.ref C)):=a
theorem zc8 (X:K.In h) (G:h.Ns mainGlobals mg) (a:PySem.W.nsIn K mainGlobals x=some (some (.ref C))):mg x=some (.ref (cA K x)):=by
 rw[zdb a];exact PySem.W.mg_of X G a
theorem zjU (a:PySem.W.nsIn K mainGlobals x=some (some (.ref C))) (b:PySem.W.nsIn K mainGlobals y=some (some (.ref D))) (q:PySem.W.kitOne K (.ref C) (.ref D)=some v):PySem.W.kitOne K (.ref (cA K x)) (.ref (cA K y))=some v:=by
 rw[zdb a,zdb b];exact q
theorem zix (a:PySem.W.nsIn K mainGlobals x=some (some (.ref C))) (q:PySem.W.kitOne K (.ref C) (.type n)=some v):PySem.W.kitOne K (.ref (cA K x)) (.type n)=some v:=by
 rw[zdb a];exact q
end
section
variable {P:Program} {w:World} {K:W.Frag} {mg:Str->Option Value} {base:Heap} {x:Str} {st:Stmt} {N ps:List Str} {k:Nat} {sp:Sp}
end
section
variable {X:Cx} {x:Str} {p pos:Pos} {e:Expr} {es:List Expr} {t:TA} {j k:Nat} {ps:List Str} {sp:Sp}
end
theorem zbG {xs:List V} {k:Int} (h0:0<=k) (h:k<(xs.length:Int)):∃ v,atI xs k=some v/\v∈xs:=by
 have hk:k.toNat<xs.length:=by ac_rfl
 have q:atI xs ((k.toNat:Nat):Int)=some xs[k.toNat]:=zay (yaa hk)
 rw[show ((k.toNat:Nat):Int)=k by ac_rfl] at q
 exact ⟨_,q,ych hk⟩
theorem zQ {v:V} {xs:List V} {p:V->Prop} (h:p v) (t:∀ x∈xs,p x):∀ x∈v::xs,p x:=fun x hx=>by
 rcases yaj.mp hx with rfl | hx
 ·exact h
 ·exact t x hx
theorem zen {p:V->Prop}:∀ x∈([]:List V),p x:=fun x hx=>by cases hx
theorem zy {H H':Hp} {a:Addr} (s:Same H H') (h:H' a=none):H a=none:=by
 cases q:H a with
 | none=>rfl
 | some o=>rw[s a o q] at h;cases h
theorem zM {H H':Hp} {l:Addr} {o:HO} (s:Same H H') (h:H l=none):Same H (upd H' l o):=fun b u q=>by
 rw[zt (zai q h)];exact s b u q
theorem ziZ:∀ ns:List Int,PyData.canLayAll0 (ns.map PyData.int)=true
 | []=>by simp[PyData.canLayAll0]
 | n::ns=>by simp[PyData.canLayAll0,PyData.canLay0,ziZ ns]
theorem zjQ:∀ ns:List Int,PyData.depthAll (ns.map PyData.int)=0
 | []=>by simp[PyData.depthAll]
 | n::ns=>by simp[PyData.depthAll,PyData.depth,zjQ ns]
theorem shaped_ints (ns:List Int):SeqAt.shaped (.list (ns.map PyData.int))=true:=by
 simp[SeqAt.shaped,PyData.canLay0,PyData.depth,ziZ,zjQ]
end L2
namespace L2
open PySem PySem.W PyProof.Rows
def zI (t u:TS):TS:=zU t u
theorem ze {X:Cx} {st:Stmt} {rest:List Stmt} {t u:TS} (h1:PS X st t) (h2:PSs X rest u):PSs X (st::rest) (zI t u):=zqK h1 h2
def Mkd (p:Prop):Prop:=p
variable {t1 t2 t3 t4 t5 t6 t7 t8 t9 t10:TS} {D:Ends} {σ:St} {H:Hp}
theorem sqG (h:Mkd (zI t1 t2 D σ H)):zI t1 t2 D σ H:=h
theorem ztt (h:let v1:=t2;zU t1 v1 D σ H):Mkd ((zI t1 t2) D σ H):=h
theorem ztI (h:let v2:=t3;let v1:=zU t2 v2;zU t1 v1 D σ H):Mkd ((zI t1 (zI t2 t3)) D σ H):=h
theorem ztq (h:let v3:=t4;let v2:=zU t3 v3;let v1:=zU t2 v2;zU t1 v1 D σ H):Mkd ((zI t1 (zI t2 (zI t3 t4))) D σ H):=h
theorem ztz (h:let v4:=t5;let v3:=zU t4 v4;let v2:=zU t3 v3;let v1:=zU t2 v2;zU t1 v1 D σ H):Mkd ((zI t1 (zI t2 (zI t3 (zI t4 t5)))) D σ H):=h
theorem ztN (h:let v5:=t6;let v4:=zU t5 v5;let v3:=zU t4 v4;let v2:=zU t3 v3;let v1:=zU t2 v2;zU t1 v1 D σ H):Mkd ((zI t1 (zI t2 (zI t3 (zI t4 (zI t5 t6))))) D σ H):=h
theorem ztU (h:let v6:=t7;let v5:=zU t6 v6;let v4:=zU t5 v5;let v3:=zU t4 v4;let v2:=zU t3 v3;let v1:=zU t2 v2;zU t1 v1 D σ H):Mkd ((zI t1 (zI t2 (zI t3 (zI t4 (zI t5 (zI t6 t7)))))) D σ H):=h
theorem ztE (h:let v7:=t8;let v6:=zU t7 v7;let v5:=zU t6 v6;let v4:=zU t5 v5;let v3:=zU t4 v4;let v2:=zU t3 v3;let v1:=zU t2 v2;zU t1 v1 D σ H):Mkd ((zI t1 (zI t2 (zI t3 (zI t4 (zI t5 (zI t6 (zI t7 t8))))))) D σ H):=h
theorem ztm (h:let v8:=t9;let v7:=zU t8 v8;let v6:=zU t7 v7;let v5:=zU t6 v6;let v4:=zU t5 v5;let v3:=zU t4 v4;let v2:=zU t3 v3;let v1:=zU t2 v2;zU t1 v1 D σ H):Mkd ((zI t1 (zI t2 (zI t3 (zI t4 (zI t5 (zI t6 (zI t7 (zI t8 t9)))))))) D σ H):=h
theorem zs9 (h:let v9:=t10;let v8:=zU t9 v9;let v7:=zU t8 v8;let v6:=zU t7 v7;let v5:=zU t6 v6;let v4:=zU t5 v5;let v3:=zU t4 v4;let v2:=zU t3 v3;let v1:=zU t2 v2;zU t1 v1 D σ H):Mkd ((zI t1 (zI t2 (zI t3 (zI t4 (zI t5 (zI t6 (zI t7 (zI t8 (zI t9 t10))))))))) D σ H):=h
inductive Ee4 {α0 α1 α2 α3:Type} (p:α0->α1->α2->α3->Prop):Prop | mk (x0:α0) (x1:α1) (x2:α2) (x3:α3) (h:p x0 x1 x2 x3):Ee4 p
inductive Ee5 {α0 α1 α2 α3 α4:Type} (p:α0->α1->α2->α3->α4->Prop):Prop | mk (x0:α0) (x1:α1) (x2:α2) (x3:α3) (x4:α4) (h:p x0 x1 x2 x3 x4):Ee5 p
inductive Ee6 {α0 α1 α2 α3 α4 α5:Type} (p:α0->α1->α2->α3->α4->α5->Prop):Prop | mk (x0:α0) (x1:α1) (x2:α2) (x3:α3) (x4:α4) (x5:α5) (h:p x0 x1 x2 x3 x4 x5):Ee6 p
inductive Ee7 {α0 α1 α2 α3 α4 α5 α6:Type} (p:α0->α1->α2->α3->α4->α5->α6->Prop):Prop | mk (x0:α0) (x1:α1) (x2:α2) (x3:α3) (x4:α4) (x5:α5) (x6:α6) (h:p x0 x1 x2 x3 x4 x5 x6):Ee7 p
inductive Ee8 {α0 α1 α2 α3 α4 α5 α6 α7:Type} (p:α0->α1->α2->α3->α4->α5->α6->α7->Prop):Prop | mk (x0:α0) (x1:α1) (x2:α2) (x3:α3) (x4:α4) (x5:α5) (x6:α6) (x7:α7) (h:p x0 x1 x2 x3 x4 x5 x6 x7):Ee8 p
inductive Ee9 {α0 α1 α2 α3 α4 α5 α6 α7 α8:Type} (p:α0->α1->α2->α3->α4->α5->α6->α7->α8->Prop):Prop | mk (x0:α0) (x1:α1) (x2:α2) (x3:α3) (x4:α4) (x5:α5) (x6:α6) (x7:α7) (x8:α8) (h:p x0 x1 x2 x3 x4 x5 x6 x7 x8):Ee9 p
inductive Aa3 (a0 a1 a2:Prop):Prop | mk (h0:a0) (h1:a1) (h2:a2):Aa3 a0 a1 a2
inductive Aa4 (a0 a1 a2 a3:Prop):Prop | mk (h0:a0) (h1:a1) (h2:a2) (h3:a3):Aa4 a0 a1 a2 a3
inductive Aa5 (a0 a1 a2 a3 a4:Prop):Prop | mk (h0:a0) (h1:a1) (h2:a2) (h3:a3) (h4:a4):Aa5 a0 a1 a2 a3 a4
inductive Aa6 (a0 a1 a2 a3 a4 a5:Prop):Prop | mk (h0:a0) (h1:a1) (h2:a2) (h3:a3) (h4:a4) (h5:a5):Aa6 a0 a1 a2 a3 a4 a5
inductive Aa7 (a0 a1 a2 a3 a4 a5 a6:Prop):Prop | mk (h0:a0) (h1:a1) (h2:a2) (h3:a3) (h4:a4) (h5:a5) (h6:a6):Aa7 a0 a1 a2 a3 a4 a5 a6
inductive Aa8 (a0 a1 a2 a3 a4 a5 a6 a7:Prop):Prop | mk (h0:a0) (h1:a1) (h2:a2) (h3:a3) (h4:a4) (h5:a5) (h6:a6) (h7:a7):Aa8 a0 a1 a2 a3 a4 a5 a6 a7
inductive zsq (a0 a1 a2 a3 a4 a5 a6 a7 a8 a9:Prop):Prop | mk (h0:a0) (h1:a1) (h2:a2) (h3:a3) (h4:a4) (h5:a5) (h6:a6) (h7:a7) (h8:a8) (h9:a9):zsq a0 a1 a2 a3 a4 a5 a6 a7 a8 a9
end L2
namespace L2
open PySem PySem.Spec PyProof.Rows
section
variable {X:Cx}
end
section
variable {X:Cx}
theorem zp6 (hc:X.calm=true):zaN X (.builtin "min") (fun xs H Q=>∃ i j k,xs=[.int i,.int j,.int k]/\∀ m,m<=i->m<=j->m<=k->(m=i\/m=j\/m=k)->Q (.int m) H):=by
 intro pins s σ H xs us Q I r h
 obtain ⟨i,j,k,rfl,q⟩:=h
 cases r with
 | cons r1 r =>
  cases r with
  | cons r2 r =>
   cases r with
   | cons r3 r =>
    cases r
    obtain ⟨t1,rfl⟩:=r1
    obtain ⟨t2,rfl⟩:=r2
    obtain ⟨t3,rfl⟩:=r3
    refine min_three_ints (I.ok.hd hc) fun h' tk kp=>?_
    by_cases a1:j<i
    ·rw[if_pos a1]
     by_cases a2:k<j
     ·rw[if_pos a2]
      exact ⟨.int k,H,I.kept kp,⟨_,rfl⟩,q k (by ac_rfl) (by ac_rfl) (by ac_rfl) (by ac_rfl)⟩
     ·rw[if_neg a2]
      exact ⟨.int j,H,I.kept kp,⟨_,rfl⟩,q j (by ac_rfl) (by ac_rfl) (by ac_rfl) (by ac_rfl)⟩
    ·rw[if_neg a1]
     by_cases a2:k<i
     ·rw[if_pos a2]
      exact ⟨.int k,H,I.kept kp,⟨_,rfl⟩,q k (by ac_rfl) (by ac_rfl) (by ac_rfl) (by ac_rfl)⟩
     ·rw[if_neg a2]
      exact ⟨.int i,H,I.kept kp,⟨_,rfl⟩,q i (by ac_rfl) (by ac_rfl) (by ac_rfl) (by ac_rfl)⟩
end
section
variable {prog:Program} {w:World} {A:Around} {E:Value->Shared->Prop} {s:Shared} {K:W.Frag} {e C f:Addr} {oe:Obj}
end
section
open PySem.Builtin PySem.Builtin.ObjectAttr
variable {prog:Program} {w:World} {A:Around} {E:Value->Shared->Prop} {s:Shared} {K:W.Frag} {e C f dx:Addr} {oe:Obj} {vs:Array Value} {mA:Str->Option Value} {name:Str} {v:Value}
end
section
open PySem.Builtin PySem.Builtin.ObjectAttr
variable {prog:Program} {w:World} {A:Around} {E:Value->Shared->Prop} {s:Shared} {K:W.Frag} {x C f dx:Addr} {o:Obj} {vs:Array Value} {mA:Str->Option Value} {name:Str} {v:Value}
set_option maxHeartbeats 2000000 in
end
section
variable {X:Cx} {pins:List (Addr × Obj)} {σ:St} {H:Hp} {s:Shared} {e:Addr}
theorem Inv.zlL (I:Inv X pins σ H s) (hn:s.heap.get? e=none) (hex:X.ex=[]):X.s₀.heap.get? e=none/\e≠X.env.locals/\(∀ x c,X.env.cells.lookup x=some c->c≠e)/\∀ p∈X.pn++pins,p.1≠e:=by
 refine ⟨?_,fun z=>?_,fun x c q z=>?_,fun p hp z=>?_⟩
 ·cases q:X.s₀.heap.get? e with
  | none=>rfl
  | some o =>
   obtain ⟨o',e1⟩:=I.base.there e o q (by rw[hex];simp)
   rw[hn] at e1;cases e1
 ·obtain ⟨m,⟨o,es,ep,ho,_⟩,_⟩:=I.loc
  rw[<-z,hn] at ho;cases ho
 ·obtain ⟨v,o,ho,hd⟩:=I.cell x c q
  rw[z,hn] at ho;cases ho
 ·have:=(I.pin p hp).1
  rw[z,hn] at this;cases this
theorem Inv.zma {o:HO} {h':Heap} {t':Nat} (I:Inv X pins σ H s) (k:∀ b u,s.heap.get? b=some u->h'.get? b=some u) (hn:s.heap.get? e=none) (hex:X.ex=[]) (new:zaf X.prog X.w (upd H e o) h' e o) :
  Inv X pins σ (upd H e o) { s with heap:=h',toks:=t' } :=
 let ⟨a,b,c,d⟩:=I.zlL hn hex
 (I.kept (t':=t') k).track (I.hok.gone hn) a b c d new
end
section
variable {X:Cx} {x:Str} {np pos:Pos} {e0:Expr} {rest:List Expr} {t:TA}
end
section
variable {X:Cx} {o value:Expr} {name:Str} {pos pos':Pos} {ta tv:TE} {C f:Addr}
end
section
variable {X:Cx} {x:Str} {np pos:Pos} {e0:Expr} {t:TA} {C f:Addr} {fd:FuncData} {ps:List Str} {name:Str} {j k:Nat}
end
section
variable {X:Cx} {o:Expr} {name:Str} {pos:Pos} {ta:TE} {C:Addr}
end
section
variable {K:W.Frag} {h:Heap} {mg:Str->Option Value} {x:Str} {C f D:Addr}
theorem zJ {name:Str} (a:PySem.W.nsIn K mainGlobals x=some (some (.ref C))) (q:PySem.W.findIn K (.ref C) name=some none):PySem.W.findIn K (.ref (cA K x)) name=some none:=by rw[zdb a];exact q
end
namespace zac
def Up (xs:Array Nat):Prop:=xs.toList.Pairwise (·<·)
theorem zlI {xs:Array Nat} (h:Up xs) {i j:Nat} (hi:i<j) (hj:j<xs.size) (d e:Nat):xs.getD i d<xs.getD j e:=by
 have hi':i<xs.size:=by ac_rfl
 have q:=ybd.mp h i j (by simpa using hi') (by simpa using hj) hi
 simpa [yei,hi',hj] using q
theorem zkw {xs:Array Nat} {j:Nat} (h:Up xs):∀ (fuel lo hi:Nat),lo<=hi->hi<=xs.size->hi-lo<=fuel->(∀ i,i<lo->xs.getD i j<j)->(∀ i,hi<=i->i<xs.size->j<=xs.getD i j) ->
  SetTable.below.go xs j fuel lo hi<=xs.size/\(∀ i,i<SetTable.below.go xs j fuel lo hi->xs.getD i j<j)/\∀ i,SetTable.below.go xs j fuel lo hi<=i->i<xs.size->j<=xs.getD i j
 | 0,lo,hi,h1,h2,h3,a,b=>by
  unfold SetTable.below.go
  exact ⟨by ac_rfl,a,fun i p q=>b i (by ac_rfl) q⟩
 | fuel+1,lo,hi,h1,h2,h3,a,b=>by
  unfold SetTable.below.go
  by_cases hl:lo<hi
  ·rw[if_pos hl]
   dsimp only
   by_cases hm:xs.getD ((lo+hi) / 2) j<j
   ·rw[if_pos hm]
    refine zkw h fuel _ hi (by ac_rfl) h2 (by ac_rfl) (fun i q=>?_) b
    by_cases e:i=(lo+hi) / 2
    ·rw[e];exact hm
    ·exact ydn (zlI h (by ac_rfl) (by ac_rfl) j j) hm
   ·rw[if_neg hm]
    refine zkw h fuel lo _ (by ac_rfl) (by ac_rfl) (by ac_rfl) a (fun i q r=>?_)
    by_cases e:i=(lo+hi) / 2
    ·rw[e];ac_rfl
    ·have:=zlI h (i:=(lo+hi) / 2) (j:=i) (by ac_rfl) r j j
     ac_rfl
  ·rw[if_neg hl]
   exact ⟨by ac_rfl,a,fun i p q=>b i (by ac_rfl) q⟩
theorem zjv {xs:Array Nat} (h:Up xs) (j:Nat):SetTable.below xs j<=xs.size/\(∀ i,i<SetTable.below xs j->xs.getD i j<j)/\∀ i,SetTable.below xs j<=i->i<xs.size->j<=xs.getD i j:=by
 unfold SetTable.below
 exact zkw h _ _ _ (ydc _) (ycz _) (by ac_rfl) (fun i q=>by ac_rfl) fun i p q=>by ac_rfl
theorem zpO {xs:Array Nat} {j:Nat} (h:Up xs) (hj:xs[SetTable.below xs j]?≠some j):Up (SetTable.insertAt xs (SetTable.below xs j) j):=by
 obtain ⟨h0,h1,h2⟩:=zjv h j
 generalize SetTable.below xs j=p at *
 unfold Up
 rw[SetTable.toList_insertAt]
 have e:xs.toList=xs.toList.take p++xs.toList.drop p:=(List.take_append_drop p _).symm
 have hp:(xs.toList.take p++xs.toList.drop p).Pairwise (·<·):=by rw[<-e];exact h
 obtain ⟨a,b,c⟩:=ybx.mp hp
 have lo:∀ x∈xs.toList.take p,x<j:=fun x hx=>by
  obtain ⟨i,hi,rfl⟩:=yaw.mp hx
  rw[yao,yed] at hi
  have:=h1 i (by ac_rfl)
  rw[List.getElem_take]
  simpa [yei,show i<xs.size by ac_rfl] using this
 have hi:∀ x∈xs.toList.drop p,j<x:=fun x hx=>by
  obtain ⟨i,hi,rfl⟩:=yaw.mp hx
  rw[yay,yed] at hi
  have q:=h2 (p+i) (by ac_rfl) (by ac_rfl)
  rw[List.getElem_drop]
  have g:xs.getD (p+i) j=xs.toList[p+i]'(by rw[yed];ac_rfl):=by simp[yei,show p+i<xs.size by ac_rfl]
  rw[g] at q
  refine Nat.lt_of_le_of_ne q fun z=>?_
  by_cases i0:i=0
  ·subst i0
   apply hj
   rw[yee (by ac_rfl:p<xs.size),z]
   simp
  ·have q0:=h2 p (ycz _) (by ac_rfl)
   have lt:=zlI h (i:=p) (j:=p+i) (by ac_rfl) (by ac_rfl) j j
   rw[g,<-z] at lt
   ac_rfl
 exact ybx.mpr ⟨a,ybp.mpr ⟨hi,b⟩,fun x hx y hy=>by
  rcases yaj.mp hy with rfl | hy
  ·exact lo x hx
  ·exact c x hx y hy⟩
structure Tab (bt:Bool) (t:SetTable):Prop where
 led:t.led=!bt
 dum:t.dummies=#[]
 up:t.plain=true->Up t.place
theorem has_none (j:Nat):SetTable.has #[] j=false:=by simp[SetTable.has]
theorem zoU {t:SetTable} (hd:t.dummies=#[]) (j:Nat):t.slot j≠.dummy:=by
 unfold SetTable.slot
 dsimp only
 split
 ·intro z;cases z
 ·rw[hd,has_none];intro z;simp at z
theorem ziU {t:SetTable} (hd:t.dummies=#[]) {f:Nat->Int} {h:Int}:∀ (fuel:Nat) (p:SetTable.Probe) {j:Nat} {d:Option Nat},p.dummy=none->SetTable.probe.go t f h fuel p=some (.empty j d)->d=none/\t.slot j=.empty
 | 0,p,j,d,hp,e=>by simp[SetTable.probe.go] at e
 | fuel+1,p,j,d,hp,e=>by
  have adv:∀ q:SetTable.Probe,q.dummy=none->(t.advance q).dummy=none:=fun q hq=>by
   unfold SetTable.advance
   split
   ·exact hq
   ·exact hq
  unfold SetTable.probe.go at e
  cases hs:t.slot p.j with
  | empty =>
   rw[hs] at e
   cases e
   exact ⟨hp,hs⟩
  | dummy=>exact absurd hs (zoU hd _)
  | live i =>
   rw[hs] at e
   dsimp only at e
   split at e
   ·cases e
   ·exact ziU hd fuel _ (adv p hp) e
theorem zk5 {t:SetTable} (hd:t.dummies=#[]) {h:Int} {j:Nat} {b:Bool} (e:t.freeSlot h=some (j,b)):t.place[SetTable.below t.place j]?≠some j:=by
 unfold SetTable.freeSlot at e
 split at e
 ·rename_i j' d' q
  obtain ⟨rfl,hs⟩:=ziU hd _ _ rfl (show SetTable.probe.go t _ h _ _=_ from q)
  cases e
  intro z
  have z':t.place[SetTable.below t.place j']?=some j':=z
  unfold SetTable.slot at hs
  dsimp only at hs
  rw[if_pos (by rw[z'];simp)] at hs
  cases hs
 ·cases e
theorem zfI {bt:Bool} {t:SetTable} (T:Tab bt t) (n:Nat):Tab bt (t.standIn n):=⟨T.led,rfl,fun z=>by cases z⟩
theorem zod {bt:Bool} {t:SetTable} (T:Tab bt t) {j:Nat} (hj:t.place[SetTable.below t.place j]?≠some j):Tab bt (t.put j).1 :=
 ⟨T.led,by show (if SetTable.has t.dummies j then _ else t.dummies)=#[];rw[T.dum,has_none];rfl,fun z=>zpO (T.up z) hj⟩
theorem zrY {bt:Bool} {t:SetTable} (T:Tab bt t) (es:Array (Int × Value)) (h:Int) (x:Value):Tab bt (layNew t es h x).2.1:=by
 unfold layNew
 split
 ·rename_i j b e
  dsimp only
  unfold SetTable.orStandIn
  split
  ·exact zod T (zk5 T.dum e)
  ·exact zfI (zod T (zk5 T.dum e)) _
 ·exact zfI T _
theorem zoc (owner:Array (Option Nat)) (m:Nat):(((yar m).filterMap fun j=>(owner.getD j none).map (fun k=>(j,k))).map (·.1)).Pairwise (·<·):=by
 have e:(((yar m).filterMap fun j=>(owner.getD j none).map (fun k=>(j,k))).map (·.1))=(yar m).filter fun j=>(owner.getD j none).isSome:=by
  generalize yar m=l
  induction l with
  | nil=>rfl
  | cons a l ih =>
   cases q:owner.getD a none with
   | none=>rw[ybe,q,yct,q];simpa using ih
   | some k=>rw[ybe,q,yct,q];simpa using ih
 rw[e]
 exact List.Pairwise.filter _ (List.pairwise_lt_range)
theorem zsg {bt:Bool} {t:SetTable} (T:Tab bt t) (es:Array (Int × Value)) (n:Nat):Tab bt (relayAll t es n).2.1:=by
 unfold relayAll
 split
 ·rename_i t' order e
  dsimp only
  split
  ·unfold SetTable.relaid SetTable.laid at e
   simp only[Option.bind_eq_bind,Option.bind_eq_some_iff] at e
   obtain ⟨owner,_,e⟩:=e
   cases e
   refine ⟨T.led,rfl,fun _=>?_⟩
   unfold Up
   simpa using zoc owner _
  ·exact zfI T _
 ·exact zfI T _
theorem zkE (bt:Bool):Tab bt (.fresh 0 0 (!bt)):=⟨rfl,rfl,fun _=>List.Pairwise.nil⟩
end zac
namespace zac
noncomputable def intOf:Value->Int
 | .int i _=>i
 | _=>0
theorem zjd {k:Int} {v:Value} (h:Value.isInt k v=true):intOf v=k:=by
 obtain ⟨t,rfl⟩:=Value.isInt_shape h
 rfl
structure zan (prog:Program) (w:World) (h:Heap) (a:Addr) (ms:List Int):Prop where
 ex:∃ o es ep t,(h.get? a=some o/\o.ExactSet/\o.data=.set es ep t)/\(ElemsOf (intKind prog w) es.toList/\es.size<scanBound/\t.fits es.size=true)/\Tab (w.params.followText "set-order") t /\
  es.toList.map (fun e=>intOf e.2)=ms
 nd:ms.Nodup
theorem zgY {prog:Program} {w:World} {l:List (Int × Value)} (hl:ElemsOf (intKind prog w) l) (k:Int):(∃ e∈l,Value.isInt k e.2=true)↔k∈l.map fun e=>intOf e.2:=by
 constructor
 ·rintro ⟨e,he,q⟩
  exact yae.mpr ⟨e,he,zjd q⟩
 ·intro q
  obtain ⟨e,he,rfl⟩:=yae.mp q
  obtain ⟨⟨k',hk,_⟩,_⟩:=hl e he
  refine ⟨e,he,?_⟩
  rw[zjd hk];exact hk
section
variable {prog:Program} {w:World} {A:Around} {E:Value->Shared->Prop} {s:Shared} {a:Addr} {ms:List Int} {k:Int} {tk:Tok}
theorem xadd {Q:Bool->Shared->Prop} (S:zan prog w s.heap a ms) (room:ms.length+1<scanBound)
  (hQ:∀ b h' ms',Heap.SameBut a s.heap h'->zan prog w h' a ms'->(∀ m,m∈ms'↔m∈ms\/m=k)->ms'.length<=ms.length+1->Q b { s with heap:=h' }) :
  wpAny (model prog w) A (setAddHashed a (.int k tk) (hashInt k)) Q E s:=by
 obtain ⟨⟨o,es,ep,t,⟨ho,hex,hd⟩,⟨hel,hb,hf⟩,T,rfl⟩,nd⟩:=S
 have hlen:(es.toList.map fun e=>intOf e.2).length=es.size:=by simp
 have hkey:(intKind prog w).is k (.int k tk)=true:=intKind_is prog w k tk
 unfold setAddHashed setAddHashedIn
 refine wpAny_holding (wpAny_bind (wpAny_setState_of ho hd hf ?_))
 dsimp only
 rw[byScan_of (knd:=intKind prog w) rfl hb hel]
 simp only[↓reduceIte]
 unfold setAddByScan
 refine wpAny_bind (wpAny_bind (wpAny_rule (wpAny_bind (wpAny_setScan_of (knd:=intKind prog w) hkey ho hd hf hel ?_))))
 cases hr:List.findIdx? (fun e=>(intKind prog w).is k e.2) es.toList with
 | some j =>
  obtain ⟨hj,hpj,_⟩:=ybz.mp hr
  have hm:k∈es.toList.map fun e=>intOf e.2:=(zgY hel k).mp ⟨es.toList[j],ych hj,hpj⟩
  refine wpAny_pure (wpAny_pure ?_)
  have z:=hQ false s.heap _ (Heap.SameBut.refl a s.heap) ⟨⟨o,es,ep,t,⟨ho,hex,hd⟩,⟨hel,hb,hf⟩,T,rfl⟩,nd⟩ (fun m=>⟨.inl,fun q=>q.elim id fun e=>e ▸ hm⟩) (by ac_rfl)
  exact z
 | none =>
  have hm:k ∉ es.toList.map fun e=>intOf e.2:=fun q=>by
   obtain ⟨e,he,hp⟩:=(zgY hel k).mpr q
   have:=ycm.mp hr e he
   rw[show (intKind prog w).is k e.2=true from hp] at this
   cases this
  dsimp only
  have hperm:=layNew_perm t es (hashInt k) (.int k tk)
  have hfits:=layNew_fits t es (hashInt k) (.int k tk)
  have T1:=zrY T es (hashInt k) (.int k tk)
  generalize layNew t es (hashInt k) (.int k tk)=L at hperm hfits T1 ⊢
  obtain ⟨es1,t1,dm,gave⟩:=L
  dsimp only at hperm hfits T1 ⊢
  rw[Array.toList_push] at hperm
  have el1:ElemsOf (intKind prog w) es1.toList:=(hel.push (k:=k) hkey rfl).perm hperm
  have sz1:es1.size=es.size+1:=by rw[<-yed,hperm.length_eq,yac,yed];rfl
  have hb1:es1.size<scanBound:=by ac_rfl
  have pm:(es1.toList.map fun e=>intOf e.2).Perm ((es.toList.map fun e=>intOf e.2)++[k]):=by
   have:=hperm.map fun e=>intOf e.2
   rw[yat] at this
   exact this
  have nd1:(es1.toList.map fun e=>intOf e.2).Nodup:=pm.nodup_iff.mpr (List.nodup_append.mpr ⟨nd,(yby _ _),fun x hx y hy z=>hm (by rw[ybc] at hy;rw[<-hy,<-z];exact hx)⟩)
  have mm:∀ m,m∈(es1.toList.map fun e=>intOf e.2)↔m∈(es.toList.map fun e=>intOf e.2)\/m=k:=fun m=>by rw[pm.mem_iff,yam,ybc]
  have len1:(es1.toList.map fun e=>intOf e.2).length<=(es.toList.map fun e=>intOf e.2).length+1:=by rw[pm.length_eq,yac];exact ycz _
  have fin:∀ h' es2 t2 ep2 o2,(h'.get? a=some o2/\o2.ExactSet/\o2.data=.set es2 ep2 t2)->es2.toList.Perm es1.toList->t2.fits es2.size=true->Tab (w.params.followText "set-order") t2->Heap.SameBut a s.heap h'->Q true { s with heap:=h' } :=
   fun h' es2 t2 ep2 o2 hg p2 f2 T2 sb=>by
    have q2:=p2.map fun e=>intOf e.2
    have z2:es2.size=es1.size:=by rw[<-yed,p2.length_eq,yed]
    refine hQ true h' _ sb ⟨⟨o2,es2,ep2,t2,hg,⟨el1.perm p2,by ac_rfl,f2⟩,T2,rfl⟩,q2.nodup_iff.mpr nd1⟩ (fun m=>(q2.mem_iff).trans (mm m)) ?_
    rw[q2.length_eq];exact len1
  have put:∀ {h:Heap} {o1:Obj} {e1:Array (Int × Value)} {p1:Nat} {u1:SetTable},h.get? a=some o1->o1.ExactSet->o1.data=.set e1 p1 u1->∀ (e2:Array (Int × Value)) (u2:SetTable),
    (h.update a (Obj.putSet e2 u2)).get? a=some { o1 with data:=.set e2 (p1+1) u2 }:=fun {h o1 e1 p1 u1} q1 _ q3 e2 u2=>by
   have z:=ydv (Obj.putSet e2 u2) q1 (by rw[putSet_of e2 u2 q3];rfl)
   rw[putSet_of e2 u2 q3] at z
   exact z
  have tl:∀ (Q':Option Bool->Shared->Prop),(∀ h',Q true { s with heap:=h' }->Q' (some true) { s with heap:=h' })->wpAny (model prog w) A (storeSet a es1 t1) (fun _ s1=>(dm=false/\t1.tooFull=true->∀ g:Sem Unit,(∀ Q₀:Unit->Shared->Prop,Q₀ () s1->wpAny (model prog w) A g Q₀ E s1) ->
    wpAny (model prog w) A (g >>= fun _=>storeSet a (relayAll t1 es1 (SetTable.grown es1.size)).1 (relayAll t1 es1 (SetTable.grown es1.size)).2.1 >>= fun _=>pure (some true)) Q' E s1)/\Q' (some true) s1) E s:=fun Q' hq=>by
   refine wpAny_storeSet_of ho hd ?_ (fits_of_scanBound hb1)
   have g1:=put ho hex hd es1 t1
   have sb1:=Heap.SameBut.update s.heap a (Obj.putSet es1 t1)
   refine ⟨fun _ g hg=>wpAny_bind (hg _ ?_),hq _ (fin _ es1 t1 _ _ ⟨g1,hex,rfl⟩ .rfl hfits T1 sb1)⟩
   have p2:=relayAll_perm t1 es1 (SetTable.grown es1.size)
   have f2:=relayAll_fits t1 es1 (SetTable.grown es1.size)
   have T2:=zsg T1 es1 (SetTable.grown es1.size)
   generalize relayAll t1 es1 (SetTable.grown es1.size)=L2 at p2 f2 T2 ⊢
   obtain ⟨es2,t2,gv2⟩:=L2
   dsimp only at p2 f2 T2 ⊢
   have z2:es2.size=es1.size:=by rw[<-yed,p2.length_eq,yed]
   refine wpAny_bind (wpAny_storeSet_of g1 rfl (wpAny_pure (hq _ ?_)) (fits_of_scanBound (by ac_rfl)))
   exact fin _ es2 t2 _ _ ⟨put g1 hex rfl es2 t2,hex,rfl⟩ p2 f2 T2 (sb1.trans (Heap.SameBut.update _ a _))
  refine wpAny_bind ?_
  cases gave
  all_goals
   first | refine wpAny_pure ?_ | refine wpAny_rule ?_
   split
   all_goals
    refine wpAny_bind ?_
    try rw[hashByValue_scannable 8 (show (Value.int k tk).scannable=true from rfl)]
    refine wpAny_pure ?_
    simp only[plainKind,↓reduceIte]
    refine wpAny_bind (wpAny_mono (tl (fun r s'=>wpAny (model prog w) A (match r with | some added=>pure added | none=>setAddHashedIn a (Value.int k tk) (hashInt k) 99999) Q E s') fun h' z=>wpAny_pure z) (fun _ s1 hz=>?_) fun _ _ z=>z)
    obtain ⟨hz1,hz2⟩:=hz
    split
    ·rename_i hc
     simp only[Bool.and_eq_true,Bool.not_eq_true'] at hc
     refine hz1 hc _ fun Q₀ q₀=>?_
     generalize (relayAll t1 es1 (SetTable.grown es1.size)).2.2=gb
     cases gb
     ·exact wpAny_pure q₀
     ·exact wpAny_rule q₀
    ·exact wpAny_pure hz2
end
end zac
namespace zac
theorem zan.keep {prog:Program} {w:World} {h h':Heap} {a:Addr} {ms:List Int} (S:zan prog w h a ms) (k:∀ o,h.get? a=some o->h'.get? a=some o):zan prog w h' a ms:=by
 obtain ⟨⟨o,es,ep,t,⟨ho,r⟩,r2⟩,nd⟩:=S
 exact ⟨⟨o,es,ep,t,⟨k o ho,r⟩,r2⟩,nd⟩
section
variable {prog:Program} {w:World} {A:Around} {R:Result->Shared->Prop} {I a:Addr} {fp wr:List Addr} {G:Array GenState->Array GenState->Prop} {n:Nat} {P:Nat->Value->Prop} {St:Nat->Shared->Prop} {val:Nat->Int}
theorem xloop (W:WalksS prog w A.in1 I fp wr G n P St) (ha:a ∉ fp) (hval:∀ i v,P i v->∃ t,v=.int (val i) t) (hb:n+1<scanBound):∀ (k i:Nat) (s:Shared) (ms:List Int),n-i=k->i<=n->St i s->zan prog w s.heap a ms ->
   (∀ m,m∈ms↔m∈(yar i).map val)->ms.length<=i ->
   (∀ s' ms',Moved (a::wr) G s s'->zan prog w s'.heap a ms'->(∀ m,m∈ms'↔m∈(yar n).map val)->ms'.length<=n->R (.ok (.ret .none)) s') ->
   codeAny (model prog w) A (.builtin "set.update.loop" ⟨[.ref a,.ref I],[]⟩) R s:=by
 have aw:a ∉ wr:=fun z=>ha (W.sub _ z)
 have sub:∀ b∈wr,b∈a::wr:=fun b z=>yak _ z
 intro k
 induction k with
 | zero =>
  intro i s ms hk hi st S mm hl hR
  obtain rfl:i=n:=by ac_rfl
  refine codeAny_builtin PyProof.Rows.F.entry_set_update_loop ?_
  rw[Around.under_plainId PyProof.Rows.F.plain_set_update_loop _]
  show wpAny _ A.in1 (pyNext (.ref I) >>= _) _ _ s
  refine wpAny_bind (W.done s _ _ st fun s' mv=>wpAny_pure (hR s' ms (mv.mono sub) (S.keep fun o e=>mv.heap a o aw e) mm hl))
 | succ k ih =>
  intro i s ms hk hi st S mm hl hR
  have lt:i<n:=by ac_rfl
  refine codeAny_builtin PyProof.Rows.F.entry_set_update_loop ?_
  rw[Around.under_plainId PyProof.Rows.F.plain_set_update_loop _]
  show wpAny _ A.in1 (pyNext (.ref I) >>= _) _ _ s
  refine wpAny_bind (W.item i s _ _ lt st fun v s' hP st' mv=>?_)
  obtain ⟨t,rfl⟩:=hval i v hP
  have S':=S.keep (h':=s'.heap) fun o e=>mv.heap a o aw e
  show wpAny _ A.in1 (holding [Value.int (val i) t] (setAdd a (.int (val i) t)) >>= _) _ _ s'
  refine wpAny_bind (wpAny_holding ?_)
  unfold setAdd
  refine wpAny_holding (wpAny_bind ((intKind prog w).pyHash (k:=val i) (intKind_is _ _ _ _) ?_))
  refine xadd (s:={ s' with toks:=s'.toks+1 }) (ms:=ms) S' (by ac_rfl) fun b h' ms' sb S2 mm2 l2=>?_
  refine wpAny_pure ⟨plainId_quiet PyProof.Rows.F.plain_set_update_loop _,ih (i+1) _ ms' (by ac_rfl) lt (W.frame _ s' _ _ st' (ydk _) fun b hb o e=>?_) S2 (fun m=>?_) (by ac_rfl) fun s2 ms2 mv2=>hR s2 ms2 ?_⟩
  ·rw[sb.2 b (fun z:b=a=>ha (by rw[<-z];exact hb))];exact e
  ·rw[mm2,mm,ycq,yat,yam]
   simp
  ·refine Moved.trans W.gtrans ((mv.mono sub).then_heap (ydk _) fun b o hb e=>?_) mv2
   rw[sb.2 b (fun z:b=a=>hb (by rw[z];exact yal))];exact e
end
section
variable {prog:Program} {w:World} {A:Around} {E:Value->Shared->Prop} {s:Shared}
noncomputable abbrev empty (w:World):Obj:={ cls:=.type "set", dict:=none,data:=.set #[] 0 (.fresh 0 0 (!w.params.followText "set-order")) }
theorem ztK (v:Value) {R:Result->Shared->Prop} (h:R (.ok (.ret (.ref s.heap.objs.size))) { s with heap:=s.heap.push (empty w) }) :
  codeAny (model prog w) A (.call (.builtin "set.__new__") ⟨[.type "set", v],[]⟩) R s:=by
 refine codeAny_of_tree ?_
 show wpAny _ A.in1 (checkBuiltinCall "set.__new__" ⟨[.type "set", v],[]⟩ >>= fun _=>again (.builtin "set.__new__" ⟨[.type "set", v],[]⟩)) _ _ s
 refine wpAny_bind (wpAny_of_eq (PySem.F.newCall_set_1 v) (wpAny_pure ⟨plainId_quiet PySem.F.plain_set_new _,codeAny_builtin PySem.F.entry_set_new ?_⟩))
 rw[Around.under_plainId PySem.F.plain_set_new _]
 unfold Builtin.«set.__new__» Builtin.Frozenset.newClass
 have sub:=sub_set_self
 obtain ⟨hp,g,d,tk,os⟩:=s
 dsimp only
 wp_walk
 refine wpAny_askSetting (wpAny_pure ?_)
 simp only[newObj]
 refine wpAny_bind (wpAny_alloc (wpAny_pure (wpAny_pure ?_)))
 exact h
theorem zpH {h:Heap}:zan prog w (h.push (empty w)) h.objs.size [] :=
 ⟨⟨_,#[],0,_,⟨yds _ rfl,⟨rfl,rfl,rfl⟩,rfl⟩,⟨(fun e he=>by simp at he),by decide,rfl⟩,zkE _,rfl⟩,List.Pairwise.nil⟩
end
end zac
namespace zac
section
variable {prog:Program} {w:World} {A:Around} {E:Value->Shared->Prop} {s:Shared}
theorem zoW:∀ ns:List Int,(yar ns.length).map (fun i=>ns.getD i 0)=ns:=fun ns=>by
 apply ybt
 intro i
 rw[yag]
 by_cases h:i<ns.length
 ·rw[ycf h,yaa h]
  simp[h]
 ·rw[yap (by rw[ybu];ac_rfl),yap (by ac_rfl)]
  rfl
theorem zs8 {l:Addr} {items:Array Value} {ns:List Int} (hh:A.handled=none) (hl:s.heap.IsList l items) (hi:IntsAre items.toList ns) (hb:items.size+1<scanBound) {R:Result->Shared->Prop}
  (h:∀ h' tk ms,zan prog w h' s.heap.objs.size ms->(∀ m,m∈ms↔m∈ns)->ms.length<=ns.length->(∀ b o,b<s.heap.objs.size->s.heap.get? b=some o->h'.get? b=some o)->R (.ok (.ret .none)) { s with heap:=h',toks:=tk }) :
  codeAny (model prog w) A (.call (.builtin "set.__init__") ⟨[.ref s.heap.objs.size,.ref l],[]⟩) R { s with heap:=s.heap.push (empty w) }:=by
 have hn:items.size=ns.length:=by rw[<-IntsAre.length hi];simp
 have at0:(s.heap.push (empty w)).get? s.heap.objs.size=some (empty w):=yds _ rfl
 have ty:Shared.TypeIs { s with heap:=s.heap.push (empty w) } (.ref s.heap.objs.size) "set" := ⟨_,at0,rfl⟩
 refine codeAny_call_builtin PySem.F.called_set.init.plain PySem.F.entry_set_init (check_set_init_1 ty ?_)
 obtain ⟨ol,hol,hcl,nl,hdl⟩:=id hl
 have lS:l<s.heap.objs.size:=ydr hol
 obtain ⟨oc,od,odt,osl⟩:=ol
 dsimp only at hcl hdl
 subst hcl hdl
 have hol':=ydq (empty w) hol
 have n1:=PySem.F.sub_list_set
 have n2:=PySem.F.sub_list_frozenset
 have n3:(Value.type "list" == Value.type "dict")=false:=by decide
 have l1:(s.heap.push (empty w)).IsList l items:=⟨_,hol',rfl,nl,rfl⟩
 unfold Builtin.«set.__init__» noKeywords Builtin.Frozenset.updateFrom
 generalize hPI:pyIter=PI
 wp_walk
 subst hPI
 refine wpAny_pyIter_list l1 (wpAny_bind (wpAny_runValue ?_))
 have h3:A.in1.in1.handled=none:=by simp[hh]
 have sz:(s.heap.push (empty w)).objs.size=s.heap.objs.size+1:=ydu _ _
 have ne:l≠(s.heap.push (empty w)).objs.size:=by rw[sz];exact yda (ydh lS)
 have nf:s.heap.objs.size ∉ [(s.heap.push (empty w)).objs.size,l]:=by
  rw[sz]
  simp only[yaj,ybh,or_false,not_or]
  exact ⟨yda (ydg _),ydj lS⟩
 have S0:zan prog w ((s.heap.push (empty w)).push { cls:=.type "list_iterator", data:=.fields #[.ref l,.int 0 0] }) s.heap.objs.size []:=zpH.keep fun o e=>ydq _ e
 refine xloop (val:=fun i=>ns.getD i 0) ((Walks.list h3 _ l ne items).toS) nf (fun i v q=>IntsAre.int_at hi i v (by rw[yeh];exact q)) hb (items.size-0) 0 _ [] (by ac_rfl) (ydc _)
  ?xst ?xS (fun m=>by simp) (ydc _) ?_
 case xst=>exact ⟨⟨_,yds _ rfl,rfl,rfl⟩,l1.push _⟩
 case xS=>exact S0
 intro s' ms mv S mm len
 obtain ⟨h',g',d',tk',os'⟩:=s'
 obtain rfl:g'=s.gens:=mv.gens
 obtain rfl:d'=s.drawn:=mv.drawn
 obtain rfl:os'=s.os:=mv.os
 refine wpAny_pure ?_
 show wpAny _ _ (ret Value.none) _ _ _
 refine wpAny_pure (h h' tk' ms S (fun m=>?_) (by ac_rfl) fun b o lt e=>?_)
 ·rw[mm,hn,zoW]
 ·refine mv.heap b o ?_ (ydq _ (ydq _ e))
  rw[sz]
  simp only[yaj,ybh,or_false,not_or]
  exact ⟨yda lt,yda (ydh lt)⟩
set_option maxHeartbeats 3200000 in
theorem znV {l:Addr} {items:Array Value} {ns:List Int} (hh:A.handled=none) (hl:s.heap.IsList l items) (hi:IntsAre items.toList ns) (hb:items.size+1<scanBound) {Q:Value->Shared->Prop}
  (h:∀ h' tk ms,zan prog w h' s.heap.objs.size ms->(∀ m,m∈ms↔m∈ns)->ms.length<=ns.length->(∀ b o,b<s.heap.objs.size->s.heap.get? b=some o->h'.get? b=some o)->Q (.ref s.heap.objs.size) { s with heap:=h',toks:=tk }) :
  wpAny (model prog w) A (call (.type "set") [.ref l]) Q E s:=by
 obtain ⟨c,tl,hmro⟩:=PySem.F.called_set.mro
 have m1:=PySem.F.called_set.made
 have m2:=PySem.F.called_set.sub
 have m3:=PySem.F.called_set.notType
 have m4:=PySem.F.called_set.canCreate
 have m5:=PySem.F.typeCall_set_1 (.ref l)
 refine wpAny_call (codeAny_of_tree ?_)
 show wpAny _ _ (callAny (.type "set") _) _ _ _
 refine wpAny_pure ⟨Code.quiet_builtin _ (by decide +kernel),codeAny_builtin PySem.F.entry_type_call ?_⟩
 rw[Around.under_plain (weight_type_call_type "set" [.ref l] []) rfl]
 repeat (any_goals (first | assumption | wp_step))
 refine ztK (.ref l) ?_
 have at0:(s.heap.push (empty w)).get? s.heap.objs.size=some (empty w):=yds _ rfl
 have ty:Shared.TypeIs { s with heap:=s.heap.push (empty w) } (.ref s.heap.objs.size) "set" := ⟨_,at0,rfl⟩
 have i1:=PySem.F.called_set.init.lookup
 have i2:=PySem.F.called_set.init.bind (.ref s.heap.objs.size)
 show wpAny _ _ _ _ _ _
 repeat (any_goals (first | assumption | wp_step))
 refine zs8 (by simp[hh]) hl hi hb fun h' tk ms S mm len kp=>?_
 show wpAny _ _ _ _ _ _
 repeat (any_goals (first | assumption | wp_step))
 exact h _ _ _ S mm len kp
end
end zac
namespace zac
theorem zeL:Slot "set_iterator" "__next__" "set_iterator.__next__" := .of (owner:="set_iterator") (n:="__next__") (by rw[typeLookup_type,builtinLookup_eq_fast];kernel_rfl) (by decide +kernel) (by decide +kernel) (by decide +kernel)
 (by first | exact .inl (by decide +kernel) | exact .inr (by decide +kernel)) (by rw[isSubtype_type];kernel_rfl)
theorem zn9:Slot "set_iterator" "__iter__" "set_iterator.__iter__" := .of (owner:="set_iterator") (n:="__iter__") (by rw[typeLookup_type,builtinLookup_eq_fast];kernel_rfl) (by decide +kernel) (by decide +kernel) (by decide +kernel)
 (by first | exact .inl (by decide +kernel) | exact .inr (by decide +kernel)) (by rw[isSubtype_type];kernel_rfl)
theorem zov:entryFor table "set_iterator.__next__" = some Builtin.«set_iterator.__next__»:=entryFor_of_tree (by kernel_rfl)
theorem zrH:entryFor table "set_iterator.__iter__" = some Builtin.«dict_keyiterator.__iter__»:=entryFor_alias (id' := "dict_keyiterator.__iter__") (by rw[fastTable_eq_tree];kernel_rfl) rfl (by rw[PySem.W.S.canonicalS_eq];kernel_rfl) (by rw[fastTable_eq_tree];kernel_rfl)
theorem zq0:entryFor table "set.__iter__" = some Builtin.«frozenset.__iter__»:=entryFor_alias (id' := "frozenset.__iter__") (by rw[fastTable_eq_tree];kernel_rfl) rfl (by rw[PySem.W.S.canonicalS_eq];kernel_rfl) (by rw[fastTable_eq_tree];kernel_rfl)
theorem zn0 (a:Value):argsOk "set_iterator.__next__" ⟨[a],[]⟩:=by unfold argsOk;kernel_rfl
theorem zrV (a:Value):argsOk "set_iterator.__iter__" ⟨[a],[]⟩:=by unfold argsOk;kernel_rfl
def zbm (h:Heap) (I a:Addr) (first:Value) (i n ep:Nat):Prop:=∃ o,h.get? I=some o/\o.cls=.type "set_iterator" /\ o.data=.fields #[first,.int i 0,.ref a,.int n 0,.int ep 0]
theorem zbm.ty {s:Shared} {I a:Addr} {first:Value} {i n ep:Nat} (h:zbm s.heap I a first i n ep):s.TypeIs (.ref I) "set_iterator" := let ⟨_,a,b,_⟩:=h;⟨_,a,b⟩
theorem zbm.keep {h h':Heap} {I a:Addr} {first:Value} {i n ep:Nat} (x:zbm h I a first i n ep) (k:∀ o,h.get? I=some o->h'.get? I=some o):zbm h' I a first i n ep:=let ⟨o,a,b⟩:=x;⟨o,k o a,b⟩
def zbj (h:Heap) (a:Addr) (es:Array (Int × Value)) (ep:Nat) (t:SetTable):Prop:=∃ o,h.get? a=some o/\o.data=.set es ep t/\t.fits es.size=true
theorem zbj.keep {h h':Heap} {a:Addr} {es:Array (Int × Value)} {ep:Nat} {t:SetTable} (x:zbj h a es ep t) (k:∀ o,h.get? a=some o->h'.get? a=some o):zbj h' a es ep t:=let ⟨o,a,b⟩:=x;⟨o,k o a,b⟩
section
variable {prog:Program} {w:World} {A:Around} {E:Value->Shared->Prop} {s:Shared} {I a:Addr} {es:Array (Int × Value)} {ep:Nat} {t:SetTable}
theorem zbC {Q:(Array (Int × Value) × Nat × SetTable)->Shared->Prop} (O:zbj s.heap a es ep t) (h:Q (es,ep,t) s):wpAny (model prog w) A (setState a) Q E s:=by
 obtain ⟨o,ho,hd,hf⟩:=O
 exact wpAny_setState_of ho hd hf h
theorem zkG {first:Value} {i n:Nat} {Q:Value->Shared->Prop} (h:zbm s.heap I a first i n ep) (q:Q (.ref I) s):wpAny (model prog w) A (pyIter (.ref I)) Q E s:=by
 refine wpAny_pyIter_slot h.ty zn9 (wpAny_call_entry zn9 h.ty zrH ?_ (zrV _))
 exact wpAny_pure ⟨_,rfl, "set_iterator", _,h.ty,zeL.lookup,q⟩
theorem zk2 {Q:Option Value->Shared->Prop} {h1:Heap} (hh:A.handled=none) (q:∀ h',(∀ b o,h1.get? b=some o->h'.get? b=some o)->Q none { s with heap:=h' }) :
  wpAny (model prog w) A.in1 (newExc (.type "StopIteration") [] >>= fun e=>raiseNew e:Sem Fin) (fun fin s'=>∃ v,fin=.done (.ret v)/\wpAny (model prog w) A (match (Except.ok (some v):Except Value (Option Value)) with | .ok (some v)=>pure (some v) | .ok none=>unsupported "iter:the-iterator's-class-has-lost-its-__next__-amid-the-walk" | .error e=>do if <-isInstance e (.type "StopIteration") then pure none else throw e) Q E s')
   (fun e s'=>wpAny (model prog w) A (do if <-isInstance e (.type "StopIteration") then pure none else throw e) Q E s') { s with heap:=h1 }:=by
 refine wpAny_bind ?_
 simp only[newExc,newTuple]
 refine wpAny_bind (wpAny_newObj_type ?_ (by size_fits))
 refine wpAny_bind (m:=firstArgMember _ _) (wpAny_of_eq (a:=Value.none) (by first | rfl | (simp only[firstArgMember];rfl)) ?_)
 refine wpAny_newObj_type ?_ (by size_fits)
 simp only[raiseNew]
 refine wpAny_bind (wpAny_handled ?_)
 rw[show A.in1.handled=none from hh]
 refine wpAny_bind (wpAny_pure (wpAny_throw ?_))
 refine wpAny_bind (wpAny_isInstance (T:="StopIteration") (b:=true) ⟨_,yds _ rfl,rfl⟩ isSubtype_stop ?_)
 exact wpAny_pure (q _ fun b o e=>ydq _ (ydq _ e))
end
end zac
namespace zac
section
variable {prog:Program} {w:World} {A:Around} {E:Value->Shared->Prop} {s:Shared} {I a:Addr} {es:Array (Int × Value)} {ep:Nat} {t:SetTable}
theorem zfy {h:Heap} {o:Obj} {vs:Array Value} {j:Nat} {x:Value} (ho:h.get? I=some o) (hd:o.data=.fields vs):(h.update I (Obj.mapFields (·.setIfInBounds j x))).get? I=some (Obj.mapFields (·.setIfInBounds j x) o) :=
 ydv _ ho (Obj.isFreed_of_fields (Obj.data_mapFields hd _))
theorem zmO {F i:Nat} {r:Option (Value × Nat)} {Q:Option Value->Shared->Prop} (hh:A.handled=none) (It:zbm s.heap I a (.int F 0) i es.size ep) (O:zbj s.heap a es ep t)
  (st:∀ (A':Around) (E':Value->Shared->Prop) (Q':Option (Value × Nat)->Shared->Prop),Q' r s->wpAny (model prog w) A' (setNext a F i ep) Q' E' s)
  (h1:∀ x F',r=some (x,F')->∀ h',Heap.SameBut I s.heap h'->zbm h' I a (.int F' 0) (i+1) es.size ep->Q (some x) { s with heap:=h' })
  (h2:r=none->∀ h',(∀ b o,b≠I->s.heap.get? b=some o->h'.get? b=some o)->Q none { s with heap:=h' }):wpAny (model prog w) A (pyNext (.ref I)) Q E s:=by
 obtain ⟨o,ho,hc,hd⟩:=id It
 unfold pyNext
 refine wpAny_bind (wpAny_attempt (wpAny_callSpecial?_slot (name:=Str.ofString "__next__") It.ty zeL (wpAny_call_entry zeL It.ty zov ?_ (zn0 _))))
 unfold Builtin.«set_iterator.__next__»
 refine wpAny_bind (wpAny_of_eq (a:=(Value.ref I,[])) rfl ?_)
 show wpAny _ _ (fieldsOf (.ref I) >>= _) _ _ s
 refine wpAny_bind (wpAny_fieldsOf ho hd ?_)
 show wpAny _ _ (setEntries a >>= _) _ _ s
 refine wpAny_bind ?_
 unfold setEntries
 refine wpAny_bind (zbC O (wpAny_pure ?_))
 dsimp only
 rw[if_neg (by simp)]
 simp only[Int.toNat_natCast]
 refine wpAny_bind (st _ _ _ ?_)
 cases r with
 | some xf =>
  obtain ⟨x,F'⟩:=xf
  refine wpAny_bind (wpAny_setField ho hd (by simp) ?_)
  have ho1:=zfy (j:=0) (x:=rawInt F') ho hd
  have hd1:=Obj.data_mapFields hd (f:=(·.setIfInBounds 0 (rawInt F')))
  refine wpAny_bind (wpAny_setField ho1 hd1 (by simp) (wpAny_pure ⟨x,rfl,wpAny_pure (h1 x F' rfl _ ((Heap.SameBut.update ..).trans (Heap.SameBut.update ..)) ?_)⟩))
  refine ⟨_,zfy ho1 hd1,(Obj.cls_mapFields ..).trans ((Obj.cls_mapFields ..).trans hc),?_⟩
  rw[Obj.data_mapFields hd1]
  simp[rawInt]
 | none =>
  refine wpAny_bind (wpAny_setField ho hd (by simp) ?_)
  refine zk2 hh fun h' k=>h2 rfl h' fun b o hb e=>k b o ?_
  exact (ydt _ _ _ _ hb).trans e
end
end zac
namespace zac
section
variable {prog:Program} {w:World} {A:Around} {E:Value->Shared->Prop} {s:Shared} {I a T:Addr} {es:Array (Int × Value)} {ep:Nat} {t:SetTable} {ps:Array Value}
def zds (h:Heap) (T:Addr) (ps:Array Value):Prop:=∃ o n,h.get? T=some o/\o.data=.seq ps n
theorem zds.keep {h h':Heap} (x:zds h T ps) (k:∀ o,h.get? T=some o->h'.get? T=some o):zds h' T ps:=let ⟨o,n,a,b⟩:=x;⟨o,n,k o a,b⟩
theorem zjJ {i:Nat} {Q:Option Value->Shared->Prop} (hh:A.handled=none) (It:zbm s.heap I a (.ref T) i es.size ep) (O:zbj s.heap a es ep t) (P:zds s.heap T ps)
  (h1:∀ p,ps[i]?=some (.int p 0)->∀ k x,es[p.toNat]?=some (k,x)->∀ h',Heap.SameBut I s.heap h'->zbm h' I a (.ref T) (i+1) es.size ep->Q (some x) { s with heap:=h' })
  (h2:ps[i]?=none->∀ h',(∀ b o,b≠I->s.heap.get? b=some o->h'.get? b=some o)->Q none { s with heap:=h' })
  (hp:ps[i]?=none\/∃ p k x,ps[i]?=some (.int p 0)/\es[p.toNat]?=some (k,x)):wpAny (model prog w) A (pyNext (.ref I)) Q E s:=by
 obtain ⟨o,ho,hc,hd⟩:=id It
 obtain ⟨oT,nT,hT,hdT⟩:=P
 unfold pyNext
 refine wpAny_bind (wpAny_attempt (wpAny_callSpecial?_slot (name:=Str.ofString "__next__") It.ty zeL (wpAny_call_entry zeL It.ty zov ?_ (zn0 _))))
 unfold Builtin.«set_iterator.__next__»
 refine wpAny_bind (wpAny_of_eq (a:=(Value.ref I,[])) rfl ?_)
 show wpAny _ _ (fieldsOf (.ref I) >>= _) _ _ s
 refine wpAny_bind (wpAny_fieldsOf ho hd ?_)
 show wpAny _ _ (setEntries a >>= _) _ _ s
 refine wpAny_bind ?_
 unfold setEntries
 refine wpAny_bind (zbC O (wpAny_pure ?_))
 dsimp only
 rw[if_neg (by simp)]
 simp only[Int.toNat_natCast]
 refine wpAny_bind (wpAny_seqItems hT hdT ?_)
 dsimp only
 rcases hp with hp | ⟨p,k,x,hp,hx⟩
 ·rw[hp]
  refine wpAny_bind (wpAny_setField ho hd (by simp) ?_)
  have ho1:=zfy (j:=0) (x:=rawInt 0) ho hd
  have hd1:=Obj.data_mapFields hd (f:=(·.setIfInBounds 0 (rawInt 0)))
  refine wpAny_bind (wpAny_setField ho1 hd1 (by simp) ?_)
  refine zk2 hh fun h' k=>h2 hp h' fun b o hb e=>k b o ?_
  exact (ydt _ _ _ _ hb).trans ((ydt _ _ _ _ hb).trans e)
 ·rw[hp]
  dsimp only
  refine wpAny_bind ?_
  unfold setNextDrawn
  refine wpAny_bind (zbC O ?_)
  dsimp only
  rw[if_neg (by simp),hx]
  refine wpAny_pure (wpAny_bind (wpAny_setField ho hd (by simp) (wpAny_pure ⟨x,rfl,wpAny_pure (h1 p hp k x hx _ (Heap.SameBut.update ..) ?_)⟩)))
  refine ⟨_,zfy ho hd,(Obj.cls_mapFields ..).trans hc,?_⟩
  rw[Obj.data_mapFields hd]
  simp[rawInt]
theorem zp4 (hh:A.handled=none) (ne:a≠I) {F:Nat->Nat} {ord:Nat->Value} (st:∀ i,i<=es.size->∀ (s:Shared),zbj s.heap a es ep t->∀ (A':Around) (E':Value->Shared->Prop) (Q':Option (Value × Nat)->Shared->Prop),
   Q' (if i<es.size then some (ord i,F (i+1)) else none) s->wpAny (model prog w) A' (setNext a (F i) i ep) Q' E' s) :
  Walks prog w A I [I,a] [I] es.size (fun i v=>v=ord i) (fun i h=>i<=es.size/\zbm h I a (.int (F i) 0) i es.size ep/\zbj h a es ep t) where
 sub:=fun b hb=>by simp at hb;simp[hb]
 frame:=fun _ _ _ st k=>⟨st.1,st.2.1.keep fun o e=>k I (by simp) o e,st.2.2.keep fun o e=>k a (by simp) o e⟩
 item:=fun i s Q E hi h hQ=>by
  refine zmO hh h.2.1 h.2.2 (fun A' E' Q' q=>st i h.1 s h.2.2 A' E' Q' q) (fun x F' e h' sb It=>?_) fun e=>?_
  ·rw[if_pos hi] at e
   cases e
   exact hQ _ h' s.toks rfl ⟨hi,It,h.2.2.keep fun o e=>(sb.2 a ne).trans e⟩ fun b o hb e=>(sb.2 b fun z=>hb (by simp[z])).trans e
  ·rw[if_pos hi] at e;cases e
 done:=fun s Q E h hQ=>by
  refine zmO hh h.2.1 h.2.2 (fun A' E' Q' q=>st _ h.1 s h.2.2 A' E' Q' q) (fun x F' e=>?_) fun _ h' k=>hQ h' s.toks fun b o hb e=>k b o (fun z=>hb (by simp[z])) e
  rw[if_neg (ydf _)] at e;cases e
 self:=fun _ _ _ _ h q=>zkG h.2.1 q
theorem znn (hh:A.handled=none) (ne:a≠I) (nT:T≠I) {ord:List Nat} (hps:ps=(ord.map fun i:Nat=>rawInt i).toArray) (hl:ord.length=es.size) (ho:∀ i∈ord,i<es.size) :
  Walks prog w A I [I,a,T] [I] es.size (fun i v=>∃ j,ord[i]?=some j/\∃ k,es[j]?=some (k,v)) (fun i h=>i<=es.size/\(zbm h I a (.ref T) i es.size ep/\zbj h a es ep t)/\zds h T ps) where
 sub:=fun b hb=>by simp at hb;simp[hb]
 frame:=fun _ _ _ st k=>⟨st.1,⟨st.2.1.1.keep fun o e=>k I (by simp) o e,st.2.1.2.keep fun o e=>k a (by simp) o e⟩,st.2.2.keep fun o e=>k T (by simp) o e⟩
 item:=fun i s Q E hi h hQ=>by
  have hj:i<ord.length:=by ac_rfl
  have e0:ps[i]?=some (.int (ord[i]:Nat) 0):=by rw[hps];simp[hj,rawInt]
  have hlt:=ho ord[i] (ych hj)
  obtain ⟨⟨k0,x0⟩,q0⟩:∃ q,es[ord[i]]?=some q:=⟨_,yee hlt⟩
  refine zjJ hh h.2.1.1 h.2.1.2 h.2.2 (fun p ep' k x ex h' sb It=>?_) (fun e=>by rw[e0] at e;cases e) (.inr ⟨_,k0,x0,e0,by simpa using q0⟩)
  rw[e0] at ep'
  cases ep'
  refine hQ x h' s.toks ⟨ord[i],yaa hj,k,by simpa using ex⟩ ⟨hi,⟨It,h.2.1.2.keep fun o e=>(sb.2 a ne).trans e⟩,h.2.2.keep fun o e=>(sb.2 T nT).trans e⟩ fun b o hb e=>(sb.2 b fun z=>hb (by simp[z])).trans e
 done:=fun s Q E h hQ=>by
  have e0:ps[es.size]?=none:=by rw[hps];simp;ac_rfl
  exact zjJ hh h.2.1.1 h.2.1.2 h.2.2 (fun p ep'=>by rw[e0] at ep';cases ep') (fun _ h' k=>hQ h' s.toks fun b o hb e=>k b o (fun z=>hb (by simp[z])) e) (.inl e0)
 self:=fun _ _ _ _ h q=>zkG h.2.1.1 q
end
end zac
namespace zac
theorem zeD {α:Type}:∀ (l:List α) (i:Nat) (h:i<l.length),(l[i]::l.eraseIdx i).Perm l
 | x::xs,0,_=>.refl _
 | x::xs,i+1,h=>(List.Perm.swap x _ _).trans ((zeD xs i (by simpa using h)).cons x)
theorem zor {α:Type} (next:Nat->Nat):∀ (fuel k:Nat) (left:List α) (out:Array α),left.length=fuel->(pickOrder.go next fuel k left out).toList.Perm (out.toList++left)
 | 0,k,left,out,h=>by
  have:left=[]:=List.length_eq_zero_iff.mp h
  subst this
  unfold pickOrder.go
  simp
 | fuel+1,k,left,out,h=>by
  have lt:next k % left.length<left.length:=Nat.mod_lt _ (by ac_rfl)
  unfold pickOrder.go
  rw[yaa lt]
  dsimp only
  refine (zor next fuel (k+1) _ _ (by rw[ycj lt,h];rfl)).trans ?_
  rw[Array.toList_push,ycl]
  refine List.Perm.append_left _ ?_
  exact zeD left _ lt
theorem zfB {α:Type} (next:Nat->Nat) (xs:Array α):(pickOrder next xs).toList.Perm xs.toList:=by
 unfold pickOrder
 simpa using zor next xs.size 0 xs.toList #[] (by simp)
noncomputable def slotAt (t:SetTable) (i:Nat):Nat:=if i=0 then 0 else t.place.getD (i-1) 0+1
theorem below_at {t:SetTable} (h:Up t.place) {i:Nat} (hi:i<=t.place.size):SetTable.below t.place (slotAt t i)=i:=by
 obtain ⟨h0,h1,h2⟩:=zjv h (slotAt t i)
 generalize SetTable.below t.place (slotAt t i)=p at *
 have gd:∀ j,j<t.place.size->∀ d e,t.place.getD j d=t.place.getD j e:=fun j hj d e=>by simp[yei,hj]
 by_cases hz:i=0
 ·subst hz
  refine Nat.eq_zero_of_not_pos fun hp=>?_
  have:=h1 0 hp
  unfold slotAt at this
  rw[if_pos rfl] at this
  ac_rfl
 ·have e:slotAt t i=t.place.getD (i-1) 0+1:=by unfold slotAt;rw[if_neg hz]
  rcases ydi p i with lt | rfl | gt
  ·have:=h2 (i-1) (by ac_rfl) (by ac_rfl)
   rw[gd _ (by ac_rfl) _ 0,e] at this
   ac_rfl
  ·rfl
  ·have:=h1 i gt
   have u:=zlI h (i:=i-1) (j:=i) (by ac_rfl) (by ac_rfl) 0 0
   rw[gd _ (by ac_rfl) _ 0,e] at this
   ac_rfl
section
variable {prog:Program} {w:World} {a:Addr} {es:Array (Int × Value)} {ep:Nat} {t:SetTable}
theorem zoV (hb:w.params.followText "set-order" = false) (T:Tab false t) (hf:t.fits es.size=true) (hp:(!t.plain && decide (es.size > 1))=false) (i:Nat) (hi:i<=es.size) (s:Shared) (O:zbj s.heap a es ep t) (A':Around)
  (E':Value->Shared->Prop) (Q':Option (Value × Nat)->Shared->Prop) (q:Q' (if i<es.size then some ((es.getD i (0,.none)).2,slotAt t (i+1)) else none) s):wpAny (model prog w) A' (setNext a (slotAt t i) i ep) Q' E' s:=by
 have fz:t.place.size=es.size:=by simp[SetTable.fits] at hf;exact hf.1
 have up:Up t.place:=by
  by_cases pl:t.plain=true
  ·exact T.up pl
  ·have:es.size<=1:=by simp[pl] at hp;exact hp
   unfold Up
   have l1:t.place.toList.length<=1:=by rw[yed];ac_rfl
   match hq:t.place.toList,l1 with
   | [],_=>exact .nil
   | [x],_=>exact yby _ _
   | _::_::_,z=>simp at z
 unfold setNext
 refine wpAny_bind (zbC O ?_)
 unfold setsByText
 refine wpAny_bind (wpAny_bind (wpAny_askSetting (wpAny_pure ?_)))
 rw[show (model prog w).w.params.followText "set-order" = false from hb]
 rw[if_neg Bool.false_ne_true]
 dsimp only
 show wpAny _ _ (if (!t.plain && decide (es.size > 1))=true then _ else _) _ _ _
 rw[if_neg (by rw[hp];exact Bool.false_ne_true)]
 refine wpAny_bind ?_
 show wpAny _ _ (if (!t.led && !es.isEmpty)=true then _ else _) _ _ _
 rw[if_neg (by rw[T.led];simp)]
 refine wpAny_pure ?_
 rw[below_at up (by ac_rfl)]
 refine wpAny_pure ?_
 by_cases lt:i<es.size
 ·rw[if_pos lt] at q
  rw[yee lt,yee (by ac_rfl:i<t.place.size)]
  dsimp only
  have e1:(es.getD i (0,.none)).2=es[i].2:=by simp[yei,lt]
  have e2:slotAt t (i+1)=t.place[i]'(by ac_rfl)+1:=by simp[slotAt,yei,show i<t.place.size by ac_rfl]
  rw[e1,e2] at q
  exact q
 ·rw[if_neg lt] at q
  rw[Array.getElem?_eq_none (by ac_rfl)]
  exact q
theorem zpZ (hb:w.params.followText "set-order" = true) (i:Nat) (hi:i<=es.size) (s:Shared) (O:zbj s.heap a es ep t) (A':Around)
  (E':Value->Shared->Prop) (Q':Option (Value × Nat)->Shared->Prop) (q:Q' (if i<es.size then some (((pickOrder (w.params.setOrder a ep) es).getD i (0,.none)).2,0) else none) s):wpAny (model prog w) A' (setNext a 0 i ep) Q' E' s:=by
 have sz:(pickOrder (w.params.setOrder a ep) es).size=es.size:=by
  have:=(zfB (w.params.setOrder a ep) es).length_eq
  simpa using this
 unfold setNext
 refine wpAny_bind (zbC O ?_)
 unfold setsByText
 refine wpAny_bind (wpAny_bind (wpAny_askSetting (wpAny_pure ?_)))
 rw[show (model prog w).w.params.followText "set-order" = true from hb,if_pos rfl]
 dsimp only
 rw[if_neg (by simp)]
 refine wpAny_bind ?_
 unfold setWalk
 refine wpAny_bind (zbC O ?_)
 unfold setsByText
 refine wpAny_bind (wpAny_bind (wpAny_askSetting (wpAny_pure ?_)))
 rw[show (model prog w).w.params.followText "set-order" = true from hb,if_pos rfl]
 refine wpAny_bind (wpAny_askSetting (wpAny_pure (wpAny_pure ?_)))
 show Q' (Option.map (fun e=>(e.2,0)) (pickOrder (w.params.setOrder a ep) es)[i]?) s
 by_cases lt:i<es.size
 ·rw[if_pos lt] at q
  rw[yee (by ac_rfl)]
  have e1:((pickOrder (w.params.setOrder a ep) es).getD i (0,.none)).2=((pickOrder (w.params.setOrder a ep) es)[i]'(by ac_rfl)).2:=by simp[yei,show i<(pickOrder (w.params.setOrder a ep) es).size by ac_rfl]
  rw[e1] at q
  exact q
 ·rw[if_neg lt] at q
  rw[Array.getElem?_eq_none (by ac_rfl)]
  exact q
end
end zac
namespace zac
section
variable {prog:Program} {w:World} {A:Around} {E:Value->Shared->Prop}
theorem zoX {src:Source} {n:Nat} {s:Shared} {Q:Nat->Shared->Prop} (hn:0<n) (h:∀ i d,i<n->Q i { s with drawn:=d }):wpAny (model prog w) A (choose src n) Q E s :=
 fun Γ p hΓ=>⟨by ac_rfl,h _ _ (Nat.mod_lt _ hn)⟩
theorem zhH {α:Type}:∀ (n:Nat) (xs:List α) (s:Shared) (Q:List α->Shared->Prop),xs.length=n->(∀ l d,l.Perm xs->Q l { s with drawn:=d })->wpAny (model prog w) A (drawOrder n xs) Q E s
 | 0,xs,s,Q,hl,h=>by
  have:xs=[]:=List.length_eq_zero_iff.mp hl
  subst this
  unfold drawOrder
  exact wpAny_pure (h [] s.drawn (.refl _))
 | n+1,[],s,Q,hl,h=>by simp at hl
 | n+1,x::xs,s,Q,hl,h=>by
  unfold drawOrder
  refine wpAny_bind (zoX (by simp) fun i d hi=>?_)
  rw[yaa hi]
  refine wpAny_bind (zhH n _ _ _ (by rw[ycj hi,hl];rfl) fun l d' hp=>wpAny_pure (h _ d' ?_))
  exact (hp.cons _).trans (zeD (x::xs) i hi)
end
theorem zm3 {P:Nat->Value->Prop} {acc:Array Value} {n:Nat} {f:Nat->Value} (h:ItemsOf P acc n) (hf:∀ i v,i<n->P i v->v=f i):acc.toList=(yar n).map f:=by
 apply ybt
 intro j
 rw[yag]
 by_cases lt:j<n
 ·have e:acc.toList[j]?=some (acc[j]'(by rw[h.1];exact lt)):=by rw[yeh];exact yee _
  rw[e,ycf lt]
  exact congrArg some (hf j _ lt (h.2 j _ (yee _)))
 ·rw[yap (by rw[yed,h.1];ac_rfl),yap (by rw[ybu];ac_rfl)]
  rfl
theorem zfG {α β:Type} (xs:Array α) (d:α) (f:α->β):(yar xs.size).map (fun i=>f (xs.getD i d))=xs.toList.map f:=by
 apply ybt
 intro j
 rw[yag,yag]
 by_cases lt:j<xs.size
 ·rw[ycf lt,yeh,yee lt]
  simp[yei,lt]
 ·rw[yap (by rw[ybu];ac_rfl),yap (by rw[yed];ac_rfl)]
  rfl
section
variable {prog:Program} {w:World} {A:Around} {E:Value->Shared->Prop} {s:Shared} {a:Addr} {es:Array (Int × Value)} {ep:Nat} {t:SetTable}
theorem zqq {B:Around} {Q:Value->Shared->Prop} (hB:B.handled=none) (ty:s.TypeIs (.ref a) "set") (O:zbj s.heap a es ep t) (T:Tab (w.params.followText "set-order") t) (hz:es.size<=sizeLine)
  (hQ:∀ I h' d' fp P (St:Nat->Heap->Prop),Walks prog w B I fp [I] es.size P St->St 0 h'->(∀ b∈fp,b=a\/(s.heap.objs.size<=b/\b<h'.objs.size))->(∀ acc,ItemsOf P acc es.size->acc.toList.Perm (es.toList.map (·.2))) ->
   (∀ b o,s.heap.get? b=some o->h'.get? b=some o)->s.heap.objs.size<=I->Q (.ref I) { s with heap:=h',drawn:=d' }):wpAny (model prog w) A (pyIter (.ref a)) Q E s:=by
 have hf:t.fits es.size=true:=O.choose_spec.2.2
 have alt:a<s.heap.objs.size:=ydr O.choose_spec.1
 refine wpAny_pyIter_slot ty PySem.F.slot_set_iter (wpAny_call_entry PySem.F.slot_set_iter ty zq0 ?_ (PySem.F.args_set_iter_1 _))
 unfold Builtin.«frozenset.__iter__» Builtin.Frozenset.slot0
 refine wpAny_bind (wpAny_bind (wpAny_of_eq (a:=(Value.ref a,[])) rfl (wpAny_of_eq (a:=a) rfl ?_)))
 unfold Builtin.Frozenset.sizeOf setEntries
 refine wpAny_bind (wpAny_bind (wpAny_bind (zbC O (wpAny_pure (wpAny_pure ?_)))))
 unfold setDrawn setsByText
 refine wpAny_bind (wpAny_bind (zbC O (wpAny_bind (wpAny_bind (wpAny_askSetting (wpAny_pure (wpAny_pure ?_)))))))
 show wpAny _ _ (if (!w.params.followText "set-order" && (!t.plain && decide (es.size > 1)))=true then _ else _) _ _ _
 have body:∀ (first:Value) (s1:Shared),zbj s1.heap a es ep t->(∀ I h',h'=s1.heap.push { cls:=.type "set_iterator", data:=.fields #[first,.int (0:Nat) 0,.ref a,.int es.size 0,.int ep 0] }->I=s1.heap.objs.size->zbm h' I a first 0 es.size ep->zbj h' a es ep t->Q (.ref I) { s1 with heap:=h' }) ->
   wpAny (model prog w) A.in1 (setEpoch a >>= fun e=>newFields "set_iterator" [first,rawInt 0,.ref a,rawInt es.size,rawInt e] >>= fun x=>ret x) (fun fin s'=>∃ v,fin=.done (.ret v)/\∃ T' r,s'.TypeIs v T'/\typeLookup (.type T') "__next__" = pure (some r)/\Q v s') E s1:=fun first s1 O1 q=>by
  unfold setEpoch
  refine wpAny_bind (wpAny_bind (zbC O1 (wpAny_pure ?_)))
  refine wpAny_bind (wpAny_newObj_type (wpAny_pure ?_))
  have g:(s1.heap.push { cls:=.type "set_iterator", data:=.fields #[first,.int (0:Nat) 0,.ref a,.int es.size 0,.int ep 0] }).get? s1.heap.objs.size=some { cls:=.type "set_iterator", data:=.fields #[first,.int (0:Nat) 0,.ref a,.int es.size 0,.int ep 0] }:=yds _ rfl
  exact ⟨_,rfl, "set_iterator", _,⟨_,g,rfl⟩,zeL.lookup,q _ _ rfl rfl ⟨_,g,rfl,rfl⟩ (O1.keep fun o e=>ydq _ e)⟩
 have pin:∀ (F:Nat->Nat) (ord:Nat->Value),F 0=0->(∀ i,i<=es.size->∀ (s:Shared),zbj s.heap a es ep t->∀ (A':Around) (E':Value->Shared->Prop) (Q':Option (Value × Nat)->Shared->Prop),
   Q' (if i<es.size then some (ord i,F (i+1)) else none) s->wpAny (model prog w) A' (setNext a (F i) i ep) Q' E' s)->((yar es.size).map ord).Perm (es.toList.map (·.2)) ->
   wpAny (model prog w) A.in1 (setEpoch a >>= fun e=>newFields "set_iterator" [rawInt 0,rawInt 0,.ref a,rawInt es.size,rawInt e] >>= fun x=>ret x) (fun fin s'=>∃ v,fin=.done (.ret v)/\∃ T' r,s'.TypeIs v T'/\typeLookup (.type T') "__next__" = pure (some r)/\Q v s') E s:=fun F ord F0 st pm=>by
  refine body (rawInt 0) s O fun I h' eh eI It O'=>?_
  have Ilt:I<h'.objs.size:=by rw[eh,eI,ydu];exact ydg _
  refine hQ I h' s.drawn [I,a] _ _ (zp4 (prog:=prog) (w:=w) (A:=B) hB (by rw[eI];exact yda alt) st) ⟨ydc _,by rw[F0];exact It,O'⟩ (fun b hb=>?_) (fun acc hacc=>?_) (fun b o e=>by rw[eh];exact ydq _ e) (by rw[eI];exact ycz _)
  ·simp only[yaj,ybh,or_false] at hb
   rcases hb with rfl | rfl
   ·exact .inr ⟨by rw[eI];exact ycz _,Ilt⟩
   ·exact .inl rfl
  ·rw[zm3 hacc fun i v _ q=>q]
   exact pm
 by_cases hd:(!w.params.followText "set-order" && (!t.plain && decide (es.size > 1)))=true
 ·rw[if_pos hd]
  refine wpAny_bind (zhH es.size (yar es.size) s _ (by simp) fun ord d hp=>?_)
  have ol:ord.length=es.size:=by rw[hp.length_eq];simp
  refine wpAny_bind (wpAny_newObj_type ?_ ?_)
  ·refine body (.ref s.heap.objs.size) { s with heap:=s.heap.push { cls:=.type "tuple", data:=.seq (ord.map fun i:Nat=>rawInt i).toArray },drawn:=d } (O.keep fun o e=>ydq _ e) fun I h' eh eI It O'=>?_
   have eI':I=s.heap.objs.size+1:=by rw[eI];exact ydu _ _
   have Ilt:h'.objs.size=s.heap.objs.size+2:=by rw[eh,ydu,ydu]
   have P:zds h' s.heap.objs.size (ord.map fun i:Nat=>rawInt i).toArray:=⟨_,_,by rw[eh];exact ydq _ (yds _ rfl),rfl⟩
   refine hQ I h' d [I,a,s.heap.objs.size] _ _ (znn (prog:=prog) (w:=w) (A:=B) hB (by rw[eI'];exact yda (ydh alt)) (by rw[eI'];exact yda (ydg _)) rfl ol fun i hi=>by
    have:=hp.mem_iff.mp hi
    simpa using this) ⟨ydc _,⟨It,O'⟩,P⟩ (fun b hb=>?_) (fun acc hacc=>?_) (fun b o e=>by rw[eh];exact ydq _ (ydq _ e)) (by rw[eI'];exact ydk _)
   ·simp only[yaj,ybh,or_false] at hb
    rcases hb with rfl | rfl | rfl
    ·exact .inr ⟨by rw[eI'];exact ydk _,by rw[Ilt,eI'];exact ydg _⟩
    ·exact .inl rfl
    ·exact .inr ⟨ycz _,by rw[Ilt];exact ydh (ydg _)⟩
   ·have e1:acc.toList=(yar es.size).map fun i=>(es.getD (ord.getD i 0) (0,.none)).2:=zm3 hacc fun i v lt ⟨j,hj,k,hk⟩=>by
     have hlt:j<es.size:=by
      have:=hp.mem_iff.mp (yah hj)
      simpa using this
     have hi:i<ord.length:=by ac_rfl
     rw[yaa hi] at hj
     cases hj
     rw[yee hlt] at hk
     cases hq:es[ord[i]]
     rw[hq] at hk
     cases hk
     simp[yei,hi,hlt,hq]
    rw[e1]
    have e2:(yar es.size).map (fun i=>(es.getD (ord.getD i 0) (0,.none)).2)=ord.map fun j=>(es.getD j (0,.none)).2:=by
     have:=zfG ord.toArray 0 fun j=>(es.getD j (0,.none)).2
     simpa [ol] using this
    rw[e2,<-zfG es (0,.none) (·.2)]
    exact hp.map _
  ·show (ord.map fun i:Nat=>rawInt i).toArray.size<=sizeLine
   simp[ol,hz]
 ·rw[if_neg hd]
  refine wpAny_bind (wpAny_pure ?_)
  cases hb:w.params.followText "set-order" with
  | true =>
   refine pin (fun _=>0) (fun i=>((pickOrder (w.params.setOrder a ep) es).getD i (0,.none)).2) rfl (fun i hi s O A' E' Q' q=>zpZ hb i hi s O A' E' Q' q) ?_
   have sz:(pickOrder (w.params.setOrder a ep) es).size=es.size:=by
    have:=(zfB (w.params.setOrder a ep) es).length_eq
    simpa using this
   rw[<-sz,zfG]
   exact (zfB _ _).map _
  | false =>
   have T':=T
   rw[hb] at T'
   rw[hb] at hd
   refine pin (slotAt t) (fun i=>(es.getD i (0,.none)).2) rfl (fun i hi s O A' E' Q' q=>zoV hb T' hf (by simpa using hd) i hi s O A' E' Q' q) ?_
   rw[zfG]
end
end zac
namespace zac
theorem zrE:typeLookup (.type "set") "__len__" = pure (some (.builtin "set.__len__")):=by rw[typeLookup_type,builtinLookup_eq_fast];kernel_rfl
theorem zdI {M:Model} {A:Around} {α:Type} {Q:α->Shared->Prop} {E:Value->Shared->Prop} {s:Shared} {c:Prop} [Decidable c] {x y:Sem α} (hc:c) (h:wpAny M A x Q E s):wpAny M A (if c then x else y) Q E s:=by rw[if_pos hc];exact h
theorem zau {M:Model} {A:Around} {α:Type} {Q:α->Shared->Prop} {E:Value->Shared->Prop} {s:Shared} {c:Prop} [Decidable c] {x y:Sem α} (hc:¬ c) (h:wpAny M A y Q E s):wpAny M A (if c then x else y) Q E s:=by rw[if_neg hc];exact h
section
variable {prog:Program} {w:World} {A:Around} {E:Value->Shared->Prop} {s:Shared} {a:Addr} {es:Array (Int × Value)} {ep:Nat} {t:SetTable}
theorem zqm {Q:Bool->Shared->Prop} (ty:s.TypeIs (.ref a) "set") (q:Q false s):wpAny (model prog w) A (Builtin.List.listLengthHint (.ref a)) Q E s:=by
 unfold Builtin.List.listLengthHint
 refine wpAny_bind (wpAny_specialOf ty zrE ?_)
 generalize hid:("set.__len__" : String)=id0
 have h1:splitId id0=some ("set", "__len__"):=by subst hid;decide +kernel
 dsimp only
 rw[h1]
 subst hid
 refine wpAny_bind (wpAny_isInstance (b:=true) ty (by rw[isSubtype_type];kernel_rfl) ?_)
 refine zau (by simp) (zdI (by decide +kernel) (wpAny_bind (wpAny_typeOf ty ?_)))
 exact wpAny_pure q
theorem znF {Q:List Value->Shared->Prop} (hh:A.handled=none) (ty:s.TypeIs (.ref a) "set") (O:zbj s.heap a es ep t) (T:Tab (w.params.followText "set-order") t) (hz:es.size<=sizeLine)
  (hQ:∀ vs h' d' tk,vs.Perm (es.toList.map (·.2))->(∀ b o,s.heap.get? b=some o->h'.get? b=some o)->Q vs { s with heap:=h',drawn:=d',toks:=tk }):wpAny (model prog w) A (collect (.ref a)) Q E s:=by
 have alt:a<s.heap.objs.size:=ydr O.choose_spec.1
 unfold collect
 refine wpAny_bind (wpAny_runValue (codeAny_builtin PySem.F.entry_proto_collect ?_))
 rw[Around.under_plainId PySem.F.plain_proto_collect _]
 show wpAny _ A.in1 (newList [] >>= fun l=>again (.builtin "list.__iadd__" ⟨[l,.ref a],[]⟩)) _ _ s
 refine wpAny_bind (wpAny_newObj_type ?_)
 refine wpAny_pure ⟨plainId_quiet PySem.F.plain_list_iadd _,codeAny_builtin PySem.F.entry_list_iadd ?_⟩
 rw[Around.under_plainId PySem.F.plain_list_iadd _]
 show wpAny _ A.in1 (Builtin.List.listExtendWith (.ref s.heap.objs.size) (.ref a) (.ref s.heap.objs.size)) _ _ _
 have ne:Builtin.List.listSameRef (.ref s.heap.objs.size) (.ref a)=false:=by
  have:s.heap.objs.size≠a:=ydj alt
  simp[Builtin.List.listSameRef,this]
 obtain ⟨oa,hoa,hca⟩:=id ty
 have ty1:({ s with heap:=s.heap.push { cls:=.type "list", data:=.seq ([]:List Value).toArray } }:Shared).TypeIs (.ref a) "set" := ⟨oa,ydq _ hoa,hca⟩
 unfold Builtin.List.listExtendWith
 refine wpAny_bind (wpAny_typeOf ty1 ?_)
 rw[if_neg (by rw[ne];decide)]
 refine wpAny_bind (zqq (B:=A.in1) (by simp[hh]) ty1 (O.keep fun o e=>ydq _ e) T hz fun I h' d' fp P St W st0 hfp pm kp hI=>?_)
 have S1:h'.get? s.heap.objs.size=some { cls:=.type "list", data:=.seq ([]:List Value).toArray }:=kp _ _ (yds _ rfl)
 refine wpAny_bind (wpAny_holding (zqm ⟨oa,kp _ _ (ydq _ hoa),hca⟩ ?_))
 refine zdI (by decide +kernel) (wpAny_bind (wpAny_rule (wpAny_bind ?_)))
 unfold Builtin.List.listTouch
 have g1:(h'.update s.heap.objs.size (Obj.mapSeq (·.push Value.none))).get? s.heap.objs.size=some { cls:=.type "list", data:=.seq #[.none] 1 }:=ydv _ S1 rfl
 have g2:((h'.update s.heap.objs.size (Obj.mapSeq (·.push Value.none))).update s.heap.objs.size (Obj.mapSeq (·.pop))).get? s.heap.objs.size=some { cls:=.type "list", data:=.seq #[] 2 }:=ydv _ g1 rfl
 refine wpAny_bind (listUpdate_at S1 rfl (listUpdate_at g1 rfl ?_ (by decide) (by decide)) (by decide) (by decide))
 have Sf:s.heap.objs.size ∉ fp:=fun z=>by
  rcases hfp _ z with e | ⟨e,_⟩
  ·exact absurd alt (by rw[<-e];exact ydf _)
  ·rw[ydu] at e
   exact Nat.not_succ_le_self _ e
 have st1:St 0 ((h'.update s.heap.objs.size (Obj.mapSeq (·.push Value.none))).update s.heap.objs.size (Obj.mapSeq (·.pop))):=W.frame 0 h' _ st0 fun b hb o e=>by
  have nb:b≠s.heap.objs.size:=fun z=>Sf (z ▸ hb)
  exact (ydt _ _ _ _ nb).trans ((ydt _ _ _ _ nb).trans e)
 refine wpAny_pure ⟨plainId_quiet PySem.F.plain_extend_loop _,codeAny_extend_loopS W.toS hz _ Sf _ es.size 0 _ #[] 2 rfl (ydc _) st1 g2 (ItemsOf.nil P) fun s' acc c mv S' hacc=>?_⟩
 show wpAny _ A (load s.heap.objs.size >>= _) _ _ s'
 refine wpAny_bind (wpAny_load S' (wpAny_pure ?_))
 obtain ⟨h2,g',d2,tk',os'⟩:=s'
 obtain rfl:g'=s.gens:=mv.gens
 obtain rfl:os'=s.os:=mv.os
 refine hQ acc.toList h2 d2 tk' (pm acc hacc) fun b o e=>mv.heap b o ?_ ?_
 ·intro z
  have lt:=ydr e
  rcases yaj.mp z with z | z
  ·exact absurd lt (by rw[z];exact ydf _)
  ·have z':b=I:=by simpa using z
   rw[z'] at lt
   have:s.heap.objs.size+1<=I:=by rw[<-ydu];exact hI
   exact absurd (ydb lt (yde (ydk _) this)) (ydf _)
 ·have nb:b≠s.heap.objs.size:=yda (ydr e)
  exact (ydt _ _ _ _ nb).trans ((ydt _ _ _ _ nb).trans (kp b o (ydq _ e)))
end
end zac
namespace zac
theorem zoj:∀ {vs:List Value},(∀ v∈vs,∃ m t,v=.int m t)->IntsAre vs (vs.map intOf)
 | [],_=>.nil
 | v::vs,h=>by
  obtain ⟨m,t,rfl⟩:=h v (yal)
  exact .cons m t (zoj fun v hv=>h v (yak _ hv))
section
variable {prog:Program} {w:World} {A:Around} {E:Value->Shared->Prop} {s:Shared} {a:Addr} {ms:List Int}
theorem zoQ {Q:Value->Shared->Prop} (hh:A.handled=none) (S:zan prog w s.heap a ms) (h64:ms.length<64)
  (h:∀ h' d' tk (out:Array Value) ns' p n,IntsAre out.toList ns'->ns'.Perm ms->ns'.Pairwise (·<=·)->(∀ b o,s.heap.get? b=some o->h'.get? b=some o)->s.heap.get? p=none->h'.get? p=some (seqObj "list" out n)->Q (.ref p) { s with heap:=h',drawn:=d',toks:=tk }) :
  wpAny (model prog w) A (call (.builtin "sorted") [.ref a]) Q E s:=by
 obtain ⟨⟨o,es,ep,t,⟨ho,hex,hd⟩,⟨hel,hb,hf⟩,T,rfl⟩,nd⟩:=S
 have lz:es.size<64:=by simpa using h64
 refine Calls.call_function_entry kind_sorted plain_sorted entry_sorted (args_sorted1 _) ?_
 unfold Builtin.«sorted»
 refine wpAny_bind (m:=checkCount "sorted" 1 1 _) (wpAny_pure ?_)
 refine wpAny_bind (znF (by simp[hh]) ⟨o,ho,hex.1⟩ ⟨o,ho,hd,hf⟩ T (by rw[sizeLine_eq];ac_rfl) fun vs h1 d1 tk1 pm kp=>?_)
 have vi:IntsAre vs (vs.map intOf):=zoj fun v hv=>by
  obtain ⟨e,he,rfl⟩:=yae.mp (pm.mem_iff.mp hv)
  obtain ⟨⟨k,hk,_⟩,_⟩:=hel e he
  obtain ⟨t,e2⟩:=Value.isInt_shape (show Value.isInt k e.2=true from hk)
  exact ⟨k,t,e2⟩
 have vp:(vs.map intOf).Perm (es.toList.map fun e=>intOf e.2):=by
  have:=pm.map intOf
  rwa [ybv] at this
 have vl:vs.length<64:=by rw[pm.length_eq];simpa using lz
 have sl:vs.length<=sizeLine:=by rw[sizeLine_eq];ac_rfl
 refine wpAny_bind (wpAny_newList ?_ (by first | exact sl | simpa using sl))
 have g0:(h1.push (seqObj "list" vs.toArray 0)).get? h1.objs.size=some (seqObj "list" vs.toArray 0):=yds _ rfl
 have ol:s.heap.get? h1.objs.size=none:=by
  cases q:s.heap.get? h1.objs.size with
  | none=>rfl
  | some u=>exact absurd (ydr (kp _ _ q)) (ydf _)
 show wpAny _ _ _ _ _ { s with heap:=h1.push (seqObj "list" vs.toArray 0),drawn:=d1,toks:=tk1 }
 refine wpAny_bind (wpAny_holding (wpAny_call_entry slot_list_sort ⟨_,g0,rfl⟩ entry_list_sort (list_sort_tree g0 vi vl fun out ns' a1 a2 a3=>⟨_,rfl,?_⟩) (args_list_sort _)))
 obtain ⟨n,g1⟩:=sortedHeap_at (out:=out) g0
 refine wpAny_pure ⟨_,rfl,h _ _ _ out ns' h1.objs.size n a1 (a2.trans vp) a3 (fun b u e=>?_) ol g1⟩
 have e1:=kp b u e
 have lt:=ydr e1
 rw[sortedHeap_old (yda lt) (by rw[size_push'];exact ydh lt)]
 exact ydq _ e1
end
end zac
noncomputable def zj4 (P:Program) (w:World) (a:Addr) (ms:List Int):HO:=.ext fun h=>zac.zan P w h a ms
theorem zac.zan.obj {P:Program} {w:World} {h:Heap} {a:Addr} {ms:List Int} (S:zac.zan P w h a ms):∃ o,h.get? a=some o:=let ⟨⟨o,_,_,_,⟨e,_⟩,_⟩,_⟩:=S;⟨o,e⟩
section
variable {X:Cx} {pins:List (Addr × Obj)} {σ:St} {H:Hp} {s:Shared}
theorem Inv.drew (I:Inv X pins σ H s) (d:Drawn):Inv X pins σ H { s with drawn:=d }:=⟨I.ok,I.os,I.bare,I.base,I.loc,I.cell,I.free,I.freeC,I.pin,I.hok,I.len⟩
theorem zfz (hc:X.calm=true):zaN X (.type "set") (fun xs H Q=>∃ (l:Addr) (ns:List Int),xs=[.ref l]/\SqL X.K H l (ns.map V.int)/\ns.length<4000 /\
  ∀ (p:Addr) (H':Hp) (ms:List Int),H p=none->Same H H'->H' p=some (zj4 X.prog X.w p ms)->ms.Nodup->(∀ m,m∈ms↔m∈ns)->ms.length<=ns.length->Q (.ref p) H'):=by
 intro pins s σ H xs us Q I r h
 obtain ⟨l,ns,rfl,hq,hl,q⟩:=h
 obtain ⟨u,rfl,rx⟩:=vals1 r
 cases rx
 obtain ⟨its,rv,pl,hz⟩:=I.list hq
 have len:its.length=ns.length:=by rw[<-rv.length,yab]
 refine zac.znV (I.ok.hd hc) pl.isList (by simpa using zdj rv) (by show its.toArray.size+1<4096;simp;ac_rfl) fun h' tk ms S mm lm kp=>?_
 have k:∀ b o,s.heap.get? b=some o->h'.get? b=some o:=fun b o e=>kp b o (ydr e) e
 refine ⟨.ref s.heap.objs.size,_,I.laid (o:=zj4 X.prog X.w s.heap.objs.size ms) k (ycz _) ⟨S,S.obj,fun h1 h2 p e=>p.keep e⟩,rfl,q _ _ ms (I.hok.fresh (ycz _)) (zb (I.hok.fresh (ycz _)) _) zf S.nd mm lm⟩
theorem zia (hc:X.calm=true) (hex:X.ex=[]:=by rfl):zaN X (.builtin "sorted") (fun xs H Q=>∃ (p:Addr) (ms:List Int),xs=[.ref p]/\H p=some (zj4 X.prog X.w p ms)/\ms.length<64 /\
  ∀ (l:Addr) (H':Hp) (ns:List Int),H l=none->Same H H'->H' l=some (.lst (ns.map V.int))->ns.Perm ms->ns.Pairwise (·<=·)->Q (.ref l) H'):=by
 intro pins s σ H xs us Q I r h
 obtain ⟨p,ms,rfl,hp,hl,q⟩:=h
 obtain ⟨u,rfl,rx⟩:=vals1 r
 cases rx
 refine zac.zoQ (I.ok.hd hc) (I.hok p _ hp).1 hl fun h' d' tk out ns l n a1 a2 a3 kp new at_=>?_
 have vl:Vals (ns.map V.int) out.toList:=zhT a1
 have nl:(ns.map V.int).length<=sizeLine:=by rw[yab,a2.length_eq,sizeLine_eq];ac_rfl
 have I1:Inv X pins σ (upd H l (.lst (ns.map V.int))) { s with heap:=h',toks:=tk }:=I.zma kp new hex ⟨nl,out.toList,n,vl,by simpa [seqObj] using at_⟩
 exact ⟨.ref l,_,I1.drew d',rfl,q l _ ns (I.hok.gone new) (zb (I.hok.gone new) _) zf a2 a3⟩
end
theorem zp8 {ns ms:List Int} (p:ns.Perm ms) (nd:ms.Nodup) (o:ns.Pairwise (·<=·)):ns.Pairwise (·<·):=by
 have n:=p.nodup_iff.mpr nd
 refine (o.and n).imp fun {a b} h=>?_
 have:=h.1
 have:=h.2
 ac_rfl
section
variable {X:Cx} {pins:List (Addr × Obj)} {σ:St} {H:Hp} {s:Shared} {h':Heap}
theorem Inv.turns {t':Nat} {ch:List Addr} (I:Inv X pins σ H s) (k:∀ b o,b ∉ ch->s.heap.get? b=some o->h'.get? b=some o) (hf:∀ b∈ch,zbQ X pins H b):Inv X pins σ H { s with heap:=h',toks:=t' }:=by
 have nit:∀ b u,H b=some u->b ∉ ch:=fun b u e z=>by rw[(hf b z).1] at e;cases e
 have nL:X.env.locals ∉ ch:=fun z=>(hf _ z).2.1 rfl
 refine I.step (g':=s.gens) (d':=s.drawn) (ch:=ch) (fun b hb=>⟨(hf b hb).2.2.2.1,(hf b hb).2.1,(hf b hb).2.2.2.2.1,(hf b hb).2.2.2.2.2⟩) (fun b o _ _ hc e _=>k b o hc e) (fun b o _ _ hc e _=>⟨o.slots,k b o hc e⟩) (fun _ _ _ _ n=>n)
  (fun b o hc e=>⟨o,k b o hc e⟩) (fun _ _ e=>e) (fun _ _ _ e=>e) (fun b ps e=>⟨#[],by rw[e];simp⟩) (fun m hm=>?_) (fun b u e=>?_) I.bare
 ·obtain ⟨o,es,ep,ho,r⟩:=hm
  exact ⟨o,es,ep,k _ o nL ho,r⟩
 ·refine (I.hok b u e).stay (fun c v hc q=>k c v ?_ q) (fun _ q=>q) fun _ _ q=>q
  rcases hc with z | z
  ·rw[z];exact nit b u e
  ·exact nit c _ z
end
noncomputable def Itz (K:W.Frag) (a b:Addr):It :=
 ⟨fun i H=>∃ xs ys x y,SqL K H a xs/\SqL K H b ys/\xs[i]?=some x/\ys[i]?=some y,
  fun i H v H'=>∃ p,v=.ref p/\H p=none/\∀ xs ys x y,SqL K H a xs->SqL K H b ys->xs[i]?=some x->ys[i]?=some y->H'=upd H p (.tup [x,y]),
  fun i H=>∃ xs ys,SqL K H a xs/\SqL K H b ys/\(xs.length<=i\/ys.length<=i)⟩
def ztl (z ti to i1 i2 l1 l2:Addr) (i:Nat) (h:Heap):Prop:=((IsZip h z ti to .none/\IsPair h ti (.ref i1) (.ref i2))/\∃ a b,IsPair h to a b)/\h.IsListIter i1 l1 i/\h.IsListIter i2 l2 i
theorem zrc {P:Program} {w:World} {K:W.Frag} {elts:List Expr} {kk:Nat} {tpos:Pos} {z ti to i1 i2 a b:Addr} (D:ZipApart z ti to i1 i2 a b) (nn:to≠z) :
  Turn P w K (.Tuple elts kk tpos) (Itz K a b) [z,ti,to,i1,i2] z (ztl z ti to i1 i2 a b) where
 mem:=by simp
 obj:=fun i h st c hc=>by
  obtain ⟨⟨⟨hz,hti⟩,_,_,hto⟩,⟨o1,g1,_,d1⟩,⟨o2,g2,_,d2⟩⟩:=st
  simp only[yaj,ybh,or_false] at hc
  rcases hc with rfl | rfl | rfl | rfl | rfl
  ·exact ⟨_,hz,fun v q=>by cases q⟩
  ·exact ⟨_,hti,fun v q=>by cases q⟩
  ·exact ⟨_,hto,fun v q=>by cases q⟩
  ·exact ⟨_,g1,fun v q=>by rw[d1] at q;cases q⟩
  ·exact ⟨_,g2,fun v q=>by rw[d2] at q;cases q⟩
 keep:=fun i h h' st k=>by
  obtain ⟨⟨⟨hz,hti⟩,u,v,hto⟩,g1,g2⟩:=st
  exact ⟨⟨⟨k z (by simp) _ hz,k ti (by simp) _ hti⟩,u,v,k to (by simp) _ hto⟩,g1.at fun o e=>k i1 (by simp) o e,g2.at fun o e=>k i2 (by simp) o e⟩
 item:=by
  intro X hP hw hK hc i pins s σ H E I hf st hg
  subst hP hw hK
  obtain ⟨xs,ys,x,y,qx,qy,ex,ey⟩:=hg
  obtain ⟨⟨⟨hz,hti⟩,u0,v0,hto⟩,g1,g2⟩:=st
  obtain ⟨its,rv,p,_⟩:=I.list qx
  obtain ⟨jts,rw_,q,_⟩:=I.list qy
  obtain ⟨u,hu,ru⟩:=rv.get ex
  obtain ⟨v,hv,rvv⟩:=rw_.get ey
  refine wpAny_pyNext_zip_item D hz hti hto g1 g2 p.isList q.isList (x:=u) (y:=v) (by simpa using hu) (by simpa using hv) fun h1 z1 t1 a1 a2 n1 sz1 kp1=>⟨_,rfl,?_⟩
  refine wpAny_letOwnedTupleGo_zip (s:={ s with heap:=h1 }) z1 fun h2 z2 sb=>?_
  have fr:s.heap.get? s.heap.objs.size=none:=ydw (ycz _)
  have zlt:z<s.heap.objs.size:=ydr hz
  have nz:s.heap.objs.size≠z:=ydj zlt
  have kp:∀ c o,c ∉ [z,ti,to,i1,i2]->s.heap.get? c=some o->h2.get? c=some o:=fun c o nc e=>by
   simp only[yaj,ybh,or_false,not_or] at nc
   exact (sb.2 c nc.1).trans (kp1 c o nc.1 nc.2.2.1 nc.2.2.2.1 nc.2.2.2.2 e)
  have I1:Inv X pins σ H { s with heap:=h2,toks:=s.toks }:=I.turns kp hf
  have f:=I.zkr (H':=H) (b:=s.heap.objs.size) (ycz _) (I.hok.fresh (ycz _))
  have np:IsPair h2 s.heap.objs.size u v:=(sb.2 _ nz).trans n1
  have I2:Inv X pins σ (upd H s.heap.objs.size (.tup [x,y])) { s with heap:=h2,toks:=s.toks } :=
   I1.track (o:=.tup [x,y]) f.1 (ydw I.sz) f.2.1 f.2.2.2.2.1 f.2.2.2.2.2 ⟨by show 2<=sizeLine;rw[sizeLine_eq];ac_rfl,[u,v],.cons ru (.cons rvv .nil),⟨_,np,rfl,0,rfl⟩⟩
  refine ⟨.ref s.heap.objs.size,_,I2,rfl,⟨_,rfl,f.1,fun xs' ys' x' y' qx' qy' ex' ey'=>?_⟩,⟨⟨⟨z2,?_⟩,u,v,(sb.2 to nn).trans t1⟩,a1.at fun o e=>(sb.2 i1 D.i1z).trans e,a2.at fun o e=>(sb.2 i2 D.i2z).trans e⟩,fun c hc'=>?_⟩
  ·obtain rfl:=I.zi5 qx' qx
   obtain rfl:=I.zi5 qy' qy
   rw[ex] at ex'
   rw[ey] at ey'
   cases ex'
   cases ey'
   rfl
  ·exact (sb.2 ti D.TIz).trans (kp1 ti _ D.TIz D.TITO D.TIi1 D.TIi2 hti)
  ·have nc:c≠s.heap.objs.size:=fun e=>by
    have lt:c<s.heap.objs.size:=by
     obtain ⟨o1,gg1,_⟩:=g1
     obtain ⟨o2,gg2,_⟩:=g2
     simp only[yaj,ybh,or_false] at hc'
     rcases hc' with rfl | rfl | rfl | rfl | rfl
     ·exact zlt
     ·exact ydr hti
     ·exact ydr hto
     ·exact ydr gg1
     ·exact ydr gg2
    rw[e] at lt
    exact ydf _ lt
   rw[zt nc]
   exact (hf c hc').1
 done:=by
  intro X hP hw hK hc i pins s σ H E I hf st hg
  subst hP hw hK
  obtain ⟨xs,ys,qx,qy,en⟩:=hg
  obtain ⟨⟨⟨hz,hti⟩,u0,v0,hto⟩,g1,g2⟩:=st
  obtain ⟨its,rv,p,_⟩:=I.list qx
  obtain ⟨jts,rw_,q,_⟩:=I.list qy
  have l1:=rv.length
  have l2:=rw_.length
  refine wpAny_pyNext_zip_end (I.ok.hd hc) D hz hti hto g1 g2 p.isList q.isList (en.imp (fun e=>by simp;ac_rfl) fun e=>by simp;ac_rfl) fun h1 kp1=>⟨rfl,I.turns (t':=s.toks) (fun c o nc e=>?_) hf⟩
  simp only[yaj,ybh,or_false,not_or] at nc
  exact kp1 c o nc.1 nc.2.2.1 nc.2.2.2.1 nc.2.2.2.2 e
 self:=fun _ _ _ _ _ st h=>wpAny_pyIter_zip st.1.1.1 h
def ztR (K:W.Frag) (ta:TA):TI:=fun σ H R=>ta σ H fun vs H1=>∃ a b,vs=[.ref a,.ref b]/\(∃ xs,SqL K H1 a xs)/\(∃ ys,SqL K H1 b ys)/\R (Itz K a b) H1
theorem zr6 {X:Cx} {elts:List Expr} {kk:Nat} {tpos:Pos} {e1 e2:Expr} {ta:TA} {p pos:Pos} (hg:Gl X "zip") (hm:X.mg "zip" = none) (ha:PA X [e1,e2] ta) (hs:starEach [e1,e2] X.env=[(false,eval e1 X.env),(false,eval e2 X.env)]:=by rfl) (hs2:starEach [e2] X.env=[(false,eval e2 X.env)]:=by rfl) :
  PI X (.Tuple elts kk tpos) (.Call (.Name "zip" p) [e1,e2] [] pos) (ztR X.K ta):=by
 intro pins s σ H R I h
 refine Call_ (zgD I hg hm boot_zip (PyProof.Rows.callWith_type1 (thn (ha pos pins s σ H _ I h) fun us s1 ⟨vs,H1,I1,r1,q1⟩=>?_) (by rw[hs,hs2]) (by rw[hs2];rfl)))
 obtain ⟨a,b,e,⟨xs,qx⟩,⟨ys,qy⟩,q⟩:=q1
 subst e
 obtain ⟨u,v,rfl,ru,rv⟩:=vals2 r1
 cases ru
 cases rv
 obtain ⟨its,_,pa,_⟩:=I1.list qx
 obtain ⟨jts,_,pb,_⟩:=I1.list qy
 have la:a<s1.heap.objs.size:=by obtain ⟨_,e,_⟩:=pa.isList;exact ydr e
 have lb:b<s1.heap.objs.size:=by obtain ⟨_,e,_⟩:=pb.isList;exact ydr e
 refine call_zip_2 pa.isList pb.isList fun h' hz hti hto g1 g2 sz kp=>wpAny_pyIter_zip (s:={ s1 with heap:=h' }) hz ?_
 refine ⟨_,_,_,_,H1,rfl,I1.kept (t':=s1.toks) kp,zrc (zipApart_new la lb) (zipApart_new la lb).TOz,⟨⟨⟨hz,hti⟩,_,_,hto⟩,g1,g2⟩,fun c hc=>?_,q⟩
 refine I1.zkr ?_ (I1.hok.fresh ?_) <;>
 ·simp only[yaj,ybh,or_false] at hc
  rcases hc with rfl | rfl | rfl | rfl | rfl <;> first | exact ycz _ | exact Nat.le_add_right _ _
theorem zr0 {K:W.Frag} {a b:Addr} {xs ys:List V} {g:TG} {tb:TS} {D:Ends} {σ:St} {H:Hp} (Pv:Nat->St->Hp->Prop) (h0:Pv 0 σ H) (hl:∀ i σ H,i<=xs.length->i<=ys.length->Pv i σ H->SqL K H a xs/\SqL K H b ys)
  (hs:∀ i x y σ H p,xs[i]?=some x->ys[i]?=some y->Pv i σ H->H p=none->g (.ref p) σ (upd H p (.tup [x,y])) fun σ2 H2=>tb { D with nx:=Pv (i+1),ct:=Pv (i+1),bk:=D.nx } σ2 H2)
  (hd:∀ i σ H,i<=xs.length->i<=ys.length->(i=xs.length\/i=ys.length)->Pv i σ H->D.nx σ H) :
  ∃ W:Nat->Nat->St->Hp->Prop,(∃ m,W 0 m σ H)/\∀ i m σ H,W i m σ H ->
   ((Itz K a b).stop i H/\D.nx σ H)\/((Itz K a b).go i H/\∃ N:St->Hp->Prop,(∀ σ' H',N σ' H'->∃ m',m'<m/\W (i+1) m' σ' H')/\∀ x H',(Itz K a b).yld i H x H'->g x σ H' fun σ2 H2=>tb { D with nx:=N,ct:=N,bk:=D.nx } σ2 H2):=by
 refine ⟨fun i m σ H=>m=xs.length-i/\(i<=xs.length/\i<=ys.length)/\Pv i σ H,⟨xs.length,by simp,⟨ydc _,ydc _⟩,h0⟩,?_⟩
 rintro i m σ H ⟨rfl,⟨hi,hj⟩,p⟩
 obtain ⟨qx,qy⟩:=hl i σ H hi hj p
 by_cases hlt:i<xs.length/\i<ys.length
 ·have ex:xs[i]?=some xs[i]:=yaa hlt.1
  have ey:ys[i]?=some ys[i]:=yaa hlt.2
  refine .inr ⟨⟨xs,ys,_,_,qx,qy,ex,ey⟩,Pv (i+1),fun σ' H' p'=>⟨xs.length-(i+1),by ac_rfl,rfl,⟨hlt.1,hlt.2⟩,p'⟩,fun v H' y=>?_⟩
  obtain ⟨q,rfl,hn,y⟩:=y
  rw[y xs ys _ _ qx qy ex ey]
  exact hs i _ _ σ H q ex ey p hn
 ·exact .inl ⟨⟨xs,ys,qx,qy,by ac_rfl⟩,hd i σ H hi hj (by ac_rfl) p⟩
theorem zhY {K:W.Frag} {ix:List Nat} {te:TE} {σ:St} {a l:Addr} {xs:List V} {H:Hp} {R:Hp->Prop} (P:Nat->V->Prop) (ha:SqL K H a xs) (hl:H l=none) (hz:xs.length<=sizeLine)
  (hel:∀ i x H' Q',xs[i]?=some x->Same H H'->(∀ v,P i v->Q' v H')->te (some x::capts σ ix) H' Q') (fin:∀ ys:List V,ys.length=xs.length->(∀ j v,ys[j]?=some v->P j v)->R (upd H l (.lst ys))) :
  ∃ W:Nat->Nat->List V->Hp->Prop,(∃ m,W 0 m [] (upd H l (.lst [])))/\Turns ix te σ (Itl K a) l R W:=by
 refine ⟨fun i m ys H'=>m=xs.length-i/\i<=xs.length/\ys.length=i/\(∀ j v,ys[j]?=some v->P j v)/\H'=upd H l (.lst ys),⟨xs.length,by simp,ydc _,rfl,(fun j v e=>by simp at e),rfl⟩,?_⟩
 rintro i m ys H' ⟨rfl,hi,hx,hp,rfl⟩
 have hT:SqL K (upd H l (.lst ys)) a xs:=(zb hl _).seq ha
 refine ⟨zf,?_⟩
 by_cases hlt:i<xs.length
 ·have ex:xs[i]?=some xs[i]:=yaa hlt
  refine .inr ⟨⟨xs,_,hT,ex⟩,by ac_rfl,fun x H2 y=>?_⟩
  obtain ⟨e,y⟩:=y
  subst e
  have e2:=y xs hT
  refine hel i x _ _ e2 (zb hl _) fun v hv=>⟨zf,xs.length-(i+1),by ac_rfl,rfl,hlt,by rw[yac,hx];rfl,fun j w e=>?_,by rw[zaA]⟩
  by_cases hj:j<ys.length
  ·rw[ybq hj] at e
   exact hp j w e
  ·by_cases hj2:j=ys.length
   ·subst hj2
    rw[ybo (ycz _),ydo] at e
    cases e
    rw[hx]
    exact hv
   ·rw[yap (by rw[yac,ybs];ac_rfl)] at e
    cases e
 ·exact .inl ⟨⟨xs,hT,by ac_rfl⟩,fin ys (by ac_rfl) hp⟩
theorem zaR {X:Cx} (K:W.Frag) (h:X.K=K:=by rfl):IxR X (zsF K):=by subst h;exact zO
theorem zmo {X:Cx} (K:W.Frag) (h:X.K=K:=by rfl):IxR X (zsy K):=by subst h;exact zC
inductive zu (K:W.Frag) (H:Hp):List V->List (Int × Int)->Prop
 | nil:zu K H [] []
 | cons {p:Addr} {s:Int × Int} {xs:List V} {l:List (Int × Int)}:H p=some (.tup [.int s.1,.int s.2])->zu K H xs l->zu K H (.ref p::xs) (s::l)
section
variable {K:W.Frag} {H H':Hp} {xs ys zs:List V} {l:List (Int × Int)} {p:Addr} {s:Int × Int}
theorem zu.get (r:zu K H xs l):∀ {i:Nat} {x:V},xs[i]?=some x->∃ p s,x=.ref p/\l[i]?=some s/\H p=some (.tup [.int s.1,.int s.2]):=by
 induction r with
 | nil=>intro i x e;simp at e
 | cons h _ ih =>
  intro i x e
  cases i with
  | zero=>cases e;exact ⟨_,_,rfl,rfl,h⟩
  | succ i=>exact ih e
theorem zu.length (r:zu K H xs l):xs.length=l.length:=by
 induction r with
 | nil=>rfl
 | cons _ _ ih=>simp[ih]
theorem zu.same (r:zu K H xs l) (s:Same H H'):zu K H' xs l:=by
 induction r with
 | nil=>exact .nil
 | cons h _ ih=>exact .cons (s _ _ h) ih
theorem zu.put (r:zu K H xs l) (hp:H p=some (.lst ys)):zu K (upd H p (.lst zs)) xs l:=by
 induction r with
 | nil=>exact .nil
 | cons h _ ih=>exact .cons (by rw[zt (za6 h hp (by intro z;cases z))];exact h) ih
theorem zu.push (r:zu K H xs l) (h:H p=some (.tup [.int s.1,.int s.2])):zu K H (xs++[.ref p]) (l++[s]):=by
 induction r with
 | nil=>exact .cons h .nil
 | cons h' _ ih=>exact .cons h' ih
noncomputable def zfS (s:Int × Int):PyData:=.tuple [.int s.1,.int s.2]
theorem zu.rd (r:zu K H xs l):zbr K H xs (l.map zfS):=by
 induction r with
 | nil=>exact .nil
 | cons h _ ih=>exact .cons (.tup (SqT.of h) (.cons (.int _) (.cons (.int _) .nil))) ih
end
theorem ziV:∀ l:List (Int × Int),PyData.canLayAll0 (l.map zfS)=true
 | []=>by simp[PyData.canLayAll0]
 | s::l=>by simp[PyData.canLayAll0,PyData.canLay0,zfS,ziV l]
theorem zjy:∀ l:List (Int × Int),PyData.depthAll (l.map zfS)<=1
 | []=>by simp[PyData.depthAll]
 | s::l=>by
  have:=zjy l
  simp[PyData.depthAll,PyData.depth,zfS]
  ac_rfl
theorem ziT (l:List (Int × Int)):SeqAt.shaped (.list (l.map zfS))=true:=by
 have:=zjy l
 simp[SeqAt.shaped,PyData.canLay0,PyData.depth,ziV]
 ac_rfl
theorem zj8 {ys:List V} {ns:List Int} (h:ys.length=ns.length) (p:∀ j v,ys[j]?=some v->v=V.int (ns.getD j 0)):ys=ns.map V.int:=by
 apply ybt
 intro j
 rw[yag]
 by_cases hj:j<ys.length
 ·have e:=yaa (l:=ys) hj
  rw[e,p j _ e,yaa (by ac_rfl:j<ns.length)]
  simp[show j<ns.length by ac_rfl]
 ·rw[yap (by ac_rfl),yap (by ac_rfl)]
  rfl
structure zh7 (J:It) (H:Hp) (xs:List V):Prop where
 go:∀ i H',Same H H'->i<xs.length->J.go i H'
 yld:∀ i H' x H2,Same H H'->J.yld i H' x H2->H2=H'/\xs[i]?=some x
 stop:∀ i H',Same H H'->xs.length<=i->J.stop i H'
theorem zap {K:W.Frag} {H:Hp} {a:Addr} {xs:List V} (h:SqL K H a xs):zh7 (Itl K a) H xs :=
 ⟨fun i H' s hi=>⟨xs,_,s.seq h,yaa hi⟩,fun i H' x H2 s y=>⟨y.1,y.2 xs (s.seq h)⟩,fun i H' s hi=>⟨xs,s.seq h,hi⟩⟩
theorem zl0 {J:It} {ix:List Nat} {te:TE} {σ:St} {l:Addr} {xs:List V} {H:Hp} {R:Hp->Prop} (Y:zh7 J H xs) (hl:H l=none) (hz:xs.length<=sizeLine) (P:Nat->V->Hp->Prop)
  (mono:∀ i v H1 H2,Same H1 H2->P i v H1->P i v H2) (put:∀ i v H1 ys zs,H1 l=some (.lst ys)->P i v H1->P i v (upd H1 l (.lst zs)))
  (hel:∀ i x H' Q',xs[i]?=some x->Same H H'->(∀ v H2,Same H' H2->P i v H2->Q' v H2)->te (some x::capts σ ix) H' Q')
  (fin:∀ ys H',Same H H'->H' l=some (.lst ys)->ys.length=xs.length->(∀ j v,ys[j]?=some v->P j v H')->R H') :
  ∃ W:Nat->Nat->List V->Hp->Prop,(∃ m,W 0 m [] (upd H l (.lst [])))/\Turns ix te σ J l R W:=by
 refine ⟨fun i m ys H'=>m=xs.length-i/\i<=xs.length/\ys.length=i/\(∀ j v,ys[j]?=some v->P j v H')/\Same H H'/\H' l=some (.lst ys),⟨xs.length,by simp,ydc _,rfl,(fun j v e=>by simp at e),zb hl _,zf⟩,?_⟩
 rintro i m ys H' ⟨rfl,hi,hx,hp,sH,hL⟩
 refine ⟨hL,?_⟩
 by_cases hlt:i<xs.length
 ·refine .inr ⟨Y.go i H' sH hlt,by ac_rfl,fun x H2 y=>?_⟩
  obtain ⟨rfl,e2⟩:=Y.yld i H' x H2 sH y
  refine hel i x _ _ e2 sH fun v H3 s3 hv=>⟨s3 _ _ hL,xs.length-(i+1),by ac_rfl,rfl,hlt,by rw[yac,hx];rfl,fun j w e=>?_,zM (sH.trans s3) hl,zf⟩
  by_cases hj:j<ys.length
  ·rw[ybq hj] at e
   exact put _ _ _ _ _ (s3 _ _ hL) (mono _ _ _ _ s3 (hp j w e))
  ·by_cases hj2:j=ys.length
   ·subst hj2
    rw[ybo (ycz _),ydo] at e
    cases e
    rw[hx]
    exact put _ _ _ _ _ (s3 _ _ hL) hv
   ·rw[yap (by rw[yac,ybs];ac_rfl)] at e
    cases e
 ·exact .inl ⟨Y.stop i H' sH (by ac_rfl),fin ys H' sH hL (by ac_rfl) hp⟩
theorem zpK {J:It} {ix:List Nat} {tt:TT} {te:TE} {σ:St} {l:Addr} {xs:List V} {H:Hp} {R:Hp->Prop} (Y:zh7 J H xs) (hl:H l=none) (hz:xs.length<=sizeLine) (pk:List (Bool × V)) (len:pk.length=xs.length)
  (ht:∀ (i:Nat) x b v H' Q',xs[i]?=some x->pk[i]?=some (b,v)->Same H H'->Q' b H'->tt (some x::capts σ ix) H' Q')
  (he:∀ (i:Nat) x b v H' Q',xs[i]?=some x->pk[i]?=some (b,v)->Same H H'->Q' v H'->te (some x::capts σ ix) H' Q')
  (fin:R (upd H l (.lst ((pk.filter (·.1)).map (·.2))))) :
  ∃ W:Nat->Nat->List V->Hp->Prop,(∃ m,W 0 m [] (upd H l (.lst [])))/\zgn ix tt te σ J l R W:=by
 refine ⟨fun i m ys H'=>m=xs.length-i/\i<=xs.length/\ys=((pk.take i).filter (·.1)).map (·.2)/\H'=upd H l (.lst ys),⟨xs.length,by simp,ydc _,rfl,rfl⟩,?_⟩
 rintro i m ys H' ⟨rfl,hi,hy,rfl⟩
 refine ⟨zf,?_⟩
 by_cases hlt:i<xs.length
 ·have yl:ys.length<=i:=by
   rw[hy,yab]
   exact yde (ybb _ _) (by rw[yao];ac_rfl)
  have eP:pk[i]?=some (pk[i]'(by ac_rfl)):=yaa (by ac_rfl)
  generalize pk[i]'(by ac_rfl)=bv at eP
  obtain ⟨b,v⟩:=bv
  have tk:pk.take (i+1)=pk.take i++[(b,v)]:=by rw[ybi,eP];rfl
  refine .inr ⟨Y.go i _ (zb hl _) hlt,by ac_rfl,fun x H2 y=>?_⟩
  obtain ⟨rfl,e2⟩:=Y.yld i _ x H2 (zb hl _) y
  refine ht i x b v _ _ e2 eP (zb hl _) ?_
  cases b with
  | true =>
   rw[if_pos rfl]
   refine he i x _ v _ _ e2 eP (zb hl _) ⟨zf,xs.length-(i+1),by ac_rfl,rfl,hlt,?_,by rw[zaA]⟩
   rw[tk,ybk,yat,<-hy]
   rfl
  | false =>
   rw[if_neg Bool.false_ne_true]
   refine ⟨xs.length-(i+1),by ac_rfl,rfl,hlt,?_,rfl⟩
   rw[tk,ybk,yat,<-hy]
   simp
 ·rw[yas (by ac_rfl)] at hy
  subst hy
  exact .inl ⟨Y.stop i _ (zb hl _) (by ac_rfl),fin⟩
theorem zp0 {α:Type} (l:List α) (p:α->Bool) (f:α->Int):(((l.map fun x=>(p x,V.int (f x))).filter (·.1)).map (·.2))=((l.filter p).map f).map V.int:=by
 induction l with
 | nil=>rfl
 | cons a l ih =>
  rw[ybf,yct,yct]
  cases h:p a with
  | true=>simp only[h,if_true,ybf,ih]
  | false=>simp only[h,Bool.false_eq_true,if_false,ih]
theorem zn5 (n d k:Nat):HT.sIx n d (some (k:Int))=min k n:=by
 show (if (k:Int)<0 then ((k:Int)+(n:Int)).toNat else min (k:Int).toNat n)=min k n
 rw[if_neg (by ac_rfl)]
 rfl
theorem zeF (xs:List V) (k:Nat):zh3 xs (some (k:Int)) none=xs.drop k:=by
 unfold zh3
 rw[zn5,show HT.sIx xs.length xs.length none=xs.length from rfl]
 by_cases h:k<=xs.length
 ·rw[Nat.min_eq_left h,yas (by rw[yay];exact ycz _)]
 ·rw[Nat.min_eq_right (by ac_rfl),List.drop_of_length_le (ycz _),List.drop_of_length_le (by ac_rfl),List.take_nil]
theorem zeJ (xs:List V) (k:Nat):zh3 xs none (some (k:Int))=xs.take k:=by
 unfold zh3
 rw[zn5,show HT.sIx xs.length 0 none=0 from rfl,List.drop_zero,Nat.sub_zero]
 by_cases h:k<=xs.length
 ·rw[Nat.min_eq_left h]
 ·rw[Nat.min_eq_right (by ac_rfl),yas (ycz _),yas (by ac_rfl)]
theorem zkC {K:W.Frag} {H:Hp}:∀ {ys:List V} {l:List (Int × Int)},ys.length=l.length->(∀ (j:Nat) v s,ys[j]?=some v->l[j]?=some s->∃ p,v=.ref p/\H p=some (.tup [.int s.1,.int s.2]))->zu K H ys l
 | [],[],_,_=>.nil
 | y::ys,s::l,e,h=>by
  obtain ⟨p,rfl,hp⟩:=h 0 y s rfl rfl
  exact .cons hp (zkC (by simpa using e) fun j v u h1 h2=>h (j+1) v u h1 h2)
 | [],_::_,e,_=>by simp at e
 | _::_,[],e,_=>by simp at e
end L2
namespace L2
open PySem
end L2
namespace L2
open PySem PySem.Spec PyProof.Rows
section
variable {X:Cx} {pins:List (Addr × Obj)} {σ:St} {H:Hp} {s:Shared} {sc:Scope} {x:Str} {ix:List Nat} {fp:List Addr} {elt iter c:Expr} {te:TE} {tt:TT} {wi:TI} {px pos:Pos}
theorem zhG {y:Str} {i:Nat} {py spos:Pos} (hN:X.N.Nodup) (hiy:X.N[i]?=some y) (hy:X.env.scope.names.lookup y=some .local) (O:zd0 X sc x ix) (hi:PI X (.Name x px) iter wi) (htt:∀ b,PT (X.block sc x ix b) c tt) (hel:∀ b,PE (X.block sc x ix b) elt te)
  (hc:X.calm=true:=by rfl) (hs:∀ v,foldedSetIterable iter X.env v=pure v:=by intro _;rfl) (hsw:swapsWith (.ListComp elt [⟨.Name x px,iter,[c],0⟩] sc pos) (some (.Name y py)) spos.line X.env=pure true:=by rfl) :
  PS X (.Assign [.Name y py] (.ListComp elt [⟨.Name x px,iter,[c],0⟩] sc pos) spos) (zoZ (zn1 ix wi tt te) (zfx i)):=by
 intro pins s σ H D I h
 rw[exec_Assign_Name_used _ _ _ _ hsw]
 refine wpAny_bind (wpAny_standAt (wpAny_bind ?_))
 show wpAny _ X.A (do let _ <-comprehension (.ListComp elt [⟨.Name x px,iter,[c],0⟩] sc pos) sc X.env _ (newList []) false (eval iter X.env) (some (assign (.Name y py) X.env))) _ _ s
 refine wpAny_bind (wpAny_mono (wpAny_comprehension_free (use:=some (assign (.Name y py) X.env)) (Q:=fun _ s'=>SP X pins D .next s') rfl hs O.clos O.kind O.names
  (thn (hi pins s σ H _ I h) fun xv s1 h1=>thn h1 fun itv s2 h2=>?_)) (fun _ s' hq=>wpAny_pure (wpAny_pure hq)) fun _ _ e=>e)
 obtain ⟨it,fp,tn,J,H2,e,I2,T,st2,f2,hq⟩:=h2
 subst e
 refine ziQ O htt hel hc I2 T st2 f2 (fun l H'=>D.nx (σ.set i (some (.ref l))) H') hq ?_
 intro l C m s' H' I' hn hf r
 obtain ⟨o,es,ep,ho,hd,hr⟩:=id hn
 have Ip:=I'.addpin ho hf.1 hf.2.1 hf.2.2.1 (by intro v z;rw[hd] at z;cases z)
 refine thn ((zF (i:=i) hN hiy (Or.inl hy) (Or.inr hy):PG X (.Name y py) (zfx i)) _ s' σ H' (.ref l) (.ref l) (fun σ' H''=>σ'=σ.set i (some (.ref l))/\H''=H') Ip rfl ⟨rfl,rfl⟩) fun _ s'' ⟨σ'',H'',I'',e1,e2⟩=>?_
 subst e1 e2
 have pc:=(I''.pin (C,o) (yai _ (yai _ yal))).1
 refine ⟨m,⟨o,es,ep,pc,hd,hr⟩,fun h' hb=>⟨_,_,?_,r⟩⟩
 exact I''.unpinned.turned (t':=s''.toks) (fun b o hne e=>hb.extBut b o hne e) hf.1 hf.2.1 hf.2.2.2.1 hf.2.2.2.2.1 hf.2.2.2.2.2
end
structure Mk0 (K:W.Frag) (C:Addr):Prop where
 makes:PySem.W.makesIn K C=true
 init:PySem.W.findIn K (.ref C) "__init__" = some (some (.builtin "object.__init__"))
 kp:PySem.W.keepIn K (.ref C)=true
def ztd (C:Addr):TE:=fun _ H Q=>∀ x dx,H x=none->H dx=none->dx≠x->Q (.ref x) (upd (upd H dx (.own x)) x (.ins C dx []))
section
variable {X:Cx} {C:Addr} {x m:Str} {p pos apos:Pos} {e o:Expr} {es:List Expr} {ta:TE} {t:TA} {j k:Nat} {ps:List Str}
theorem ziE (M:Mk0 X.K C) (hm:X.mg x=some (.ref C)) (hg:Gl X x:=by rfl) (hdb:(x == ("__debug__" : Str))=false:=by decide):PE X (.Call (.Name x p) [] [] pos) (ztd C):=by
 intro pins s σ H Q I h
 refine wpAny_Call_Name_kw (ziD I hg hm ?_ hdb)
 refine PySem.W.callWith_K0 I.kIn M.kp ?_
 have hq:=h (s.heap.objs.size+1) s.heap.objs.size (I.hok.fresh (ydk _)) (I.hok.fresh (ycz _)) (yda (ydg _))
 have I2:=Inv.made (C:=C) I
 have Y:=PySem.W.makes_of (M:=model X.prog X.w) I.kIn M.makes
 have e2:((s.heap.push PySem.W.emptyDict).push (PySem.W.instObj C s.heap.objs.size)).get? (s.heap.objs.size+1)=some (PySem.W.instObj C s.heap.objs.size):=by
  have:=yds (s.heap.push PySem.W.emptyDict) (o:=PySem.W.instObj C s.heap.objs.size) rfl
  rwa [ydu] at this
 refine wpAny_call (zpg I.kIn M.makes M.init (fun self=>PySem.W.Looks.of_pure (PySem.W.oi_bind self)) ?_)
 have t1:PySem.W.Looks (model X.prog X.w) ((s.heap.push PySem.W.emptyDict).push (PySem.W.instObj C s.heap.objs.size)) (typeOf (.ref (s.heap.objs.size+1))) (.ref C):=(PySem.W.Looks.ld e2).andThen .now
 have t2:PySem.W.Looks (model X.prog X.w) ((s.heap.push PySem.W.emptyDict).push (PySem.W.instObj C s.heap.objs.size)) (isInstance (.ref (s.heap.objs.size+1)) (.type "object")) true:=t1.andThen (Y.top.keeps fun b o e=>ydq _ (ydq _ e))
 refine codeAny_call_builtin PySem.W.oi_plain PySem.W.entry_oi (@PySem.W.check_slot (model X.prog X.w) _ _ _ "object.__init__" "object" "__init__" (.ref (s.heap.objs.size+1)) [] [] _ PySem.W.oi_kind PySem.W.oi_split t2 (PySem.W.oi_args (.ref (s.heap.objs.size+1))) ?_)
 rw[PySem.W.oi_run]
 exact wpAny_pure (And.intro rfl ⟨V.ref (s.heap.objs.size+1),_,I2,rfl,hq⟩)
inductive Kd where
 | plain | bank | thirty | exact
noncomputable def Kd.cls:Kd->Str
 | .plain => "Count"
 | .bank => "Bank"
 | .thirty => "Thirty"
 | .exact => "Exact"
def zc0 (K:W.Frag) (H:Hp) (a:Addr) (kd:Kd):Prop:=∃ dx,H a=some (.ins (cA K kd.cls) dx [])
theorem zc0.same {K:W.Frag} {H H':Hp} {a:Addr} {kd:Kd} (h:zc0 K H a kd) (s:Same H H'):zc0 K H' a kd:=let ⟨dx,e⟩:=h;⟨dx,s _ _ e⟩
structure zB (K:W.Frag) (C:Addr) (m qual:Str) (st:Stmt) (ps:List Str):Prop where
 ex:∃ (f:Addr) (fd:FuncData),Fun K m qual st f fd/\Meth K C m f/\∀ us:List Value,us.length=ps.length->bindArgs fd ⟨us,[]⟩=pure (ps.zip us)
structure zG (P:Program) (w:World) (K:W.Frag) (mg:Str->Option Value) (base:Heap) (k:Nat) (C:Addr) (m:Str) (ps:List Str) (sp:Sp):Prop where
 ex:∃ (f:Addr) (fd:FuncData),zcd P w K mg base CX0 k f fd ps sp/\Meth K C m f/\∀ us:List Value,us.length=ps.length->bindArgs fd ⟨us,[]⟩=pure (ps.zip us)
theorem zB.ok {P:Program} {w:World} {K:W.Frag} {mg:Str->Option Value} {base:Heap} {C:Addr} {m qual:Str} {st:Stmt} {N ps:List Str} {k:Nat} {sp:Sp} (S:zB K C m qual st ps) (sc:zk N ps (zi st)) (len:∀ vs H Q E,sp vs H Q E->vs.length=ps.length)
  (hbody:∀ (f:Addr) (cdv:Value) (A:Around) (outer:List Env) (s:Shared) (H:Hp) (vs:List V) (Q:VK) (E:XK),Room k (A.deeper (envOfC qual (zi st) s.heap.objs.size f cdv))->sp vs H Q E ->
   ∃ t,PSs (zf9 CX0 P w K mg base N qual (zi st) f cdv A outer s H E).nox (zaF st) t/\t { nx:=fun _ H'=>Q .non H',rt:=Q } (start N vs) H):zG P w K mg base (k+1) C m ps sp:=by
 obtain ⟨f,fd,F,hm,hb⟩:=S.ex
 exact ⟨f,fd,F.ok sc len (fun cdv=>hbody f cdv),hm,hb⟩
def zr8 (K:W.Frag) (sp:Kd->Sp) (ta:TE) (t:TA):TE:=fun σ H Q=>ta σ H fun x H1=>∃ (kd:Kd) (a:Addr),x=.ref a/\zc0 K H1 a kd/\t σ H1 fun vs H2=>sp kd (x::vs) H2 Q E0
theorem zkW {pl:Sem Bool} {sp:Kd->Sp} (D:∀ kd:Kd,zG X.prog X.w X.K X.mg X.base j (cA X.K kd.cls) m ps (sp kd)) (hc:∀ kd:Kd,Cls X.K (cA X.K kd.cls)) (hr:Room k X.A) (he:PE X o ta) (hj:j<=k:=by decide)
  (ht:eval (.Call (.Attribute o m apos) [] [] pos) X.env=(do
   let ov <-eval o X.env
   standAt apos.atName
   let (f,first) <-holding [ov] (getMethod ov m pl)
   callWith pos f first (backTo pos (starEach [] X.env)) (backToKw pos (keywordEach [] X.env))):=by rfl) :
  PE X (.Call (.Attribute o m apos) [] [] pos) (zr8 X.K sp ta zkk):=by
 intro pins s σ H Q I h
 refine PySem.W.methodCall_KW (pl:=pl) (thn (he pins s σ H _ I h) fun u s1 ⟨x,H1,I1,rx,kd,a,ex,⟨dx,ea⟩,q⟩=>?_) ht
 subst ex
 obtain rfl:u=Value.ref a:=rx
 obtain ⟨f,fd,F,hm,hb⟩:=(D kd).ex
 refine zgL I1 ea (hc kd) hm rfl ?_
 exact PySem.W.callWith_K0 (first:=[.ref a]) I1.kIn hm.kp (zhN (us:=[.ref a]) (vs:=[.ref a]) (dvs:=[]) (ds:=[]) F (hr.mono hj) (.all hb) .nil ziG I1 (.cons rfl .nil) q)
end
section
variable {K:W.Frag} {x:Str} {C f:Addr}
theorem zba (a:PySem.W.nsIn K mainGlobals x=some (some (.ref C))) (h1:PySem.W.plainGet K C Str.empty=true) (h2:PySem.W.hasDictIn K C=true) (h3:PySem.W.plainOver K C=true) (h4:PySem.W.findIn K (.ref C) "__setattr__" = some (some (.builtin "object.__setattr__"))):Cls K (cA K x):=by
 rw[zdb a];exact ⟨h1,h2,h3,h4⟩
theorem zjL (a:PySem.W.nsIn K mainGlobals x=some (some (.ref C))) (h1:PySem.W.makesIn K C=true) (h2:PySem.W.findIn K (.ref C) "__init__" = some (some (.builtin "object.__init__"))) (h3:PySem.W.keepIn K (.ref C)=true):Mk0 K (cA K x):=by
 rw[zdb a];exact ⟨h1,h2,h3⟩
theorem zN {m qual:Str} {st:Stmt} {ps:List Str} {oc:Value} {od an:Option Addr} {osl:Array (Option Value)} {kV doc pm cdv ct:Value} (a:PySem.W.nsIn K mainGlobals x=some (some (.ref C))) (hi:PySem.W.findIn K (.ref C) m=some (some (.ref f))) (hf:PySem.W.isFn K (.ref f)=true)
  (fk:PySem.W.keepIn K (.ref f)=true) (fl:K.lookup f=some ⟨oc,od,.func (PySem.W.fnOf m qual (zcb st) (zaF st) (zi st) .none kV doc pm an cdv ct),osl⟩) (fc:PySem.W.codeIn K cdv qual=true)
  (hb:∀ us:List Value,us.length=ps.length->bindArgs (PySem.W.fnOf m qual (zcb st) (zaF st) (zi st) .none kV doc pm an cdv ct) ⟨us,[]⟩=pure (ps.zip us)):zB K (cA K x) m qual st ps:=by
 rw[zdb a];exact ⟨f,_,zmQ fl fc fk,⟨hi,hf,fk⟩,hb⟩
end
end L2
namespace L2
open PySem
end L2
namespace L2
theorem zrD {α:Type} {xs:List α} {v:α} (h:xs[xs.length-1]?=some v) (h0:0<xs.length):atI xs (-1)=some v:=by
 have e:ixN xs.length (-1)=some (xs.length-1):=by
  unfold ixN
  rw[if_neg (by decide),if_pos (by ac_rfl),show ((-1:Int)+(xs.length:Int)).toNat=xs.length-1 by ac_rfl]
 unfold atI
 rw[e]
 exact h
end L2
namespace L2
open PySem PySem.Spec PyProof.Rows
section
variable {X:Cx} {pins:List (Addr × Obj)} {σ:St} {H:Hp} {s:Shared} {sc:Scope} {x y0:Str} {ix:List Nat} {fp:List Addr}
end
section
variable {X:Cx} {pins:List (Addr × Obj)} {σ:St} {H:Hp} {s:Shared} {sc:Scope} {x y0:Str} {ix:List Nat} {fp:List Addr} {elt iter:Expr} {te:TE} {wi:TI} {px py0 pt0 pos:Pos} {kt0:Nat}
end
end L2
namespace SortT
open PySem PySem.W PyProof.Rows
noncomputable def okT {α:Type} (n:Nat) (lt:Nat->Nat->Bool):KasT α->(α->Prop)->Prop
 | .ret a,Q=>Q a
 | .ask i j k,Q=>(i<n/\j<n)/\okT n lt (k (lt i j)) Q
theorem znb {α:Type} {n:Nat} {lt:Nat->Nat->Bool} {Q Q':α->Prop} (h:∀ a,Q a->Q' a):∀ (t:KasT α),okT n lt t Q->okT n lt t Q'
 | .ret a,q=>h a q
 | .ask i j k,q=>⟨q.1,znb h _ q.2⟩
theorem zdw {α β:Type} {n:Nat} {lt:Nat->Nat->Bool} {f:α->KasT β} {Q:β->Prop}:∀ (t:KasT α),okT n lt t (fun a=>okT n lt (f a) Q)->okT n lt (t.bind f) Q
 | .ret a,q=>q
 | .ask i j k,q=>⟨q.1,zdw _ q.2⟩
theorem zpp {α:Type} {n:Nat} {lt:Nat->Nat->Bool} {s:Shared} {cmp:Nat->Nat->(Bool->Shared->Prop)->Shared->Prop} (hc:∀ i j C,i<n->j<n->C (lt i j) s->cmp i j C s) {Q:α->Prop} {R:α->Shared->Prop} (hR:∀ a,Q a->R a s):∀ (t:KasT α),okT n lt t Q->t.kasWp cmp R s
 | .ret a,q=>hR a q
 | .ask i j k,q=>hc i j _ q.1.1 q.1.2 (zpp hc hR _ q.2)
structure Ord (lt:Nat->Nat->Bool):Prop where
 irr:∀ i,lt i i=false
 asy:∀ i j,lt i j=true->lt j i=false
 neg:∀ i j k,lt i j=false->lt j k=false->lt i k=false
variable {N:Nat} {lt:Nat->Nat->Bool}
def In (N:Nat) (p:Array Nat):Prop:=p.size=N/\∀ i,i<N->p.getD i 0<N
def Up (lt:Nat->Nat->Bool) (p:Array Nat) (k:Nat):Prop:=∀ i j,i<=j->j<k->lt (p.getD j 0) (p.getD i 0)=false
def Dn (lt:Nat->Nat->Bool) (p:Array Nat) (k:Nat):Prop:=∀ i j,i<=j->j<k->lt (p.getD i 0) (p.getD j 0)=false
theorem zgl {p q:Array Nat} {i j:Nat} (h:p[i]?=q[j]?):p.getD i 0=q.getD j 0:=by
 rw[yef,yef,h]
theorem zbT {p:Array Nat} {i j k:Nat} (hj:j<=p.size):(kas_rev p i j).getD k 0=if i<=k/\k<j then p.getD (i+j-1-k) 0 else p.getD k 0:=by
 have e:=getElem?_mirror_all (xs:=p) (i:=i) hj k
 unfold kas_rev
 by_cases c:i<=k/\k<j
 ·rw[if_pos c] at e ⊢;exact zgl e
 ·rw[if_neg c] at e ⊢;exact zgl e
theorem zic {p:Array Nat} {i j:Nat} (h:In N p) (hj:j<=N):In N (kas_rev p i j):=by
 refine ⟨by rw[kas_rev_size];exact h.1,fun k hk=>?_⟩
 rw[zbT (by rw[h.1];exact hj)]
 split
 ·exact h.2 _ (by ac_rfl)
 ·exact h.2 k hk
theorem Up.one {p:Array Nat} (O:Ord lt):Up lt p 1:=fun i j h1 h2=>by
 have:i=j:=by ac_rfl
 subst this
 exact O.irr _
theorem Up.next {p:Array Nat} {n:Nat} (O:Ord lt) (h:Up lt p n) (h1:1<=n) (c:lt (p.getD n 0) (p.getD (n-1) 0)=false):Up lt p (n+1):=fun i j h2 h3=>by
 by_cases e:j=n
 ·subst e
  by_cases e2:i=j
  ·subst e2;exact O.irr _
  ·exact O.neg _ _ _ c (h i (j-1) (by ac_rfl) (by ac_rfl))
 ·exact h i j h2 (by ac_rfl)
theorem zlM (O:Ord lt) {p:Array Nat} (hp:In N p) {Q:Nat->Prop}:∀ (f n:Nat),1<=n->n+f<=N->Up lt p n->(∀ m,n<=m->m<=n+f->Up lt p m->(m=n+f\/lt (p.getD m 0) (p.getD (m-1) 0)=true)->Q m)->okT N lt (kas_asc p f n) Q
 | 0,n,h1,h2,up,hQ=>hQ n (ycz _) (ycz _) up (.inl rfl)
 | f+1,n,h1,h2,up,hQ=>by
  refine ⟨⟨hp.2 n (by ac_rfl),hp.2 (n-1) (by ac_rfl)⟩,?_⟩
  cases c:lt (p.getD n 0) (p.getD (n-1) 0) with
  | true=>exact hQ n (ycz _) (by ac_rfl) up (.inr c)
  | false=>exact zlM O hp f (n+1) (by ac_rfl) (by ac_rfl) (up.next O h1 c) fun m a b u z=>hQ m (by ac_rfl) (by ac_rfl) u (by rcases z with z | z;exact .inl (by ac_rfl);exact .inr z)
theorem zg6 (p:Array Nat) (i j:Nat):(kas_rev p i j).Perm p:=mirror_perm _ _ _ _
structure Des (lt:Nat->Nat->Bool) (p:Array Nat) (n q:Nat):Prop where
 hq:q+1<=n
 dn:Dn lt p n
 al:∀ i,n<=i+(q+1)->i<n->lt (p.getD i 0) (p.getD (n-1) 0)=false/\lt (p.getD (n-1) 0) (p.getD i 0)=false
theorem Des.alike {p:Array Nat} {n q:Nat} (O:Ord lt) (D:Des lt p n q) {i j:Nat} (h1:n<=i+(q+1)) (h2:i<n) (h3:n<=j+(q+1)) (h4:j<n):lt (p.getD i 0) (p.getD j 0)=false:=O.neg _ _ _ (D.al i h1 h2).1 (D.al j h3 h4).2
theorem Des.turn {p:Array Nat} {n q:Nat} (O:Ord lt) (D:Des lt p n q) (hn:n<=p.size):Dn lt (kas_rev p (n-(q+1)) n) n:=fun i j h1 h2=>by
 have:=D.hq
 rw[zbT hn,zbT hn]
 by_cases ci:n-(q+1)<=i/\i<n
 ·rw[if_pos ci,if_pos (show n-(q+1)<=j/\j<n by ac_rfl)]
  exact D.alike O (by ac_rfl) (by ac_rfl) (by ac_rfl) (by ac_rfl)
 ·rw[if_neg ci]
  by_cases cj:n-(q+1)<=j/\j<n
  ·rw[if_pos cj]
   exact D.dn _ _ (by ac_rfl) (by ac_rfl)
  ·rw[if_neg cj]
   exact D.dn i j h1 h2
theorem Des.fall {p:Array Nat} {n:Nat} (O:Ord lt) (dn:Dn lt p n) (h1:1<=n) (c:lt (p.getD (n-1) 0) (p.getD n 0)=false):Dn lt p (n+1):=fun i j h2 h3=>by
 by_cases e:j=n
 ·subst e
  by_cases e2:i=j
  ·subst e2;exact O.irr _
  ·exact O.neg _ _ _ (dn i (j-1) (by ac_rfl) (by ac_rfl)) c
 ·exact dn i j h2 (by ac_rfl)
theorem zit (O:Ord lt) {Q:Array Nat × Nat × Nat->Prop}:∀ (f:Nat) (p:Array Nat) (n q:Nat),In N p->n+f<=N->Des lt p n q->(∀ p' n' q',In N p'->p'.Perm p->n<=n'->n'<=n+f->Des lt p' n' q'->Q (p',n',q'))->okT N lt (kas_desc f p n q) Q
 | 0,p,n,q,hp,hn,D,hQ=>hQ p n q hp (Array.Perm.refl _) (ycz _) (ycz _) D
 | f+1,p,n,q,hp,hn,D,hQ=>by
  have hq:=D.hq
  refine ⟨⟨hp.2 n (by ac_rfl),hp.2 (n-1) (by ac_rfl)⟩,?_⟩
  cases c:lt (p.getD n 0) (p.getD (n-1) 0) with
  | true =>
   have c':=O.asy _ _ c
   show okT N lt (if q > 0 then _ else _) Q
   by_cases q0:q > 0
   ·rw[if_pos q0]
    have hs:n<=p.size:=by rw[hp.1];ac_rfl
    have dn:Dn lt (kas_rev p (n-(q+1)) n) (n+1):=by
     refine Des.fall O (D.turn O hs) (by ac_rfl) ?_
     rw[zbT hs,zbT hs,if_pos (by ac_rfl),if_neg (by ac_rfl)]
     exact O.neg _ _ _ (D.alike O (by ac_rfl) (by ac_rfl) (by ac_rfl) (by ac_rfl)) c'
    refine zit O f _ (n+1) 0 (zic hp (by ac_rfl)) (by ac_rfl) ⟨by ac_rfl,dn,fun i a b=>?_⟩ fun p' n' q' a b c d e=>hQ p' n' q' a (b.trans (zg6 _ _ _)) (by ac_rfl) (by ac_rfl) e
    have:i=n:=by ac_rfl
    subst this
    exact ⟨O.irr _,O.irr _⟩
   ·rw[if_neg q0]
    refine zit O f _ (n+1) 0 hp (by ac_rfl) ⟨by ac_rfl,Des.fall O D.dn (by ac_rfl) c',fun i a b=>?_⟩ fun p' n' q' a b c d e=>hQ p' n' q' a b (by ac_rfl) (by ac_rfl) e
    have:i=n:=by ac_rfl
    subst this
    exact ⟨O.irr _,O.irr _⟩
  | false =>
   refine ⟨⟨hp.2 (n-1) (by ac_rfl),hp.2 n (by ac_rfl)⟩,?_⟩
   cases d:lt (p.getD (n-1) 0) (p.getD n 0) with
   | true=>exact hQ p n q hp (Array.Perm.refl _) (ycz _) (by ac_rfl) D
   | false =>
    refine zit O f _ (n+1) (q+1) hp (by ac_rfl) ⟨by ac_rfl,Des.fall O D.dn (by ac_rfl) d,fun i a b=>?_⟩ fun p' n' q' a b c d e=>hQ p' n' q' a b (by ac_rfl) (by ac_rfl) e
    show lt (p.getD i 0) (p.getD n 0)=false/\lt (p.getD n 0) (p.getD i 0)=false
    by_cases e:i=n
    ·subst e
     exact ⟨O.irr _,O.irr _⟩
    ·have al:=D.al i (by ac_rfl) (by ac_rfl)
     exact ⟨O.neg _ _ _ al.1 d,O.neg _ _ _ c al.2⟩
theorem Dn.up {p:Array Nat} {n:Nat} (dn:Dn lt p n) (hn:n<=p.size):Up lt (kas_rev p 0 n) n:=fun i j h1 h2=>by
 rw[zbT hn,zbT hn,if_pos (by ac_rfl),if_pos (by ac_rfl)]
 exact dn _ _ (by ac_rfl) (by ac_rfl)
abbrev Good (N:Nat) (lt:Nat->Nat->Bool) (p0:Array Nat) (r:Nat × Array Nat):Prop:=In N r.2/\r.2.Perm p0/\1<=r.1/\r.1<=N/\Up lt r.2 r.1
theorem zmS (O:Ord lt) {p p0:Array Nat} {n:Nat} (hp:In N p) (pe:p.Perm p0) (h1:1<=n) (hn:n<=N) (dn:Dn lt p n):okT N lt (kas_tail3 n N p) (Good N lt p0):=by
 have hs:n<=p.size:=by rw[hp.1];ac_rfl
 refine zdw _ (zlM O (zic hp hn) (N-n) n h1 (by ac_rfl) (dn.up hs) fun m a b u _=>?_)
 exact ⟨zic hp hn,(zg6 _ _ _).trans pe,by show 1<=m;ac_rfl,by show m<=N;ac_rfl,u⟩
theorem ziK (O:Ord lt) {p p0:Array Nat} {n:Nat} (hp:In N p) (pe:p.Perm p0) (h1:1<=n) (hn:n+1<=N) (dn:Dn lt p (n+1)):okT N lt (kas_descPart n N p) (Good N lt p0):=by
 refine zdw _ (zit O (N-(n+1)) p (n+1) 0 hp (by ac_rfl) ⟨by ac_rfl,dn,fun i a b=>?_⟩ fun p' n' q' a b c d D=>?_)
 ·have:i=n:=by ac_rfl
  subst this
  exact ⟨O.irr _,O.irr _⟩
 ·show okT N lt (if q' > 0 then kas_tail3 n' N (kas_rev p' (n'-(q'+1)) n') else kas_tail3 n' N p') _
  have hs:n'<=p'.size:=by rw[a.1];ac_rfl
  by_cases q0:q' > 0
  ·rw[if_pos q0]
   exact zmS O (zic a (by ac_rfl)) ((zg6 _ _ _).trans (b.trans pe)) (by ac_rfl) (by ac_rfl) (D.turn O hs)
  ·rw[if_neg q0]
   exact zmS O a (b.trans pe) (by ac_rfl) (by ac_rfl) D.dn
theorem zqS (O:Ord lt) {p:Array Nat} (hp:In N p) (h1:1<=N):okT N lt (kas_count N p) (Good N lt p):=by
 refine zdw _ (zlM O hp (N-1) 1 (ycz _) (by ac_rfl) (Up.one O) fun n a b u z=>?_)
 show okT N lt (if (n == N)=true then _ else _) _
 by_cases e:n=N
 ·rw[if_pos (by rw[e];exact beq_self_eq_true N)]
  exact ⟨hp,Array.Perm.refl _,by show 1<=n;ac_rfl,by show n<=N;ac_rfl,u⟩
 ·rw[if_neg (by rw[beq_iff_eq];exact e)]
  have c:lt (p.getD n 0) (p.getD (n-1) 0)=true:=by rcases z with z | z;ac_rfl;exact z
  have c':=O.asy _ _ c
  by_cases g:n > 1
  ·rw[if_pos g]
   refine ⟨⟨hp.2 0 (by ac_rfl),hp.2 (n-1) (by ac_rfl)⟩,?_⟩
   cases d:lt (p.getD 0 0) (p.getD (n-1) 0) with
   | true=>exact ⟨hp,Array.Perm.refl _,by show 1<=n;ac_rfl,by show n<=N;ac_rfl,u⟩
   | false =>
    have hs:n<=p.size:=by rw[hp.1];ac_rfl
    have al:∀ i j,i<n->j<n->lt (p.getD i 0) (p.getD j 0)=false:=fun i j hi hj=>O.neg _ _ _ (u 0 i (ydc _) hi) (O.neg _ _ _ d (u j (n-1) (by ac_rfl) (by ac_rfl)))
    refine ziK O (zic hp (by ac_rfl)) (zg6 _ _ _) (by ac_rfl) (by ac_rfl) (Des.fall O (fun i j h2 h3=>?_) (by ac_rfl) ?_)
    ·rw[zbT hs,zbT hs,if_pos (by ac_rfl),if_pos (by ac_rfl)]
     exact al _ _ (by ac_rfl) (by ac_rfl)
    ·rw[zbT hs,zbT hs,if_pos (by ac_rfl),if_neg (by ac_rfl)]
     exact O.neg _ _ _ (al _ (n-1) (by ac_rfl) (by ac_rfl)) c'
  ·rw[if_neg g]
   have e1:n=1:=by ac_rfl
   subst e1
   refine ziK O hp (Array.Perm.refl _) (ycz _) (by ac_rfl) (Des.fall O (fun i j h2 h3=>?_) (ycz _) c')
   have:i=j:=by ac_rfl
   subst this
   exact O.irr _
theorem zjq (O:Ord lt) {p:Array Nat} (hp:In N p) {k:Nat} (hk:k<N) (u:Up lt p k) {Q:Nat->Prop}:∀ (f l r:Nat),l<=r->r<=k->r-l<=f->(∀ i,i<l->lt (p.getD k 0) (p.getD i 0)=false)->(∀ i,r<=i->i<k->lt (p.getD k 0) (p.getD i 0)=true) ->
  (∀ m,m<=k->(∀ i,i<m->lt (p.getD k 0) (p.getD i 0)=false)->(∀ i,m<=i->i<k->lt (p.getD k 0) (p.getD i 0)=true)->Q m)->okT N lt (kas_place p k f l r) Q
 | 0,l,r,h1,h2,h3,lo,hi,hQ=>hQ l (by ac_rfl) lo fun i a b=>hi i (by ac_rfl) b
 | f+1,l,r,h1,h2,h3,lo,hi,hQ=>by
  show okT N lt (if l>=r then _ else _) Q
  by_cases g:l>=r
  ·rw[if_pos g]
   exact hQ l (by ac_rfl) lo fun i a b=>hi i (by ac_rfl) b
  ·rw[if_neg g]
   refine ⟨⟨hp.2 k hk,hp.2 _ (by ac_rfl)⟩,?_⟩
   cases c:lt (p.getD k 0) (p.getD ((l+r) / 2) 0) with
   | true =>
    refine zjq O hp hk u f l ((l+r) / 2) (by ac_rfl) (by ac_rfl) (by ac_rfl) lo (fun i a b=>?_) hQ
    cases d:lt (p.getD k 0) (p.getD i 0) with
    | true=>rfl
    | false =>
     have:=O.neg _ _ _ d (u _ i a b)
     rw[c] at this
     cases this
   | false=>exact zjq O hp hk u f ((l+r) / 2+1) r (by ac_rfl) h2 (by ac_rfl) (fun i a=>O.neg _ _ _ c (u i _ (by ac_rfl) (by ac_rfl))) hi hQ
theorem zmH {p:Array Nat} {k l i:Nat} (hk:k<p.size) (hl:l<=k):(bubble p k (k-l)).getD i 0=if i=l then p.getD k 0 else if l<i/\i<=k then p.getD (i-1) 0 else p.getD i 0:=by
 have e:=getElem?_bubble hk (k-l) (by ac_rfl) i
 rw[show k-(k-l)=l by ac_rfl] at e
 by_cases c:i=l
 ·rw[if_pos c] at e ⊢;exact zgl e
 ·rw[if_neg c] at e ⊢
  by_cases c2:l<i/\i<=k
  ·rw[if_pos c2] at e ⊢;exact zgl e
  ·rw[if_neg c2] at e ⊢;exact zgl e
theorem zpS (O:Ord lt) {p0:Array Nat}:∀ (f:Nat) (p:Array Nat) (k:Nat),In N p->p.Perm p0->k+f=N->Up lt p k->okT N lt (kas_bin f p k) fun q=>In N q/\q.Perm p0/\Up lt q N
 | 0,p,k,hp,pe,e,u=>⟨hp,pe,by rw[<-e];exact u⟩
 | f+1,p,k,hp,pe,e,u=>by
  have hk:k<p.size:=by rw[hp.1];ac_rfl
  refine zdw _ (zjq O hp (by ac_rfl) u k 0 k (ydc _) (ycz _) (by ac_rfl) (fun i h=>absurd h (ydl _)) (fun i a b=>by ac_rfl) fun l hl lo hi=>?_)
  refine zpS O f _ (k+1) ⟨by rw[bubble_size];exact hp.1,fun i h=>?_⟩ ((bubble_perm _ _ _).trans pe) (by ac_rfl) fun i j h1 h2=>?_
  ·rw[zmH hk hl]
   by_cases c1:i=l
   ·rw[if_pos c1];exact hp.2 k (by ac_rfl)
   ·rw[if_neg c1]
    by_cases c2:l<i/\i<=k
    ·rw[if_pos c2];exact hp.2 _ (by ac_rfl)
    ·rw[if_neg c2];exact hp.2 i h
  ·rw[zmH hk hl,zmH hk hl]
   by_cases ei:i=l
   ·rw[if_pos ei]
    by_cases ej:j=l
    ·rw[if_pos ej];exact O.irr _
    ·rw[if_neg ej,if_pos (by ac_rfl)]
     exact O.asy _ _ (hi (j-1) (by ac_rfl) (by ac_rfl))
   ·rw[if_neg ei]
    by_cases ej:j=l
    ·rw[if_pos ej,if_neg (by ac_rfl)]
     exact lo i (by ac_rfl)
    ·rw[if_neg ej]
     by_cases ci:l<i/\i<=k
     ·rw[if_pos ci,if_pos (by ac_rfl)]
      exact u _ _ (by ac_rfl) (by ac_rfl)
     ·rw[if_neg ci]
      by_cases cj:l<j/\j<=k
      ·rw[if_pos cj]
       exact u _ _ (by ac_rfl) (by ac_rfl)
      ·rw[if_neg cj]
       exact u _ _ h1 (by ac_rfl)
theorem zrr (O:Ord lt) (h1:1<=N):okT N lt (kas_sort N) fun q=>In N q/\q.Perm (ybl (yar N))/\Up lt q N:=by
 have hp:In N (ybl (yar N)):=⟨by simp,fun i h=>by
  rw[yef]
  simp[h]⟩
 refine zdw _ (znb (fun r g=>?_) _ (zqS O hp h1))
 obtain ⟨a,b,c,d,e⟩:=g
 show okT N lt (if r.1<N then _ else _) _
 by_cases h:r.1<N
 ·rw[if_pos h]
  exact zpS O _ _ _ a b (by ac_rfl) (by rw[Nat.max_eq_left c];exact e)
 ·rw[if_neg h]
  have:r.1=N:=by ac_rfl
  exact ⟨a,b,by rw[<-this];exact e⟩
end SortT
namespace SortT
open PySem PySem.W PyProof.Rows PySem.Calls
def zaW (h:Heap) (v:Value) (x:Int × Int):Prop:=∃ a o n t u,v=.ref a/\h.get? a=some o/\o.cls=.type "tuple" /\ o.data=.seq #[.int x.1 t,.int x.2 u] n
theorem zaW.keep {h h':Heap} {v:Value} {x:Int × Int} (p:zaW h v x) (k:∀ a o,v=.ref a->h.get? a=some o->h'.get? a=some o):zaW h' v x:=by
 obtain ⟨a,o,n,t,u,rfl,e,r⟩:=p
 exact ⟨a,o,n,t,u,rfl,k a o rfl e,r⟩
def lex (x y:Int × Int):Bool:=decide (x.1<y.1\/(x.1=y.1/\x.2<y.2))
section
variable {prog:Program} {w:World} {A:Around} {E:Value->Shared->Prop} {s:Shared}
theorem zrO {v v':Value} {x y:Int × Int} (hv:zaW s.heap v x) (hw:zaW s.heap v' y) {Q:Bool->Shared->Prop} (h:Q (lex x y) s):wpAny (model prog w) A (keyLt' (tuples' true) v v') Q E s:=by
 obtain ⟨a,o,n,t,u,rfl,e,c,d⟩:=hv
 obtain ⟨a',o',n',t',u',rfl,e',c',d'⟩:=hw
 refine kat_lt e d e' d' ?_
 refine kat_cons (wpAny_eqBool_int ?_)
 by_cases c1:x.1=y.1
 ·rw[show (x.1 == y.1)=true from beq_iff_eq.mpr c1]
  refine kat_yes (kat_cons (wpAny_eqBool_int ?_))
  by_cases c2:x.2=y.2
  ·rw[show (x.2 == y.2)=true from beq_iff_eq.mpr c2]
   refine kat_yes (kat_nil ?_)
   have:lex x y=false:=decide_eq_false (by ac_rfl)
   rw[this] at h
   exact h
  ·rw[show (x.2 == y.2)=false from beq_eq_false_iff_ne.mpr c2]
   refine kat_no (kat_one _ _ (lt_int ?_))
   have:lex x y=decide (x.2<y.2):=decide_eq_decide.mpr (by ac_rfl)
   rw[this] at h
   exact h
 ·rw[show (x.1 == y.1)=false from beq_eq_false_iff_ne.mpr c1]
  refine kat_no (oneLt_int ?_)
  have:lex x y=decide (x.1<y.1):=decide_eq_decide.mpr (by ac_rfl)
  rw[this] at h
  exact h
theorem zoa (f:Nat->Int × Int):Ord fun i j=>lex (f i) (f j):=by
 refine ⟨fun i=>decide_eq_false (by ac_rfl),fun i j h=>?_,fun i j k h1 h2=>?_⟩
 ·have:=of_decide_eq_true h
  exact decide_eq_false (by ac_rfl)
 ·have a:=of_decide_eq_false h1
  have b:=of_decide_eq_false h2
  exact decide_eq_false (by ac_rfl)
theorem ziX {a:Addr} {vs:List Value} {n:Nat} {P:PySem.Fin->Shared->Prop} {f:Nat->Int × Int} (ho:s.heap.get? a=some (seqObj "list" vs.toArray n)) (h64:vs.length<64) (hp:∀ i,i<vs.length->zaW s.heap (vs.getD i .none) (f i))
  (h:∀ p:Array Nat,In vs.length p->p.Perm (ybl (yar vs.length))->Up (fun i j=>lex (f i) (f j)) p vs.length->P (.done (.ret .none)) { s with heap:=sortedHeap s.heap a vs (ybl (p.toList.map fun i=>vs.getD i Value.none)) }) :
  wpAny (model prog w) A (Builtin.«list.sort» ⟨[.ref a],[]⟩) P E s:=by
 rw[list_sort_plain]
 have ha:a<s.heap.objs.size:=ydr ho
 refine wpAny_bind (listItems_at ho rfl ?_)
 refine wpAny_bind (listUpdate_at ho rfl ?_ (by rw[yan,sizeLine_eq];ac_rfl) (ydc _))
 obtain ⟨e1,ho1⟩:∃ e1,(s.heap.update a (Obj.mapSeq fun _=>#[])).get? a=some (seqObj "list" #[] e1):=⟨_,get?_update_seq ho (fun _=>#[])⟩
 refine wpAny_bind (seqEpoch_at ho1 rfl ?_)
 refine wpAny_bind (wpAny_newTuple ?_ (by show vs.length<=_;rw[sizeLine_eq];ac_rfl))
 refine wpAny_bind (wpAny_newList ?_ (ydc _))
 refine wpAny_holding ?_
 have ho6:(((s.heap.update a (Obj.mapSeq fun _=>#[])).push (seqObj "tuple" vs.toArray 0)).push (seqObj "list" #[] 0)).get? a=some (seqObj "list" #[] e1):=ydq _ (ydq _ ho1)
 show wpAny (model prog w) A _ P E { s with heap:=((s.heap.update a (Obj.mapSeq fun _=>#[])).push (seqObj "tuple" vs.toArray 0)).push (seqObj "list" #[] 0) }
 dsimp only
 have hsz:vs.toArray.size=vs.length:=by simp
 have outsz:∀ p:Array Nat,p.size=vs.length->(ybl (p.toList.map fun i=>vs.getD i Value.none)).size<=sizeLine:=fun p hp=>by
  rw[yan,yab,yed,hp,sizeLine_eq];ac_rfl
 by_cases h2:vs.toArray.size<2
 ·rw[if_pos h2,if_pos h2]
  refine wpAny_bind (wpAny_pure ?_)
  rw[StateT.run_pure]
  refine wpAny_bind (wpAny_pure ?_)
  dsimp only
  have hin:In vs.length (ybl (yar vs.length)):=⟨by simp,fun i h=>by rw[yef];simp[h]⟩
  have key:=h (ybl (yar vs.length)) hin (Array.Perm.refl _) (fun i j h1 h3=>by
   have:i=j:=by ac_rfl
   subst this
   exact (zoa f).irr _)
  have eo:(arrOf (SortSt.mk' general' (vs.toArray.zip vs.toArray) #[] 7 none)).map (·.2)=ybl ((ybl (yar vs.length)).toList.map fun i=>vs.getD i Value.none):=by
   refine kat_snds rfl ?_
   have e:=kas_range (vs.toArray.zip vs.toArray)
   rw[show (vs.toArray.zip vs.toArray).size=vs.length by simp] at e
   exact e.symm
  refine wpAny_bind (seqEpoch_at ho6 rfl ?_)
  refine wpAny_bind (listUpdate_at ho6 rfl ?_ (ydc _) (by rw[eo];exact Nat.le_succ_of_le (outsz _ hin.1)))
  simp only[bne_self_eq_false,Bool.false_eq_true,if_false]
  rw[eo]
  exact wpAny_pure key
 ·rw[if_neg h2,if_neg h2]
  have kp:∀ b o,b≠a->s.heap.get? b=some o->(((s.heap.update a (Obj.mapSeq fun _=>#[])).push (seqObj "tuple" vs.toArray 0)).push (seqObj "list" #[] 0)).get? b=some o:=fun b o nb e=>ydq _ (ydq _ (by rw[ydt _ _ _ _ nb];exact e))
  have hp':∀ i,i<vs.length->zaW (((s.heap.update a (Obj.mapSeq fun _=>#[])).push (seqObj "tuple" vs.toArray 0)).push (seqObj "list" #[] 0)) (vs.getD i .none) (f i):=fun i hi=>by
   obtain ⟨b,o,m,t,u,e,eo,c,d⟩:=hp i hi
   refine ⟨b,o,m,t,u,e,kp b o (fun z=>?_) eo,c,d⟩
   subst z
   rw[ho] at eo
   have eo':=Option.some.inj eo
   rw[<-eo'] at c
   exact absurd (show Value.type "list" = Value.type "tuple" from c) (by decide)
  have tups:∀ (ws:List Value) (g:Nat->Int × Int),(∀ i,i<ws.length->zaW (((s.heap.update a (Obj.mapSeq fun _=>#[])).push (seqObj "tuple" vs.toArray 0)).push (seqObj "list" #[] 0)) (ws.getD i .none) (g i))->∃ fs,KatTups (((s.heap.update a (Obj.mapSeq fun _=>#[])).push (seqObj "tuple" vs.toArray 0)).push (seqObj "list" #[] 0)) ws fs/\fs.length=ws.length/\∀ v∈fs,∃ m t,v=.int m t:=by
   intro ws
   induction ws with
   | nil=>intro g _;exact ⟨[],KatTups.nil,rfl,fun v hv=>by cases hv⟩
   | cons v ws ih =>
    intro g hg
    obtain ⟨fs,k1,k2,k3⟩:=ih (fun i=>g (i+1)) fun i hi=>hg (i+1) (by simp;ac_rfl)
    obtain ⟨b,o,m,t,u,e,eo,c,d⟩:=hg 0 (by simp)
    have e':v=.ref b:=e
    subst e'
    exact ⟨.int (g 0).1 t::fs,KatTups.cons eo c d rfl k1,by simp[k2],fun v hv=>by
     rcases yaj.mp hv with rfl | hv
     ·exact ⟨_,_,rfl⟩
     ·exact k3 v hv⟩
  obtain ⟨fs,k1,k2,k3⟩:=tups vs f hp'
  refine wpAny_bind (kat_kind (T:=.type "int") k1 (by ac_rfl) (fun v hv=>?_) (by decide) ?_)
  ·obtain ⟨m,t,rfl⟩:=k3 v hv
   exact Looks.now
  have ask:(kas_sort vs.length).kasWp (kas_ask prog w A (tuples' (Value.type "int" != Value.type "tuple")) vs) (fun p s''=>(In vs.length p/\p.Perm (ybl (yar vs.length))/\Up (fun i j=>lex (f i) (f j)) p vs.length)/\s''={ s with heap:=((s.heap.update a (Obj.mapSeq fun _=>#[])).push (seqObj "tuple" vs.toArray 0)).push (seqObj "list" #[] 0) }) { s with heap:=((s.heap.update a (Obj.mapSeq fun _=>#[])).push (seqObj "tuple" vs.toArray 0)).push (seqObj "list" #[] 0) }:=by
   refine zpp (fun i j C hi hj hc=>?_) (fun p g=>⟨g,rfl⟩) _ (zrr (zoa f) (by ac_rfl))
   show wpAny (model prog w) A (keyLt' (tuples' true) (vs.getD i .none) (vs.getD j .none)) C _ _
   exact zrO (hp' i hi) (hp' j hj) hc
  refine wpAny_bind (wpAny_mono (kat_run (Q:=fun st' s'=>∃ p:Array Nat,p.size=vs.length/\arrOf st'=p.map (kas_item (vs.toArray.zip vs.toArray))/\failedOf st'=none/\(In vs.length p/\p.Perm (ybl (yar vs.length))/\Up (fun i j=>lex (f i) (f j)) p vs.length)/\s'={ s with heap:=((s.heap.update a (Obj.mapSeq fun _=>#[])).push (seqObj "tuple" vs.toArray 0)).push (seqObj "list" #[] 0) })
   rfl (by ac_rfl) h64 (fun p' st' s' a1 a2 a3 a4=>⟨p',a1,a2,a3,a4⟩) ask) ?_ fun _ _ e=>e)
  rintro ⟨⟨⟩,st'⟩ s' ⟨p,hps,har,hf,⟨g1,g2,g3⟩,rfl⟩
  dsimp only
  have hout:=kat_snds rfl har
  rw[hout]
  refine wpAny_bind (seqEpoch_at ho6 rfl ?_)
  refine wpAny_bind (listUpdate_at ho6 rfl ?_ (ydc _) (Nat.le_succ_of_le (outsz p hps)))
  rw[hf]
  simp only[bne_self_eq_false,Bool.false_eq_true,if_false]
  exact wpAny_pure (h p g1 g2 g3)
theorem zqT {l:Addr} {vs:List Value} {Q:Value->Shared->Prop} {f:Nat->Int × Int} (hl:s.heap.IsList l vs.toArray) (h64:vs.length<64) (hp:∀ i,i<vs.length->zaW s.heap (vs.getD i .none) (f i))
  (h:∀ p:Array Nat,In vs.length p->p.Perm (ybl (yar vs.length))->Up (fun i j=>lex (f i) (f j)) p vs.length->Q (.ref (s.heap.objs.size+1)) { s with heap:=sortedAll s.heap vs (ybl (p.toList.map fun i=>vs.getD i Value.none)) }) :
  wpAny (model prog w) A (call (.builtin "sorted") [.ref l]) Q E s:=by
 refine Calls.call_function_entry kind_sorted plain_sorted entry_sorted (args_sorted1 _) ?_
 unfold Builtin.«sorted»
 refine wpAny_bind (m:=checkCount "sorted" 1 1 _) (wpAny_pure ?_)
 refine wpAny_bind (collect_list hl ?_ (by rw[sizeLine_eq];ac_rfl))
 refine wpAny_bind (wpAny_newList ?_ (by rw[sizeLine_eq];ac_rfl))
 have hsz:((s.heap.push (seqObj "list" #[] 0)).update s.heap.objs.size (Obj.mapSeq (·++vs.toArray))).objs.size=s.heap.objs.size+1:=by
  rw[Heap.size_update,size_push']
 have hoL:(((s.heap.push (seqObj "list" #[] 0)).update s.heap.objs.size (Obj.mapSeq (·++vs.toArray))).push (seqObj "list" vs.toArray 0)).get? (s.heap.objs.size+1)=some (seqObj "list" vs.toArray 0):=by
  rw[<-hsz];exact yds _ rfl
 have keep:∀ b o,s.heap.get? b=some o->(((s.heap.push (seqObj "list" #[] 0)).update s.heap.objs.size (Obj.mapSeq (·++vs.toArray))).push (seqObj "list" vs.toArray 0)).get? b=some o:=fun b o q=>by
  have hlt:b<s.heap.objs.size:=ydr q
  rw[Heap.get?_push_ne _ _ _ (by rw[hsz];exact yda (ydh hlt)),ydt _ _ _ _ (yda hlt),Heap.get?_push_ne _ _ _ (yda hlt)]
  exact q
 show wpAny _ _ _ _ _ { s with heap:=((s.heap.push (seqObj "list" #[] 0)).update s.heap.objs.size (Obj.mapSeq (·++vs.toArray))).push (seqObj "list" vs.toArray 0) }
 rw[hsz]
 refine wpAny_bind (wpAny_holding (wpAny_call_entry slot_list_sort ⟨_,hoL,rfl⟩ entry_list_sort (ziX hoL h64 (fun i hi=>(hp i hi).keep fun a o _ e=>keep a o e) fun p a1 a2 a3=>⟨_,rfl,?_⟩) (args_list_sort _)))
 exact wpAny_pure ⟨_,rfl,h p a1 a2 a3⟩
end
end SortT
namespace L2
open PySem PySem.Spec PyProof.Rows
section
variable {X:Cx} {e k:Expr} {te:TE} {p2 pos:Pos} {lo hi:Option Expr} {tl th:TO}
theorem map_getD {α:Type} (l:List α) (d:α):(yar l.length).map (fun i=>l.getD i d)=l:=by
 apply ybt
 intro i
 rw[yag]
 by_cases h:i<l.length
 ·rw[ycf h,yaa h]
  simp[h]
 ·rw[yap (by simp;ac_rfl),yap (by ac_rfl)]
  rfl
theorem zi7 {α:Type} {f:α->V} {g:α->Value}:∀ is:List α,(∀ i∈is,RelV (f i) (g i))->Vals (is.map f) (is.map g)
 | [],_=>.nil
 | i::is,h=>.cons (h i (yal ..)) (zi7 is fun j hj=>h j (yak _ hj))
theorem zl1 (hex:X.ex=[]:=by rfl):zaN X (.builtin "sorted") (fun xs H Q=>∃ (p:Addr) (vs:List V) (l:List (Int × Int)),xs=[.ref p]/\SqL X.K H p vs/\zu X.K H vs l/\l.length<64 /\
  ∀ (q:Addr) (H':Hp) (ws:List V) (r:List (Int × Int)),H q=none->Same H H'->H' q=some (.lst ws)->zu X.K H' ws r->r.Perm l->(r.Pairwise fun s t=>s.1<=t.1)->Q (.ref q) H'):=by
 intro pins s σ H xs us Q I r h
 obtain ⟨p,vs,l,rfl,hp,hR,hl,q⟩:=h
 obtain ⟨u,rfl,rx⟩:=vals1 r
 cases rx
 obtain ⟨its,rv,pl,hz⟩:=I.list hp
 have vl:=hR.length
 have len:its.length=l.length:=by rw[<-rv.length,vl]
 have pair:∀ i,i<its.length->SortT.zaW s.heap (its.getD i .none) (l.getD i (0,0)):=fun i hi=>by
  have ev:vs[i]?=some (vs[i]'(by ac_rfl)):=yaa (by ac_rfl)
  obtain ⟨a,x,e1,e2,e3⟩:=hR.get ev
  obtain ⟨w,hw,rw'⟩:=rv.get ev
  rw[e1] at rw'
  cases rw'
  obtain ⟨ts,tv,tp,_⟩:=I.tuple (SqT.of e3)
  cases tv with
  | cons t1 tv =>
   cases tv with
   | cons t2 tv =>
    cases tv
    obtain ⟨t,rfl⟩:=t1
    obtain ⟨t',rfl⟩:=t2
    obtain ⟨o,eo,oc,n,od⟩:=(show s.heap.IsTuple a _ from tp)
    refine ⟨a,o,n,t,t',?_,eo,oc,?_⟩
    ·rw[yaf,hw];rfl
    ·rw[od,show l.getD i (0,0)=x by rw[yaf,e2];rfl]
 refine SortT.zqT pl.isList (by ac_rfl) pair fun P a1 a2 a3=>?_
 obtain ⟨n,at_⟩:=sortedAll_at s.heap its (ybl (P.toList.map fun i=>its.getD i Value.none))
 have pin:∀ i∈P.toList,i<its.length:=fun i hi=>by
  obtain ⟨j,hj,rfl⟩:=yaw.mp hi
  have hj':j<its.length:=by rw[<-a1.1];simpa using hj
  have:=a1.2 j hj'
  rw[yef,yee (by rw[a1.1];exact hj')] at this
  simpa using this
 have plen:P.toList.length=its.length:=by rw[yed,a1.1]
 have vl':Vals (P.toList.map fun i=>vs.getD i .non) (P.toList.map fun i=>its.getD i Value.none):=zi7 _ fun i hi=>by
  have hi':=pin i hi
  have ev:vs[i]?=some (vs[i]'(by ac_rfl)):=yaa (by ac_rfl)
  obtain ⟨w,hw,rw'⟩:=rv.get ev
  rw[yaf,ev,yaf,hw]
  exact rw'
 have new:s.heap.get? (s.heap.objs.size+1)=none:=ydw (ydk _)
 have nl:(P.toList.map fun i=>vs.getD i .non).length<=sizeLine:=by rw[yab,plen,sizeLine_eq];ac_rfl
 have I1:Inv X pins σ (upd H (s.heap.objs.size+1) (.lst (P.toList.map fun i=>vs.getD i .non))) { s with heap:=sortedAll s.heap its (ybl (P.toList.map fun i=>its.getD i Value.none)),toks:=s.toks } :=
  I.zma (fun b o e=>sortedAll_old e) new hex ⟨nl,_,n,vl',by simpa [seqObj] using at_⟩
 have sm:Same H (upd H (s.heap.objs.size+1) (.lst (P.toList.map fun i=>vs.getD i .non))):=zb (I.hok.gone new) _
 refine ⟨.ref (s.heap.objs.size+1),_,I1,rfl,q _ _ _ (P.toList.map fun i=>l.getD i (0,0)) (I.hok.gone new) sm zf (zkC (by rw[yab,yab]) fun j v x h1 h2=>?_) ?_ ?_⟩
 ·rw[yag] at h1 h2
  obtain ⟨i,hi,rfl⟩:=Option.map_eq_some_iff.mp h1
  rw[hi] at h2
  have h2':l.getD i (0,0)=x:=Option.some.inj h2
  have hi':=pin i (yah hi)
  have ev:vs[i]?=some (vs[i]'(by ac_rfl)):=yaa (by ac_rfl)
  obtain ⟨b,y,e1,e2,e3⟩:=hR.get ev
  have ey:l.getD i (0,0)=y:=by rw[yaf,e2];rfl
  refine ⟨b,by rw[yaf,ev,<-e1];rfl,?_⟩
  rw[<-h2',ey]
  exact sm _ _ e3
 ·have pp:P.toList.Perm (yar l.length):=by
   have:=Array.perm_iff_toList_perm.mp a2
   rw[len] at this
   exact this
  have:=pp.map fun i=>l.getD i (0,0)
  rw[map_getD] at this
  exact this
 ·refine ybd.mpr fun i j hi hj lt=>?_
  rw[yab] at hi hj
  have up:=a3 i j (ydm lt) (by ac_rfl)
  have gi:∀ m (h:m<P.toList.length),P.getD m 0=P.toList[m]:=fun m h=>by
   rw[yef,yee (by simpa using h)]
   simp
  rw[gi i hi,gi j hj] at up
  have:=of_decide_eq_false up
  rw[ycu,ycu]
  ac_rfl
end
noncomputable def zak (l:List (Int × Int)) (k y:Int):List (Int × Int):=if l.any (fun p=>p.1=k) then l.map (fun p=>if p.1=k then (p.1,y) else p) else l++[(k,y)]
noncomputable def zcg (l:List (Int × Int)):List (Int × Int):=l.foldl (fun acc s=>zak acc s.1 s.2) []
inductive KR:List (Int × Value)->List (Int × Int)->Prop
 | nil:KR [] []
 | cons {k y:Int} {t:Tok} {r:List (Int × Value)} {l:List (Int × Int)}:KR r l->KR ((k,.int y t)::r) ((k,y)::l)
theorem KR.length {r:List (Int × Value)} {l:List (Int × Int)} (h:KR r l):r.length=l.length:=by
 induction h with
 | nil=>rfl
 | cons _ ih=>simp[ih]
theorem KR.any {r:List (Int × Value)} {l:List (Int × Int)} {k:Int} (h:KR r l):r.any (fun kv=>kv.1=k)=l.any (fun p=>p.1=k):=by
 induction h with
 | nil=>rfl
 | cons _ ih=>rw[ycy,ycy,ih]
theorem KR.snoc {r:List (Int × Value)} {l:List (Int × Int)} {k y:Int} {t:Tok} (h:KR r l):KR (r++[(k,.int y t)]) (l++[(k,y)]):=by
 induction h with
 | nil=>exact .cons .nil
 | cons _ ih=>exact .cons ih
theorem KR.map {r:List (Int × Value)} {l:List (Int × Int)} {k y:Int} {t:Tok} (h:KR r l):KR (r.map fun kv=>if kv.1=k then (kv.1,.int y t) else kv) (l.map fun p=>if p.1=k then (p.1,y) else p):=by
 induction h with
 | nil=>exact .nil
 | @cons k' y' t' r l _ ih =>
  rw[ybf,ybf]
  by_cases e:k'=k
  ·rw[if_pos e,if_pos e];exact .cons ih
  ·rw[if_neg e,if_neg e];exact .cons ih
theorem KR.stored {r:List (Int × Value)} {l:List (Int × Int)} {k y:Int} {t:Tok} (h:KR r l):KR (stored r k (.int y t)) (zak l k y):=by
 unfold PySem.stored zak
 rw[h.any]
 split
 ·exact h.map
 ·exact h.snoc
theorem KR.get {r:List (Int × Value)} {l:List (Int × Int)} (h:KR r l):∀ {i:Nat} {k:Int} {v:Value},r[i]?=some (k,v)->∃ y t,l[i]?=some (k,y)/\v=.int y t:=by
 induction h with
 | nil=>intro i k v e;simp at e
 | cons _ ih =>
  intro i k v e
  cases i with
  | zero=>cases e;exact ⟨_,_,rfl,rfl⟩
  | succ i=>exact ih e
theorem zj0 (l:List (Int × Int)) (k y:Int):(zak l k y).length<=l.length+1:=by
 unfold zak
 split
 ·rw[yab];ac_rfl
 ·simp
theorem ziY (l acc:List (Int × Int)):(l.foldl (fun acc s=>zak acc s.1 s.2) acc).length<=acc.length+l.length:=by
 induction l generalizing acc with
 | nil=>simp
 | cons s l ih =>
  rw[yca]
  have:=ih (zak acc s.1 s.2)
  have:=zj0 acc s.1 s.2
  rw[yba]
  ac_rfl
theorem ziP (l:List (Int × Int)):(zcg l).length<=l.length:=by
 have:=ziY l []
 simpa [zcg] using this
theorem zmn:typeLookup (.type "list") "keys" = pure none:=by rw[typeLookup_type,builtinLookup_eq_fast];kernel_rfl
theorem zmx {prog:Program} {w:World} {A:Around} {E:Value->Shared->Prop} {s:Shared} {a:Addr} {xs:Array Value} {k:Nat} {Q:Option Value->Shared->Prop}
  (hx:s.heap.get? a=some { cls:=.type "list", dict:=none,data:=.seq xs k,slots:=#[] }) (hA:A.handled=none)
  (h:∀ h' tk,(∀ b o,s.heap.get? b=some o->h'.get? b=some o)->Q none { s with heap:=h',toks:=tk }) :
  wpAny (model prog w) A (getAttr? (.ref a) "keys") Q E s:=by
 obtain ⟨hp,g,d,tk,os⟩:=s
 have hT:∀ tk',(⟨hp,g,d,tk',os⟩:Shared).TypeIs (.ref a) "list" := fun _=>⟨_,hx,rfl⟩
 have f1:=sub_AttributeError
 have f3:=F.slot_list_getattribute.lookup
 have f4:=F.slot_list_getattribute.bind (.ref a)
 have f5:=am_list_getattr_none
 unfold getAttr? getAttrBy? getAttrBy
 repeat (any_goals (first | assumption | exact hT _ | ((with_reducible show wpAny _ _ (call (Value.builtin "list.__getattribute__") _ _) _ _ _);refine call_meets F.slot_list_getattribute (hT _) am_entry_list_getattribute (F.args_list_getattribute_2 _ _) (meets_getattribute_miss_list a xs k #[] "keys" _ zmn (by decide +kernel) (by size_fits)) ⟨hx,hA,fun h' tk' e hx'=>?_⟩) | wp_step))
 obtain ⟨t',u',he⟩:=hx'.there
 show wpAny _ _ (getattributeRaised _ _ _ _ _ _ _) _ _ _
 unfold getattributeRaised
 repeat (any_goals (first | assumption | wp_step))
 exact h _ _ hx'.keeps
theorem zgz:entryFor table "dict.update.loop" = some Builtin.«dict.update.loop»:=entryFor_of_tree (by kernel_rfl)
theorem zb1:plainId "dict.update.loop" = true:=by decide +kernel
section
variable {prog:Program} {w:World} {A:Around} {s:Shared} {R:Result->Shared->Prop}
theorem zbL {h h':Heap} {d:Addr} {kvs:List (Int × Value)} (x:h.DictOf (intKind prog w) d kvs) (k:∀ o,h.get? d=some o->h'.get? d=some o):h'.DictOf (intKind prog w) d kvs:=by
 obtain ⟨o,es,ep,e,r⟩:=x
 exact ⟨o,es,ep,k o e,r⟩
theorem zqD {d it p:Addr} {its:List Value} {l:List (Int × Int)} {h₁:Heap} (hh:A.handled=none) (ndi:d≠it) (ndp:d≠p) (nip:it≠p) (len:its.length=l.length) (h64:its.length<64)
  (hR:∀ h' tk kvs,(∀ b o,b≠d->b≠it->h₁.get? b=some o->h'.get? b=some o)->h'.DictOf (intKind prog w) d kvs->KR kvs (zcg l)->R (.ok (.ret .none)) { s with heap:=h',toks:=tk }) :
  ∀ (k i:Nat) (h:Heap) (tk:Nat) (kvs:List (Int × Value)),its.length-i=k->i<=its.length->h.IsListIter it p i->h.IsList p its.toArray->(∀ j,j<its.length->SortT.zaW h (its.getD j .none) (l.getD j (0,0))) ->
   h.DictOf (intKind prog w) d kvs->KR kvs ((l.take i).foldl (fun acc s=>zak acc s.1 s.2) [])->(∀ b o,b≠d->b≠it->h₁.get? b=some o->h.get? b=some o) ->
   codeAny (model prog w) A (.builtin "dict.update.loop" ⟨[.ref d,.ref it,rawInt i,.none],[]⟩) R { s with heap:=h,toks:=tk }:=by
 intro k
 induction k with
 | zero =>
  intro i h tk kvs hk hi hit hl hp hd hkr hkeep
  have hin:i=its.length:=by ac_rfl
  refine codeAny_builtin zgz ?_
  rw[Around.under_plainId zb1 _]
  show wpAny _ A.in1 (pyNext (.ref it) >>= _) _ _ _
  refine wpAny_bind (wpAny_pyNext_list_end (s:={ s with heap:=h,toks:=tk }) (A:=A.in1) hh hit hl (by simp;ac_rfl) fun h' he=>?_)
  show wpAny _ _ (Builtin.Dict.addKeywords d [] >>= _) _ _ _
  refine wpAny_bind (wpAny_pure (wpAny_pure ?_))
  refine hR h' tk kvs (fun b o b1 b2 e=>he b o b2 (hkeep b o b1 b2 e)) (zbL hd fun o e=>he d o ndi e) ?_
  rw[hin,len,List.take_length] at hkr
  exact hkr
 | succ k ih =>
  intro i h tk kvs hk hi hit hl hp hd hkr hkeep
  have hlt:i<its.length:=by ac_rfl
  obtain ⟨a,oa,n,t,u,ea,eo,oc,odt⟩:=hp i hlt
  have hx:its[i]?=some (.ref a):=by
   rw[yaf,yaa hlt] at ea
   rw[yaa hlt]
   exact congrArg some ea
  refine codeAny_builtin zgz ?_
  rw[Around.under_plainId zb1 _]
  show wpAny _ A.in1 (pyNext (.ref it) >>= _) _ _ _
  refine wpAny_bind (wpAny_pyNext_list_item (s:={ s with heap:=h,toks:=tk }) (A:=A.in1) hit hl (x:=.ref a) (by simpa using hx) fun h' hit' sb=>?_)
  have ait:a≠it:=fun z=>by
   obtain ⟨o,ho,hc,_⟩:=hit
   rw[z,ho] at eo
   cases eo
   rw[hc] at oc
   exact absurd oc (by decide)
  have ad:a≠d:=fun z=>by
   obtain ⟨o,es,ep,ho,hc,_⟩:=id hd
   rw[z,ho] at eo
   cases eo
   have:=hc.1
   rw[this] at oc
   exact absurd oc (by decide)
  have eo':h'.get? a=some oa:=(sb.2 a ait).trans eo
  have hT:({ s with heap:=h',toks:=tk }:Shared).TypeIs (.ref a) "tuple" := ⟨oa,eo',oc⟩
  have hd':h'.DictOf (intKind prog w) d kvs:=zbL hd fun o e=>(sb.2 d ndi).trans e
  show wpAny _ _ (holding [Value.ref a] _ >>= _) _ _ _
  refine wpAny_bind (wpAny_holding ?_)
  refine wpAny_bind (wpAny_tryCatch ?_)
  unfold Builtin.Dict.pairItems
  refine wpAny_bind (wpAny_typeOf hT ?_)
  rw[if_pos (by decide)]
  refine wpAny_bind (wpAny_seqItems eo' odt ?_)
  refine wpAny_pure ?_
  show wpAny _ _ (holding [Value.int (l.getD i (0,0)).1 t,Value.int (l.getD i (0,0)).2 u] (dictSet d (Value.int (l.getD i (0,0)).1 t) (Value.int (l.getD i (0,0)).2 u))) _ _ _
  refine wpAny_holding ?_
  have kl:=hkr.length
  have fl:=ziY (l.take i) []
  rw[yao] at fl
  refine wpAny_dictSet_pairs (knd:=intKind prog w) (k:=(l.getD i (0,0)).1) (by first | exact Value.isInt_int _ _ | (simp[intKind,Value.isInt];done) | exact beq_self_eq_true _) hd' (fun h2 hd2 sb2=>?_) (by rw[sizeLine_eq];simp at fl;ac_rfl)
  refine wpAny_pure ⟨plainId_quiet zb1 _,?_⟩
  have k2:∀ b o,b≠d->b≠it->h.get? b=some o->h2.get? b=some o:=fun b o b1 b2 e=>(sb2.2 b b1).trans ((sb.2 b b2).trans e)
  refine ih (i+1) h2 _ _ (by ac_rfl) (by ac_rfl) (hit'.at fun o e=>(sb2.2 it ndi.symm).trans e) ?_ (fun j hj=>(hp j hj).keep fun b o eb e=>k2 b o ?_ ?_ e) hd2 ?_ fun b o b1 b2 e=>k2 b o b1 b2 (hkeep b o b1 b2 e)
  ·obtain ⟨o,e,r⟩:=hl
   exact ⟨o,k2 p o ndp.symm nip.symm e,r⟩
  ·intro z
   obtain ⟨b',o',n',t',u',e1,e2,e3,_⟩:=hp j hj
   rw[eb] at e1
   cases e1
   obtain ⟨od,es,ep,ho,hc,_⟩:=id hd
   rw[z,ho] at e2
   cases e2
   rw[hc.1] at e3
   exact absurd e3 (by decide)
  ·intro z
   obtain ⟨b',o',n',t',u',e1,e2,e3,_⟩:=hp j hj
   rw[eb] at e1
   cases e1
   obtain ⟨oi,ho,hc,_⟩:=id hit
   rw[z,ho] at e2
   cases e2
   rw[hc] at e3
   exact absurd e3 (by decide)
  ·have tk:l.take (i+1)=l.take i++[l.getD i (0,0)]:=by
    rw[ybi,yaa (by ac_rfl),yaf,yaa (by ac_rfl)]
    rfl
   rw[tk,List.foldl_append]
   exact hkr.stored
theorem zld {E:Value->Shared->Prop} {p:Addr} {its:List Value} {n:Nat} {l:List (Int × Int)} {Q:Value->Shared->Prop} (hh:A.handled=none) (hl:s.heap.get? p=some { cls:=.type "list", dict:=none,data:=.seq its.toArray n,slots:=#[] }) (len:its.length=l.length) (h64:its.length<64)
  (hp:∀ j,j<its.length->SortT.zaW s.heap (its.getD j .none) (l.getD j (0,0)))
  (h:∀ h' tk kvs,(∀ b o,s.heap.get? b=some o->h'.get? b=some o)->h'.DictOf (intKind prog w) s.heap.objs.size kvs->KR kvs (zcg l)->Q (.ref s.heap.objs.size) { s with heap:=h',toks:=tk }) :
  wpAny (model prog w) A (call (.type "dict") [.ref p]) Q E s:=by
 have hlt:p<s.heap.objs.size:=ydr hl
 refine callType_codes (Q₁:=fun obj s₁=>obj=.ref s.heap.objs.size/\s₁={ s with heap:=s.heap.push { cls:=.type "dict", data:=.dict #[] } }) F.kt_called_dict (F.kt_typeCall_dict_1 _) F.entry_dict_init (kt_code_dict_new _ ⟨rfl,rfl⟩) ?_
 rintro obj s₁ ⟨rfl,rfl⟩
 have hnew:(s.heap.push { cls:=.type "dict", data:=.dict #[] }).DictOf (intKind prog w) s.heap.objs.size []:=Heap.DictOf.new s.heap
 have hl1:(s.heap.push { cls:=.type "dict", data:=.dict #[] }).get? p=some { cls:=.type "list", dict:=none,data:=.seq its.toArray n,slots:=#[] }:=ydq _ hl
 refine ⟨hnew.typeIs,F.args_dict_init_2 _ _,?_⟩
 unfold Builtin.«dict.__init__»
 refine wpAny_bind ?_
 unfold Builtin.Dict.selfAndRest
 refine wpAny_bind (wpAny_notOrdered_dict hnew.typeIs ?_)
 show wpAny _ _ (pure (s.heap.objs.size,[Value.ref p])) _ _ _
 refine wpAny_pure ?_
 show wpAny _ _ (Builtin.Dict.updateFrom "dict.__init__" s.heap.objs.size (.ref p) [] .none) _ _ _
 unfold Builtin.Dict.updateFrom
 refine wpAny_bind (wpAny_typeOf (T:="list") ⟨_,hl1,rfl⟩ ?_)
 rw[if_pos (by decide)]
 refine wpAny_bind (zmx (s:={ s with heap:=s.heap.push { cls:=.type "dict", data:=.dict #[] } }) hl1 hh fun h2 tk2 k2=>?_)
 rw[if_pos (show (none:Option Value).isNone=true from rfl)]
 refine wpAny_bind (wpAny_rule ?_)
 have hl2:=k2 p _ hl1
 have hd2:=zbL (h':=h2) hnew fun o e=>k2 _ o e
 have lt2:s.heap.objs.size<h2.objs.size:=by
  obtain ⟨o,es,ep,e,_⟩:=hd2
  exact ydr e
 have hlL:h2.IsList p its.toArray:=⟨_,hl2,rfl,n,rfl⟩
 refine wpAny_bind (wpAny_pyIter_list hlL ?_)
 refine wpAny_pure ⟨plainId_quiet zb1 _,?_⟩
 refine zqD (s:=s) (A:=A.in1) (h₁:=h2) (d:=s.heap.objs.size) (it:=h2.objs.size) (p:=p) (its:=its) (l:=l) hh (yda lt2) (ydj hlt) (ydj (ydn hlt lt2)) len h64 (fun h' tk kvs kp hd' hkr=>?_)
  its.length 0 _ tk2 [] (Nat.sub_zero _) (ydc _) ⟨_,yds _ rfl,rfl,rfl⟩ (hlL.push _) (fun j hj=>(hp j hj).keep fun a o _ e=>ydq _ (k2 a o (ydq _ e))) (zbL hd2 fun o e=>ydq _ e) .nil fun b o b1 b2 e=>ydq _ e
 refine ⟨rfl,h h' tk kvs (fun b o e=>kp b o (yda (ydr e)) (yda (ydn (ydr e) lt2)) (k2 b o (ydq _ e))) hd' hkr⟩
end
noncomputable def zbB (P:Program) (w:World) (d:Addr) (l:List (Int × Int)):HO:=.ext fun h=>(d == sysModules)=false/\∃ kvs,h.DictOf (intKind P w) d kvs/\KR kvs l
noncomputable def zo8 (v d:Addr):HO:=.ext fun h=>h.IsItemsView v d
section
variable {X:Cx} {pins:List (Addr × Obj)} {σ:St} {H:Hp} {s:Shared}
theorem zpw {vs:List V} {l:List (Int × Int)} {p:Addr} (I:Inv X pins σ H s) (hp:SqL X.K H p vs) (hR:zu X.K H vs l):∃ its,Vals vs its/\s.heap.IsList p its.toArray/\its.length=l.length/\∀ i,i<its.length->SortT.zaW s.heap (its.getD i .none) (l.getD i (0,0)):=by
 obtain ⟨its,rv,pl,hz⟩:=I.list hp
 have vl:=hR.length
 refine ⟨its,rv,pl.isList,by rw[<-rv.length,vl],fun i hi=>?_⟩
 have len:its.length=l.length:=by rw[<-rv.length,vl]
 have ev:vs[i]?=some (vs[i]'(by ac_rfl)):=yaa (by ac_rfl)
 obtain ⟨a,x,e1,e2,e3⟩:=hR.get ev
 obtain ⟨w,hw,rw'⟩:=rv.get ev
 rw[e1] at rw'
 cases rw'
 obtain ⟨ts,tv,tp,_⟩:=I.tuple (SqT.of e3)
 cases tv with
 | cons t1 tv =>
  cases tv with
  | cons t2 tv =>
   cases tv
   obtain ⟨t,rfl⟩:=t1
   obtain ⟨t',rfl⟩:=t2
   obtain ⟨o,eo,oc,n,od⟩:=(show s.heap.IsTuple a _ from tp)
   refine ⟨a,o,n,t,t',?_,eo,oc,?_⟩
   ·rw[yaf,hw];rfl
   ·rw[od,show l.getD i (0,0)=x by rw[yaf,e2];rfl]
theorem zoz (hc:X.calm=true):zaN X (.type "dict") (fun xs H Q=>∃ (p:Addr) (vs:List V) (l:List (Int × Int)),xs=[.ref p]/\H p=some (.lst vs)/\zu X.K H vs l/\l.length<64 /\
  ∀ (d:Addr) (H':Hp),H d=none->Same H H'->H' d=some (zbB X.prog X.w d (zcg l))->Q (.ref d) H'):=by
 intro pins s σ H xs us Q I r h
 obtain ⟨p,vs,l,rfl,hp,hR,hl,q⟩:=h
 obtain ⟨u,rfl,rx⟩:=vals1 r
 cases rx
 obtain ⟨its,rv,pl,len,pr⟩:=zpw I (SqL.of hp) hR
 obtain ⟨z,its',n',rv',e'⟩:=(show zaf X.prog X.w H s.heap p (.lst vs) from I.hok p _ hp)
 obtain ⟨o,eo,oc,n,od⟩:=pl
 have ei:its=its':=by
  rw[e'] at eo
  cases eo
  have:=od
  simpa using (Data.seq.inj this).1.symm
 subst ei
 have big:sysModules<s.heap.objs.size:=ydn (by decide) (show mainGlobals<s.heap.objs.size from (I.mod.glob.keeps I.bk).lt)
 have lo:(s.heap.objs.size == sysModules)=false:=beq_eq_false_iff_ne.mpr (Ne.symm (yda big))
 refine zld (I.ok.hd hc) e' len (by ac_rfl) pr fun h' tk kvs kp hd hkr=>?_
 refine ⟨.ref s.heap.objs.size,_,I.laid (o:=zbB X.prog X.w s.heap.objs.size (zcg l)) kp (ycz _) ⟨⟨lo,kvs,hd,hkr⟩,(let ⟨o,_,_,e,_⟩:=hd;⟨o,e⟩),fun h1 h2 ⟨lo',kv,x,y⟩ e=>⟨lo',kv,zbL x e,y⟩⟩,rfl,q _ _ (I.hok.fresh (ycz _)) (zb (I.hok.fresh (ycz _)) _) zf⟩
def zsn (P:Program) (w:World) (to:TE):TE:=fun σ H Q=>to σ H fun x H1=>∃ (d:Addr) (l:List (Int × Int)),x=.ref d/\H1 d=some (zbB P w d l)/\∀ (v:Addr) (H':Hp),H1 v=none->Same H1 H'->H' v=some (zo8 v d)->Q (.ref v) H'
theorem zmV {o:Expr} {to:TE} {apos cpos:Pos} (ho:PE X o to)
  (hbase:attributeBase o "items" X.env (eval o X.env)=eval o X.env:=by rfl) (hline:(apos.endLine == cpos.line)=true:=by rfl):PE X (.Call (.Attribute o "items" apos) [] [] cpos) (zsn X.prog X.w to):=by
 intro pins s σ H Q I h
 refine wpAny_Call_method0_late hbase hline (thn (ho pins s σ H _ I h) fun v s1 ⟨x,H1,I1,r1,d,l,ex,hd,q1⟩=>?_)
 subst ex
 obtain rfl:v=Value.ref d:=r1
 obtain ⟨lo,kvs,hD,hkr⟩:=(I1.hok d _ hd).1
 refine ⟨"dict", "dict.items", F.plainAttrs_dict,F.slot_dict_items,F.type_dict_items,hD.typeIs,hD.mapOf.noDict,Calls.callWith_builtin rfl (PySem.evalArgs_none ?_)⟩
 refine call_meetsIn PySem.F.slot_dict_items hD.typeIs PySem.F.entry_dict_items (PySem.F.args_dict_items_1 _) (meets_dict_items (intKind X.prog X.w) d lo) ⟨⟨kvs,hD⟩,?_⟩
 exact ⟨.ref s1.heap.objs.size,_,I1.laid (t':=s1.toks) (o:=zo8 s1.heap.objs.size d) (fun b ob q=>ydq _ q) (ycz _) ⟨⟨_,yds _ rfl,rfl,rfl⟩,⟨_,yds _ rfl⟩,fun h1 h2 ⟨o,e,r⟩ k=>⟨o,k o e,r⟩⟩,rfl,
  q1 _ _ (I1.hok.fresh (ycz _)) (zb (I1.hok.fresh (ycz _)) _) zf⟩
theorem zjE {h':Heap} {tk:Nat} (hex:X.ex=[]) (I:Inv X pins σ H s) (k:∀ b o,s.heap.get? b=some o->h'.get? b=some o):∀ (bs:List (Addr × (Int × Int))),(bs.map (·.1)).Nodup->(∀ b∈bs,s.heap.get? b.1=none/\SortT.zaW h' (.ref b.1) b.2) ->
  ∃ H',Inv X pins σ H' { s with heap:=h',toks:=tk }/\Same H H'/\(∀ b∈bs,H' b.1=some (.tup [.int b.2.1,.int b.2.2]))/\∀ a,a ∉ bs.map (·.1)->H' a=H a
 | [],_,_=>⟨H,I.kept k,Same.refl _,(fun _ hb=>absurd hb (ybh)),fun _ _=>rfl⟩
 | b::bs,nd,hb=>by
  obtain ⟨H1,I1,s1,t1,o1⟩:=zjE hex I k bs (ybn.mp nd).2 fun c hc=>hb c (yak _ hc)
  obtain ⟨hn,a,o,n,t,u,ea,eo,oc,od⟩:=hb b (yal ..)
  cases ea
  obtain ⟨f1,f2,f3,f4⟩:=I.zlL hn hex
  have nb:b.1 ∉ bs.map (·.1):=(ybn.mp nd).1
  have gone:H1 b.1=none:=by rw[o1 _ nb];exact I.hok.gone hn
  refine ⟨_,I1.track (o:=.tup [.int b.2.1,.int b.2.2]) gone f1 f2 f3 f4 ⟨by show 2<=sizeLine;rw[sizeLine_eq];ac_rfl,[.int b.2.1 t,.int b.2.2 u],.cons ⟨t,rfl⟩ (.cons ⟨u,rfl⟩ .nil),⟨o,eo,oc,n,od⟩⟩,s1.trans (zb gone _),fun c hc=>?_,fun c hc=>?_⟩
  ·rcases yaj.mp hc with rfl | hc
   ·exact zf
   ·rw[zt (fun z=>nb (by rw[<-z];exact yae.mpr ⟨c,hc,rfl⟩))]
    exact t1 c hc
  ·rw[ybf,yaj,not_or] at hc
   rw[zt hc.1]
   exact o1 c hc.2
theorem zh2 (hc:X.calm=true) (hex:X.ex=[]:=by rfl):zaN X (.builtin "sorted") (fun xs H Q=>∃ (v d:Addr) (l:List (Int × Int)),xs=[.ref v]/\H v=some (zo8 v d)/\H d=some (zbB X.prog X.w d l)/\l.length<64 /\
  ∀ (q:Addr) (H':Hp) (ws:List V) (r:List (Int × Int)),H q=none->Same H H'->H' q=some (.lst ws)->zu X.K H' ws r->r.Perm l->(r.Pairwise fun s t=>s.1<=t.1)->Q (.ref q) H'):=by
 intro pins s σ H xs us Q I r h
 obtain ⟨v,d,l,rfl,hV,hD,hl,q⟩:=h
 obtain ⟨u,rfl,rx⟩:=vals1 r
 cases rx
 have hv:s.heap.IsItemsView v d:=(I.hok v _ hV).1
 obtain ⟨lo,kvs,hd,hkr⟩:=(I.hok d _ hD).1
 obtain ⟨od,es,ep,rd⟩:=hd
 have hat:s.heap.DictAt (intKind X.prog X.w) d kvs ep:=⟨od,es,rd⟩
 have kl:=hkr.length
 refine Calls.call_function_entry kind_sorted plain_sorted entry_sorted (args_sorted1 _) ?_
 unfold Builtin.«sorted»
 refine wpAny_bind (m:=checkCount "sorted" 1 1 _) (wpAny_pure ?_)
 refine wpAny_bind (PySem.W.kdx_collect (A:=X.A.in1) (knd:=intKind X.prog X.w) (kvs:=kvs) (ep:=ep) (I.ok.hd hc) hv hat (by rw[sizeLine_eq];ac_rfl) fun h1 tk as k1 al hG=>?_)
 refine wpAny_bind (wpAny_newList ?_ (by rw[yab,al,sizeLine_eq];ac_rfl))
 have an:as.length=l.length:=by ac_rfl
 have asl:∀ a∈as,a<h1.objs.size:=fun a ha=>hG.there ha
 have fresh:∀ a∈as,s.heap.get? a=none:=fun a ha=>ydw (ydm (hG.above a ha))
 have pr:∀ i,i<as.length->SortT.zaW h1 ((as.map Value.ref).getD i .none) (l.getD i (0,0)):=fun i hi=>by
  obtain ⟨key,k,x,e1,e2,e3⟩:=hG.pairs i as[i] (yaa hi)
  obtain ⟨y,t,e4,rfl⟩:=hkr.get e1
  obtain ⟨t',rfl⟩:=Value.isInt_shape e2
  refine ⟨as[i],_,0,t',t,?_,e3,rfl,?_⟩
  ·rw[yaf,yag,yaa hi];rfl
  ·rw[yaf,e4];rfl
 have hoL:(h1.push (seqObj "list" (as.map Value.ref).toArray 0)).get? h1.objs.size=some (seqObj "list" (as.map Value.ref).toArray 0):=yds _ rfl
 show wpAny _ _ _ _ _ { s with heap:=h1.push (seqObj "list" (as.map Value.ref).toArray 0),toks:=tk }
 refine wpAny_bind (wpAny_holding (wpAny_call_entry slot_list_sort ⟨_,hoL,rfl⟩ entry_list_sort (SortT.ziX (f:=fun i=>l.getD i (0,0)) hoL (by rw[yab];ac_rfl) (fun i hi=>(pr i (by rw[yab] at hi;exact hi)).keep fun a o _ e=>ydq _ e) fun P a1 a2 a3=>⟨_,rfl,?_⟩) (args_list_sort _)))
 refine wpAny_pure ⟨_,rfl,?_⟩
 rw[yab] at a1 a2 a3
 obtain ⟨out,hout⟩:∃ out,out=(P.toList.map fun i=>(as.map Value.ref).getD i Value.none):=⟨_,rfl⟩
 show EP X pins σ Q (Value.ref h1.objs.size) { s with heap:=sortedHeap (h1.push (seqObj "list" (as.map Value.ref).toArray 0)) h1.objs.size (as.map Value.ref) (ybl (P.toList.map fun i=>(as.map Value.ref).getD i Value.none)),toks:=tk }
 rw[<-hout]
 have keep3:∀ b o,h1.get? b=some o->(sortedHeap (h1.push (seqObj "list" (as.map Value.ref).toArray 0)) h1.objs.size (as.map Value.ref) out.toArray).get? b=some o:=fun b o e =>
  (sortedHeap_old (yda (ydr e)) (by rw[ydu];exact ydh (ydr e))).trans (ydq _ e)
 obtain ⟨n3,at3⟩:=sortedHeap_at (out:=out.toArray) hoL
 generalize sortedHeap (h1.push (seqObj "list" (as.map Value.ref).toArray 0)) h1.objs.size (as.map Value.ref) out.toArray=h3 at keep3 at3 ⊢
 have zm:(as.zip l).map (·.1)=as:=List.map_fst_zip (by ac_rfl)
 have nd:((as.zip l).map (·.1)).Nodup:=by
  rw[zm]
  exact hG.rise.imp fun {a b} z=>yda z
 have zin:∀ i,i<as.length->(as.getD i 0,l.getD i (0,0))∈as.zip l:=fun i hi=>by
  refine yah (i:=i) ?_
  rw[List.getElem?_zip_eq_some]
  have hi2:i<l.length:=by ac_rfl
  have g1:as.getD i 0=as[i]:=by rw[yaf,yaa hi];rfl
  have g2:l.getD i (0,0)=l[i]:=by rw[yaf,yaa hi2];rfl
  rw[g1,g2]
  exact ⟨yaa hi,yaa hi2⟩
 obtain ⟨H1,I1,s1,t1,o1⟩:=zjE (h':=h3) (tk:=tk) hex I (fun b o e=>keep3 b o (k1 b o e)) (as.zip l) nd fun b hb=>by
  obtain ⟨i,hi⟩:=ycr.mp hb
  rw[List.getElem?_zip_eq_some] at hi
  have hlt:i<as.length:=(yad.mp hi.1).1
  refine ⟨fresh _ (yah hi.1),?_⟩
  have:=(pr i hlt).keep (h':=h3) fun a o _ e=>keep3 a o e
  rw[yaf,yag,hi.1,yaf,hi.2] at this
  exact this
 have hnL:s.heap.get? h1.objs.size=none:=by
  cases e:s.heap.get? h1.objs.size with
  | none=>rfl
  | some o=>exact absurd (ydr (k1 _ o e)) (ydf _)
 obtain ⟨f1,f2,f3,f4⟩:=I.zlL hnL hex
 have nLa:h1.objs.size ∉ (as.zip l).map (·.1):=by
  rw[zm]
  exact fun z=>ydf _ (asl _ z)
 have goneL:H1 h1.objs.size=none:=by rw[o1 _ nLa];exact I.hok.gone hnL
 have pin:∀ i∈P.toList,i<as.length:=fun i hi=>by
  obtain ⟨j,hj,rfl⟩:=yaw.mp hi
  have hj':j<as.length:=by rw[<-a1.1];simpa using hj
  have:=a1.2 j hj'
  rw[yef,yee (by rw[a1.1];exact hj')] at this
  simpa using this
 have plen:P.toList.length=as.length:=by rw[yed,a1.1]
 have vl':Vals (P.toList.map fun i=>V.ref (as.getD i 0)) out:=by
  rw[hout]
  refine zi7 _ fun i hi=>?_
  have hi':=pin i hi
  rw[yaf,yaf,yag,yaa hi']
  rfl
 have I2:=I1.track (o:=.lst (P.toList.map fun i=>V.ref (as.getD i 0))) goneL f1 f2 f3 f4 ⟨by rw[yab,plen,sizeLine_eq];ac_rfl,out,n3,vl',by simpa [seqObj] using at3⟩
 have sm:Same H (upd H1 h1.objs.size (.lst (P.toList.map fun i=>V.ref (as.getD i 0)))):=s1.trans (zb goneL _)
 refine ⟨.ref h1.objs.size,_,I2,rfl,q _ _ _ (P.toList.map fun i=>l.getD i (0,0)) (I.hok.gone hnL) sm zf (zkC (by rw[yab,yab]) fun j v x e1 e2=>?_) ?_ ?_⟩
 ·rw[yag] at e1 e2
  obtain ⟨i,hi,rfl⟩:=Option.map_eq_some_iff.mp e1
  rw[hi] at e2
  have e2':l.getD i (0,0)=x:=Option.some.inj e2
  have hi':=pin i (yah hi)
  refine ⟨_,rfl,?_⟩
  rw[<-e2',zt (fun z=>nLa (by rw[zm,<-z,yaf,yaa hi'];exact ych hi'))]
  exact t1 _ (zin i hi')
 ·have pp:P.toList.Perm (yar l.length):=by
   have:=Array.perm_iff_toList_perm.mp a2
   rw[an] at this
   exact this
  have:=pp.map fun i=>l.getD i (0,0)
  rw[map_getD] at this
  exact this
 ·refine ybd.mpr fun i j hi hj lt=>?_
  rw[yab] at hi hj
  have up:=a3 i j (ydm lt) (by ac_rfl)
  have gi:∀ m (h:m<P.toList.length),P.getD m 0=P.toList[m]:=fun m h=>by
   rw[yef,yee (by simpa using h)]
   simp
  rw[gi i hi,gi j hj] at up
  have:=of_decide_eq_false up
  rw[ycu,ycu]
  ac_rfl
end
end L2
namespace Dbt
noncomputable def mx (a b:Int):Int:=if b > a then b else a
noncomputable def mn (a b:Int):Int:=if b<a then b else a
theorem zhc {a b:Int}:a<=mx a b/\b<=mx a b/\(mx a b=a\/mx a b=b):=by unfold mx;split <;> ac_rfl
theorem zo1 {a b:Int}:mn a b<=a/\mn a b<=b/\(mn a b=a\/mn a b=b):=by unfold mn;split <;> ac_rfl
inductive Wd where
 | lend | fee | turn | take | grow
noncomputable def step (u:Int) (w:Wd) (x m n:Int):Int × Int :=
 match w with
 | .lend=>(mn (m+x) (mx 0 ((n+u*x) / u)),n+u*x)
 | .fee=>(mn m (mx 0 ((n+u*x) / u)),n+u*x)
 | .take=>(mn m (mx 0 ((n+u * -x) / u)),n+u * -x)
 | .turn=>(mx 0 (n / u),n)
 | .grow=>(m,n+x)
noncomputable def Okd:Wd->Int->Prop
 | .lend,x=>0<=x
 | .grow,x=>0<=x
 | _,_=>True
def Good (u m n:Int):Prop:=0<=m/\m<=mx 0 (n / u)
theorem good0 (u:Int):Good u 0 0:=⟨ydx _,zhc.1⟩
theorem zcJ {u:Int} {w:Wd} {x m n:Int} (hu:0<u) (ok:Okd w x) (g:Good u m n):Good u (step u w x m n).1 (step u w x m n).2:=by
 obtain ⟨g0,g1⟩:=g
 cases w with
 | lend =>
  have h0:0<=x:=ok
  have:=zhc (a:=0) (b:=(n+u*x) / u)
  have:=zo1 (a:=m+x) (b:=mx 0 ((n+u*x) / u))
  show 0<=mn (m+x) (mx 0 ((n+u*x) / u))/\mn (m+x) (mx 0 ((n+u*x) / u))<=mx 0 ((n+u*x) / u)
  ac_rfl
 | fee =>
  have:=zhc (a:=0) (b:=(n+u*x) / u)
  have:=zo1 (a:=m) (b:=mx 0 ((n+u*x) / u))
  show 0<=mn m (mx 0 ((n+u*x) / u))/\mn m (mx 0 ((n+u*x) / u))<=mx 0 ((n+u*x) / u)
  ac_rfl
 | take =>
  have:=zhc (a:=0) (b:=(n+u * -x) / u)
  have:=zo1 (a:=m) (b:=mx 0 ((n+u * -x) / u))
  show 0<=mn m (mx 0 ((n+u * -x) / u))/\mn m (mx 0 ((n+u * -x) / u))<=mx 0 ((n+u * -x) / u)
  ac_rfl
 | turn =>
  have:=zhc (a:=0) (b:=n / u)
  show 0<=mx 0 (n / u)/\mx 0 (n / u)<=mx 0 (n / u)
  ac_rfl
 | grow =>
  have h0:0<=x:=ok
  have h1:n / u<=(n+x) / u:=Int.ediv_le_ediv hu (by ac_rfl)
  have:=zhc (a:=0) (b:=n / u)
  have:=zhc (a:=0) (b:=(n+x) / u)
  show 0<=m/\m<=mx 0 ((n+x) / u)
  ac_rfl
variable {u s0 s1 m1 n1 m2 n2 x y:Int}
noncomputable def t1 (s1:Int):Option (Wd × Int)->Wd × Int->Int
 | some (.fee,x),(.fee,y)=>s1+y-x
 | _,_=>s1
end Dbt
namespace L2
open PySem PySem.Spec PyProof.Rows
section
variable {X:Cx}
end
structure MkI (K:W.Frag) (C:Addr):Prop where
 makes:PySem.W.makesIn K C=true
 kp:PySem.W.keepIn K (.ref C)=true
def zsV (C:Addr) (f:Str) (ta:TE):TE:=fun σ H Q=>ta σ H fun x H1=>∃ a dx fs v,x=.ref a/\H1 a=some (.ins C dx fs)/\fs.lookup f=some v/\Q v H1
def zta (C:Addr) (f:Str) (ta tv:TE):TS:=fun D σ H=>tv σ H fun y H1=>ta σ H1 fun x H2=>∃ a dx fs,x=.ref a/\H2 a=some (.ins C dx fs)/\fs.length<1000/\D.nx σ (upd H2 a (.ins C dx (zat f y fs)))
section
variable {X:Cx} {C:Addr} {x m f:Str} {p pos pos' apos:Pos} {e o value:Expr} {es:List Expr} {ta tv:TE} {t:TA} {j k:Nat} {ps:List Str} {sp:Sp}
theorem zbn (hc:Cls X.K C) (hn:zY X.K C f) (he:PE X e ta) (hb:attributeBase e f X.env (eval e X.env)=eval e X.env:=by rfl):PE X (.Attribute e f pos) (zsV C f ta):=by
 intro pins s σ H Q I h
 refine zow hb (thn (he pins s σ H _ I h) fun u s1 ⟨x,H1,I1,rx,a,dx,fs,v,ex,ea,l,q⟩=>?_)
 subst ex
 obtain rfl:u=Value.ref a:=rx
 exact zjw I1 ea hc hn l fun u' s2 I2 ru=>⟨v,H1,I2,ru,q⟩
theorem zbl (hc:Cls X.K C) (hn:zY X.K C f) (ha:PE X o ta) (hv:PE X value tv) (hs:swapsWith value (some (.Attribute o f pos')) pos.line X.env=pure false:=by rfl):PS X (.Assign [.Attribute o f pos'] value pos) (zta C f ta tv):=by
 intro pins s σ H D I h
 refine plainObj_wpAny_Assign_Attribute (thn (hv pins s σ H _ I h) fun u s1 ⟨y,H1,I1,ry,q⟩=>thn (ha pins s1 σ H1 _ I1 q) fun ov s2 ⟨x,H2,I2,rx,a,dx,fs,ex,ea,l,q2⟩=>?_) hs
 subst ex
 obtain rfl:ov=Value.ref a:=rx
 exact zju I2 ea hc hn l ry fun s3 I3=>⟨σ,_,I3,q2⟩
theorem zP {pl:Sem Bool} (D:zG X.prog X.w X.K X.mg X.base j C m ps sp) (hc:Cls X.K C) (hr:Room k X.A) (he:PE X o ta) (hj:j<=k:=by decide)
  (ht:eval (.Call (.Attribute o m apos) [] [] pos) X.env=(do
   let ov <-eval o X.env
   standAt apos.atName
   let (f,first) <-holding [ov] (getMethod ov m pl)
   callWith pos f first (backTo pos (starEach [] X.env)) (backToKw pos (keywordEach [] X.env))):=by rfl) :
  PE X (.Call (.Attribute o m apos) [] [] pos) (zrk C m sp [] E0 ta zkk):=by
 obtain ⟨f,fd,F,hm,hb⟩:=D.ex
 exact zqZ (pl:=pl) he hc hm F (hr.mono hj) (.all hb) .nil ziG ht
theorem zby (M:MkI X.K C) (D:zG X.prog X.w X.K X.mg X.base j C "__init__" ps sp) (hr:Room k X.A) (hm:X.mg x=some (.ref C)) (ha:PA X (e::es) t) (hj:j+1<=k:=by decide) (hg:Gl X x:=by rfl)
  (hdb:(x == ("__debug__" : Str))=false:=by decide) (he:starEach (e::es) X.env=(false,eval e X.env)::starEach es X.env:=by rfl) (hpl:(backTo pos (starEach es X.env)).any (·.1)=false:=by rfl) :
  PE X (.Call (.Name x p) (e::es) [] pos) (zrl C sp [] E0 t):=by
 obtain ⟨f,fd,F,hme,hb⟩:=D.ex
 exact zrS ⟨M.makes,hme.at_,hme.fn,M.kp⟩ F (hr.mono hj) hg hm (.all hb) .nil ziG ha hdb he hpl
end
section
variable {K:W.Frag} {x:Str} {C f:Addr}
theorem zc7 (a:PySem.W.nsIn K mainGlobals x=some (some (.ref C))) (h1:PySem.W.makesIn K C=true) (h3:PySem.W.keepIn K (.ref C)=true):MkI K (cA K x):=by
 rw[zdb a];exact ⟨h1,h3⟩
end
theorem zp {H:Hp} {p:Addr} (o:HO) (_h:H p=none):(upd H p o) p=some o:=zf
section
variable {H H':Hp} {xs ys zs:List V} {l r:List (Dbt.Wd × Int)} {p:Addr} {d:Dbt.Wd × Int}
end
theorem zkP {X:Cx}:zaN X (.type "int") (fun xs H Q=>∃ k,xs=[.bl k]/\∀ t:Int,t=(if k then 1 else 0)->(0<=t/\t<=1)->Q (.int t) H):=by
 intro pins s σ H xs us Q I r h
 obtain ⟨k,e,q⟩:=h
 exact zfA pins s σ H xs us Q I r (.inr ⟨k,e,q _ rfl (by cases k <;> decide)⟩)
structure zqi (K:W.Frag) (C:Addr):Prop where
 ha:PySem.W.findIn K (.ref C) "__class__" = some (some (.builtin "object.__class__"))
 hn:PySem.W.specialIn K (.builtin "object.__class__") "__get__" = some (some (.builtin "getset_descriptor.__get__"))
 htk:PySem.W.takesIn K (.builtin "object.__class__")=some true
 hm:PySem.W.mroIn K C (.type "object")=some true
theorem zis {K:W.Frag} {x:Str} {C:Addr} (a:PySem.W.nsIn K mainGlobals x=some (some (.ref C))) (h1:PySem.W.findIn K (.ref C) "__class__" = some (some (.builtin "object.__class__")))
  (h2:PySem.W.specialIn K (.builtin "object.__class__") "__get__" = some (some (.builtin "getset_descriptor.__get__"))) (h3:PySem.W.takesIn K (.builtin "object.__class__")=some true) (h4:PySem.W.mroIn K C (.type "object")=some true):zqi K (cA K x):=by
 rw[zdb a];exact ⟨h1,h2,h3,h4⟩
theorem zpn {X:Cx}:zaN X (.builtin "isinstance") (fun xs H Q=>∃ x t D b,xs=[x,.ref D]/\zcB X.K H x t/\PySem.W.kitOne X.K t (.ref D)=some b/\Q (.bl b) H):=by
 intro pins s σ H xs us Q I r h
 obtain ⟨x,t,D,b,rfl,ty,e,q⟩:=h
 obtain ⟨u,w',rfl,rx,rn⟩:=vals2 r
 cases rn
 exact zkN I rx ty e fun tk=>⟨.bl b,H,I.tok tk,rfl,q⟩
theorem ztC {s:Str} {A B:Prop} (h:A):if decide (V.str s=V.str s)=true then A else B:=by rw[if_pos (by simp)];exact h
theorem ztO {s t:Str} {A B:Prop} (ne:s≠t) (h:B):if decide (V.str s=V.str t)=true then A else B:=by rw[if_neg (by simpa using ne)];exact h
structure zmz (K:W.Frag) (C:Addr) (m qual:Str) (st:Stmt) (ps:List Str):Prop where
 ex:∃ (f:Addr) (fd:FuncData),Fun K m qual st f fd/\(PySem.W.specialIn K (.ref C) "__getattribute__" = some (some (.builtin "type.__getattribute__"))/\PySem.W.readsIn K C (.type "type")=true /\
  PySem.W.findCls K (.ref C) (.type "type") m=some (.val (.ref f))/\PySem.W.handedIn (.ref f)=true)/\∀ us:List Value,us.length=ps.length->bindArgs fd ⟨us,[]⟩=pure (ps.zip us)
structure zj2 (P:Program) (w:World) (K:W.Frag) (mg:Str->Option Value) (base:Heap) (k:Nat) (C:Addr) (m:Str) (ps:List Str) (sp:Sp):Prop where
 ex:∃ (f:Addr) (fd:FuncData),zcd P w K mg base CX0 k f fd ps sp/\(PySem.W.specialIn K (.ref C) "__getattribute__" = some (some (.builtin "type.__getattribute__"))/\PySem.W.readsIn K C (.type "type")=true /\
  PySem.W.findCls K (.ref C) (.type "type") m=some (.val (.ref f))/\PySem.W.handedIn (.ref f)=true)/\PySem.W.keepIn K (.ref f)=true/\∀ us:List Value,us.length=ps.length->bindArgs fd ⟨us,[]⟩=pure (ps.zip us)
theorem zmz.ok {P:Program} {w:World} {K:W.Frag} {mg:Str->Option Value} {base:Heap} {C:Addr} {m qual:Str} {st:Stmt} {N ps:List Str} {k:Nat} {sp:Sp} (S:zmz K C m qual st ps) (sc:zk N ps (zi st)) (len:∀ vs H Q E,sp vs H Q E->vs.length=ps.length)
  (hbody:∀ (f:Addr) (cdv:Value) (A:Around) (outer:List Env) (s:Shared) (H:Hp) (vs:List V) (Q:VK) (E:XK),Room k (A.deeper (envOfC qual (zi st) s.heap.objs.size f cdv))->sp vs H Q E ->
   ∃ t,PSs (zf9 CX0 P w K mg base N qual (zi st) f cdv A outer s H E).nox (zaF st) t/\t { nx:=fun _ H'=>Q .non H',rt:=Q } (start N vs) H):zj2 P w K mg base (k+1) C m ps sp:=by
 obtain ⟨f,fd,F,hm,hb⟩:=S.ex
 exact ⟨f,fd,F.ok sc len (fun cdv=>hbody f cdv),hm,F.kp,hb⟩
section
variable {X:Cx} {C:Addr} {x m:Str} {p pos apos:Pos} {e o:Expr} {es:List Expr} {t:TA} {j k:Nat} {ps:List Str} {sp:Sp}
theorem zni {pl:Sem Bool} (D:zj2 X.prog X.w X.K X.mg X.base j C m ps sp) (he:PE X o (tC (.ref C))) (hr:Room k X.A) (ha:PA X (e::es) t) (hj:j<=k:=by decide)
  (hst:starEach (e::es) X.env=(false,eval e X.env)::starEach es X.env:=by rfl) (hpl:(backTo pos (starEach es X.env)).any (·.1)=false:=by rfl)
  (ht:eval (.Call (.Attribute o m apos) (e::es) [] pos) X.env=(do
   let ov <-eval o X.env
   standAt apos.atName
   let (f,first) <-holding [ov] (getMethod ov m pl)
   callWith pos f first (backTo pos (starEach (e::es) X.env)) (backToKw pos (keywordEach [] X.env))):=by rfl) :
  PE X (.Call (.Attribute o m apos) (e::es) [] pos) (zoF sp [] E0 t):=by
 intro pins s σ H Q I h
 obtain ⟨f,fd,F,⟨h1,h2,h3,h4⟩,kp,hb⟩:=D.ex
 refine PySem.W.methodCall_KW (pl:=pl) (thn (he pins s σ H (fun v H1=>v=.ref C/\H1=H) I ⟨rfl,rfl⟩) fun u s1 ⟨y,H1,I1,ry,e1,e2⟩=>?_) ht
 subst e1 e2
 obtain rfl:u=Value.ref C:=ry
 refine PySem.W.method_cls I1.kIn h1 (PySem.W.cls_value I1.kIn h2 h3 h4 ?_)
 have I2:=I1.tok (s1.toks+1)
 refine PySem.W.callWith_K (first:=[]) (h₀:=X.base) I.ok.mod.kin kp (thn (ha pos pins _ σ _ _ I2 h) fun us s2 ⟨vs,H2,I3,r,q2⟩=>⟨I3.kIn,?_⟩) hst hpl
 exact zhN (us:=us) (vs:=vs) (dvs:=[]) (ds:=[]) F (hr.mono hj) (.all hb) .nil ziG I3 r q2
end
theorem zhB:∀ {bs:List Bool} {us:List Value},Vals (bs.map V.bl) us->LSm.BoolsAre us bs
 | [],_,.nil=>.nil
 | b::bs,_,.cons r rs=>by
  cases r
  exact .cons b (zhB rs)
theorem zpD {X:Cx} (hc:X.calm=true):zaN X (.builtin "all") (fun xs H Q=>∃ (p:Addr) (bs:List Bool),xs=[.ref p]/\SqL X.K H p (bs.map V.bl)/\Q (.bl (bs.all id)) H):=by
 intro pins s σ H xs us Q I r h
 obtain ⟨p,bs,rfl,hq,q⟩:=h
 obtain ⟨u,rfl,rx⟩:=vals1 r
 cases rx
 obtain ⟨vs,rv,pl,hz⟩:=I.list hq
 have hb:=zhB rv
 have hl:=pl.isList
 have hlt:p<s.heap.objs.size:=by obtain ⟨_,e,_⟩:=hl;exact ydr e
 refine PySem.call_all_walk (wpAny_pyIter_list hl ?_)
 refine ⟨s.heap.objs.size,[s.heap.objs.size,p],[s.heap.objs.size],vs.toArray.size,_,_,fun i=>(bs[i]?).getD true,rfl,Walks.list (A:=X.A.in1) (I.ok.hd hc) _ p (yda hlt) vs.toArray,
  ⟨⟨_,yds _ rfl,rfl,rfl⟩,hl.push _⟩,fun i v s' Q' E' hP hQ=>?_,fun h' tk hk=>?_⟩
 ·obtain ⟨b,e,rfl⟩:=hb.get i v (by simpa using hP)
  simp only[e,Option.getD_some] at hQ
  exact wpAny_truthy_bool hQ
 ·have e:((yar vs.toArray.size).all fun i=>(bs[i]?).getD true)=bs.all id:=by
   rw[<-LSm.range_all,yan,hb.length]
  rw[e]
  exact ⟨.bl _,H,I.kept (LSm.kept_iter hk),rfl,q⟩
inductive Ek where
 | out | fee | pay | due | turn | rate | late | still | base
noncomputable def Ek.cls:Ek->Str
 | .out => "Out"
 | .fee => "Fee"
 | .pay => "Pay"
 | .due => "Due"
 | .turn => "Turn"
 | .rate => "Rate"
 | .late => "Late"
 | .still => "Still"
 | .base => "Entry"
noncomputable def Ek.word:Ek->Str
 | .out => "out"
 | .fee => "fee"
 | .pay => "pay"
 | .due => "due"
 | .turn => "turn"
 | .rate => "rate"
 | .late => "late"
 | .still => "still"
 | .base => ""
noncomputable def zjX:Ek->Int->Int->List (Str × V)
 | .turn,d,_=>[("day", .int d)]
 | .base,d,_=>[("day", .int d)]
 | .rate,d,x=>[("day", .int d),("rate", .int x)]
 | .late,d,x=>[("day", .int d),("rate", .int x)]
 | .still,d,x=>[("day", .int d),("until", .int x)]
 | .out,d,x=>[("day", .int d),("amount", .int x)]
 | .fee,d,x=>[("day", .int d),("amount", .int x)]
 | .pay,d,x=>[("day", .int d),("amount", .int x)]
 | .due,d,x=>[("day", .int d),("amount", .int x)]
noncomputable def ztw:Ek->Int->Int->List V
 | .turn,d,_=>[.str "turn", .int d]
 | .base,d,_=>[.str "", .int d]
 | k,d,x=>[.str k.word,.int d,.int x]
abbrev ziH (K:W.Frag) (H:Hp) (a dx:Addr) (k:Ek) (d x:Int):Prop:=H a=some (.ins (cA K k.cls) dx (zjX k d x))
theorem zfs (k:Ek) (d x:Int):yce ("day" : Str) (zjX k d x)=some (V.int d):=by cases k <;> rfl
theorem zfC (k:Ek) (d x:Int):yce ("word" : Str) (zjX k d x)=none:=by cases k <;> rfl
def zps (K:W.Frag) (m:Str) (sp:Ek->Sp) (ta:TE) (t:TA):TE:=fun σ H Q=>ta σ H fun x H1=>∃ (k:Ek) (a dx:Addr) (fs:List (Str × V)),x=.ref a/\H1 a=some (.ins (cA K k.cls) dx fs)/\fs.lookup m=none/\t σ H1 fun vs H2=>sp k (x::vs) H2 Q E0
section
variable {X:Cx} {C:Addr} {x m:Str} {p pos apos:Pos} {e o:Expr} {es:List Expr} {ta:TE} {t:TA} {j k:Nat} {ps:List Str}
theorem zpe {pl:Sem Bool} {sp:Ek->Sp} (D:∀ k:Ek,zG X.prog X.w X.K X.mg X.base j (cA X.K k.cls) m ps (sp k)) (hc:∀ k:Ek,Cls X.K (cA X.K k.cls)) (hr:Room k X.A) (he:PE X o ta) (hj:j<=k:=by decide)
  (ht:eval (.Call (.Attribute o m apos) [] [] pos) X.env=(do
   let ov <-eval o X.env
   standAt apos.atName
   let (f,first) <-holding [ov] (getMethod ov m pl)
   callWith pos f first (backTo pos (starEach [] X.env)) (backToKw pos (keywordEach [] X.env))):=by rfl) :
  PE X (.Call (.Attribute o m apos) [] [] pos) (zps X.K m sp ta zkk):=by
 intro pins s σ H Q I h
 refine PySem.W.methodCall_KW (pl:=pl) (thn (he pins s σ H _ I h) fun u s1 ⟨x,H1,I1,rx,kd,a,dx,fs,ex,ea,l,q⟩=>?_) ht
 subst ex
 obtain rfl:u=Value.ref a:=rx
 obtain ⟨f,fd,F,hm,hb⟩:=(D kd).ex
 refine zgL I1 ea (hc kd) hm l ?_
 exact PySem.W.callWith_K0 (first:=[.ref a]) I1.kIn hm.kp (zhN (us:=[.ref a]) (vs:=[.ref a]) (dvs:=[]) (ds:=[]) F (hr.mono hj) (.all hb) .nil ziG I1 (.cons rfl .nil) q)
end
section
variable {K:W.Frag} {x:Str} {C f:Addr}
theorem zsb {m qual:Str} {st:Stmt} {ps:List Str} {oc:Value} {od an:Option Addr} {osl:Array (Option Value)} {kV doc pm cdv ct:Value} (a:PySem.W.nsIn K mainGlobals x=some (some (.ref C))) (h1:PySem.W.specialIn K (.ref C) "__getattribute__" = some (some (.builtin "type.__getattribute__")))
  (h2:PySem.W.readsIn K C (.type "type")=true) (h3:PySem.W.findCls K (.ref C) (.type "type") m=some (.val (.ref f))) (h4:PySem.W.handedIn (.ref f)=true)
  (fk:PySem.W.keepIn K (.ref f)=true) (fl:K.lookup f=some ⟨oc,od,.func (PySem.W.fnOf m qual (zcb st) (zaF st) (zi st) .none kV doc pm an cdv ct),osl⟩) (fc:PySem.W.codeIn K cdv qual=true)
  (hb:∀ us:List Value,us.length=ps.length->bindArgs (PySem.W.fnOf m qual (zcb st) (zaF st) (zi st) .none kV doc pm an cdv ct) ⟨us,[]⟩=pure (ps.zip us)):zmz K (cA K x) m qual st ps:=by
 rw[zdb a];exact ⟨f,_,zmQ fl fc fk,⟨h1,h2,h3,h4⟩,hb⟩
end
section
variable {X:Cx}
end
end L2
namespace L2
open PySem
end L2
namespace L2
noncomputable def eqK:Kd->Kd->Bool
 | .plain,.plain=>true
 | .bank,.bank=>true
 | .thirty,.thirty=>true
 | .exact,.exact=>true
 | _,_=>false
noncomputable def zsJ (k:Kd):Kd->Bool
 | .plain=>true
 | .bank=>eqK k .bank
 | .thirty=>eqK k .thirty
 | .exact=>eqK k .exact
end L2
namespace L2
open PySem PySem.Spec PyProof.Rows
section
variable {M:Model} {A:Around} {E:Value->Shared->Prop} {s:Shared} {B:Heap} {v:Env} {out:List Env} {L e d:Addr} {Q:Unit->Shared->Prop}
end
section
variable {X:Cx} {pins:List (Addr × Obj)} {σ:St} {H:Hp} {s:Shared} {e:Addr} {φ:Heap->Prop}
end
section
variable {P:Program} {w:World} {K:W.Frag} {mg:Str->Option Value} {base:Heap} {N:List Str} {qual:Str} {scope:Scope} {f:Addr} {cd:Value} {A:Around} {outer:List Env} {s₀:Shared} {H₀:Hp} {E:XK}
end
section
variable {M:Model} {A:Around} {E:Value->Shared->Prop} {env:Env} {nm q:Str} {C N:Addr} {bs bm:List Value} {hdct:Bool} {sn:List Str} {sub:List Value} {ab:Bool} {col:Option Bool} {dd:Option Addr} {k0 k1 k2 k3 k5:Option Value} {newId:String}
end
section
variable {X:Cx} {x:Str} {np pos:Pos} {e0:Expr} {t:TA} {C f:Addr} {fd:FuncData} {ps:List Str} {name:Str} {j k:Nat}
end
section
variable {X:Cx} {x:Str} {np cpos pos:Pos} {e0:Expr} {t:TA} {name:Str} {j k:Nat} {E:XK}
end
section
variable {X:Cx} {o value:Expr} {name:Str} {pos pos':Pos} {ta tv:TE} {C:Addr}
end
inductive LL {α:Type} (R:V->α->Prop):List V->List α->Prop
 | nil:LL R [] []
 | cons {v:V} {e:α} {vs:List V} {es:List α}:R v e->LL R vs es->LL R (v::vs) (e::es)
section
variable {α:Type} {R S:V->α->Prop} {vs ws:List V} {es fs:List α}
theorem LL.length (h:LL R vs es):vs.length=es.length:=by
 induction h with
 | nil=>rfl
 | cons _ _ ih=>simp[ih]
theorem LL.imp (f:∀ v e,R v e->S v e) (h:LL R vs es):LL S vs es:=by
 induction h with
 | nil=>exact .nil
 | cons h _ ih=>exact .cons (f _ _ h) ih
theorem LL.append (h:LL R vs es) (k:LL R ws fs):LL R (vs++ws) (es++fs):=by
 induction h with
 | nil=>exact k
 | cons h _ ih=>exact .cons h ih
theorem LL.push {v:V} {e:α} (h:LL R vs es) (k:R v e):LL R (vs++[v]) (es++[e]):=h.append (.cons k .nil)
theorem LL.take (h:LL R vs es):∀ n,LL R (vs.take n) (es.take n):=by
 induction h with
 | nil=>intro n;simp;exact .nil
 | cons h _ ih =>
  intro n
  cases n with
  | zero=>exact .nil
  | succ n=>exact .cons h (ih n)
theorem LL.get (h:LL R vs es):∀ {i:Nat} {v:V},vs[i]?=some v->∃ e,es[i]?=some e/\R v e:=by
 induction h with
 | nil=>intro i v e;simp at e
 | cons h _ ih =>
  intro i v e
  cases i with
  | zero=>cases e;exact ⟨_,rfl,h⟩
  | succ i=>exact ih e
theorem LL.eqm {g:α->V} (h:LL (fun v e=>v=g e) vs es):vs=es.map g:=by
 induction h with
 | nil=>rfl
 | cons h _ ih=>rw[h,ih];rfl
end
theorem zcz {α:Type} {J:It} {ix:List Nat} {tt:TT} {te:TE} {σ:St} {l:Addr} {xs:List V} {H:Hp} {R:Hp->Prop} (Y:zh7 J H xs) (hl:H l=none) (hz:xs.length<=sizeLine) (es:List α) (len:es.length=xs.length)
  (f:α->Bool) (P:Hp->V->α->Prop) (mono:∀ v e H1 H2,Same H1 H2->P H1 v e->P H2 v e) (put:∀ v e H1 ys zs,H1 l=some (.lst ys)->P H1 v e->P (upd H1 l (.lst zs)) v e)
  (ht:∀ (i:Nat) x e H' Q',xs[i]?=some x->es[i]?=some e->Same H H'->Q' (f e) H'->tt (some x::capts σ ix) H' Q')
  (he:∀ (i:Nat) x e H' Q',xs[i]?=some x->es[i]?=some e->f e=true->Same H H'->(∀ v H2,Same H' H2->P H2 v e->Q' v H2)->te (some x::capts σ ix) H' Q')
  (fin:∀ ys H',Same H H'->H' l=some (.lst ys)->LL (P H') ys (es.filter f)->R H') :
  ∃ W:Nat->Nat->List V->Hp->Prop,(∃ m,W 0 m [] (upd H l (.lst [])))/\zgn ix tt te σ J l R W:=by
 refine ⟨fun i m ys H'=>m=xs.length-i/\i<=xs.length/\LL (P H') ys ((es.take i).filter f)/\Same H H'/\H' l=some (.lst ys),⟨xs.length,by simp,ydc _,by simp;exact .nil,zb hl _,zf⟩,?_⟩
 rintro i m ys H' ⟨rfl,hi,hy,sH,hL⟩
 refine ⟨hL,?_⟩
 by_cases hlt:i<xs.length
 ·have yl:ys.length<=i:=by
   rw[hy.length]
   exact yde (ybb _ _) (by rw[yao];ac_rfl)
  have eP:es[i]?=some (es[i]'(by ac_rfl)):=yaa (by ac_rfl)
  generalize es[i]'(by ac_rfl)=e at eP
  have tk:es.take (i+1)=es.take i++[e]:=by rw[ybi,eP];rfl
  refine .inr ⟨Y.go i H' sH hlt,by ac_rfl,fun x H2 y=>?_⟩
  obtain ⟨rfl,e2⟩:=Y.yld i H' x H2 sH y
  refine ht i x e _ _ e2 eP sH ?_
  cases b:f e with
  | true =>
   rw[if_pos rfl]
   refine he i x e _ _ e2 eP b sH fun v H3 s3 pv=>?_
   have hL3:=s3 _ _ hL
   refine ⟨hL3,xs.length-(i+1),by ac_rfl,rfl,hlt,?_,zM (sH.trans s3) hl,zf⟩
   rw[tk,ybk,yau b]
   exact ((hy.imp fun v e q=>put v e H3 ys _ hL3 (mono v e _ _ s3 q)).push (put v e H3 ys _ hL3 pv))
  | false =>
   rw[if_neg Bool.false_ne_true]
   refine ⟨xs.length-(i+1),by ac_rfl,rfl,hlt,?_,sH,hL⟩
   rw[tk,ybk,yav (by rw[b];decide)]
   simpa using hy
 ·rw[yas (by ac_rfl)] at hy
  exact .inl ⟨Y.stop i H' sH (by ac_rfl),fin ys H' sH hL hy⟩
theorem isI {P:Program} {w:World} {k:Int} {t:Tok}:(intKind P w).is k (.int k t)=true:=by first | (simp[intKind,Value.isInt];done) | exact beq_self_eq_true _
noncomputable def lkI (l:List (Int × Int)) (k:Int):Option Int:=(l.find? fun p=>p.1=k).map (·.2)
theorem KR.look {r:List (Int × Value)} {l:List (Int × Int)} {k:Int} {v:V} {u:Value} (rv:RelV v u) (h:KR r l):RelV (((lkI l k).map V.int).getD v) ((valueAt r k).getD u):=by
 induction h with
 | nil=>exact rv
 | @cons k' y t r l _ ih =>
  unfold lkI PySem.valueAt at *
  by_cases e:k'=k
  ·rw[List.find?_cons_of_pos (by simpa using e),List.find?_cons_of_pos (by simpa using e)]
   exact ⟨t,rfl⟩
  ·rw[List.find?_cons_of_neg (by simpa using e),List.find?_cons_of_neg (by simpa using e)]
   exact ih
section
variable {X:Cx} {pins:List (Addr × Obj)} {σ:St} {H:Hp} {s:Shared} {o i e f value:Expr} {pos pos' apos cpos:Pos} {td ty tx tv:TE}
theorem zmU {P:Program} {w:World} {H:Hp} {h:Heap} {d:Addr} {kvs:List (Int × Value)} {l:List (Int × Int)} (lo:(d == sysModules)=false) (hd:h.DictOf (intKind P w) d kvs) (hk:KR kvs l):zaf P w H h d (zbB P w d l) :=
 ⟨⟨lo,kvs,hd,hk⟩,(let ⟨o,_,_,e,_⟩:=hd;⟨o,e⟩),fun h1 h2 ⟨lo',kv,x,y⟩ e=>⟨lo',kv,zbL x e,y⟩⟩
def zsP (P:Program) (w:World):TE:=fun _ H Q=>∀ p,H p=none->Q (.ref p) (upd H p (zbB P w p []))
theorem zqQ:PE X (.Dict [] [] pos) (zsP X.prog X.w):=fun pins s σ H Q I h=>by
 have big:sysModules<s.heap.objs.size:=ydn (by decide) (show mainGlobals<s.heap.objs.size from (I.mod.glob.keeps I.bk).lt)
 have new:zaf X.prog X.w (upd H s.heap.objs.size (zbB X.prog X.w s.heap.objs.size [])) (s.heap.push { cls:=.type "dict", data:=.dict #[] }) s.heap.objs.size (zbB X.prog X.w s.heap.objs.size []) :=
  zmU (beq_eq_false_iff_ne.mpr (Ne.symm (yda big))) (Heap.DictOf.new s.heap) .nil
 exact wpAny_Dict_empty ⟨.ref s.heap.objs.size,_,I.laid (t':=s.toks) (fun _ _ q=>ydq _ q) (ycz _) new,rfl,h _ (I.hok.fresh (ycz _))⟩
def zsU (P:Program) (w:World) (td ty tx:TE):TE:=fun σ H Q=>td σ H fun x H1=>∃ (d:Addr) (l:List (Int × Int)),x=.ref d/\H1 d=some (zbB P w d l)/\ty σ H1 fun y H2=>tx σ H2 fun z H3=>∃ (k:Int),y=.int k/\H3 d=some (zbB P w d l)/\Q (((lkI l k).map V.int).getD z) H3
theorem zrQ (ho:PE X o td) (he:PE X e ty) (hf:PE X f tx) (hb:attributeBase o "get" X.env (eval o X.env)=eval o X.env:=by rfl)
  (few:((backTo cpos (starEach [e,f] X.env)).all (fun x=>!x.1) && (backToKw cpos (keywordEach [] X.env)).all (fun x=>x.1.isSome)
   && decide (([e,f]:List Expr).length+([]:List Keyword).length+(if ([]:List Keyword).isEmpty then 0 else 1)<30))=true:=by rfl)
  (line:(apos.endLine == cpos.line)=true:=by rfl) (trees:backTo cpos (starEach [e,f] X.env)=[(false,eval e X.env),(false,eval f X.env)]:=by rfl):PE X (.Call (.Attribute o "get" apos) [e,f] [] cpos) (zsU X.prog X.w td ty tx):=by
 intro pins s σ H Q I h
 refine wpAny_Call_method hb few line PySem.F.plainAttrs_dict PySem.F.slot_dict_get PySem.F.type_dict_get (thn (ho pins s σ H _ I h) fun u s1 ⟨x,H1,I1,rx,d,l,ex,hd,q1⟩=>?_)
 subst ex
 obtain rfl:u=Value.ref d:=rx
 obtain ⟨lo,kvs,hD,hk⟩:=(I1.hok d _ hd).1
 refine ⟨hD.typeIs,hD.mapOf.noDict,?_⟩
 rw[trees]
 refine Calls.callWith_builtin rfl (Calls.evalArgs_plain (Calls.spliced_cons (thn (he pins s1 σ H1 _ I1 q1) fun iv s2 ⟨y,H2,I2,ry,q2⟩ =>
  Calls.spliced_cons (thn (hf pins s2 σ H2 _ I2 q2) fun fv s3 ⟨z,H3,I3,rz,k,ek,hd3,q3⟩=>Calls.spliced_nil ?_))))
 subst ek
 obtain ⟨t,rfl⟩:=ry
 obtain ⟨lo3,kvs3,hD3,hk3⟩:=(I3.hok d _ hd3).1
 exact call_meetsIn PySem.F.slot_dict_get hD3.typeIs PySem.F.entry_dict_get (PySem.F.args_dict_get_3 _ _ _) (meets_dict_get_default (intKind X.prog X.w) d isI lo3 fv) ⟨_,hD3.mapOf,_,H3,I3.tok _,hk3.look rz,q3⟩
def zti (P:Program) (w:World) (td ty tv:TE):TS:=fun D σ H=>tv σ H fun v H1=>td σ H1 fun x H2=>ty σ H2 fun y H3=>∃ (d:Addr) (l:List (Int × Int)) (k n:Int),x=.ref d/\y=.int k/\v=.int n/\H3 d=some (zbB P w d l)/\l.length<=1000/\D.nx σ (upd H3 d (zbB P w d (zak l k n)))
theorem zrZ (ho:PE X o td) (hi:PE X i ty) (hv:PE X value tv) (hs:swapsWith value (some (.Subscript o i pos')) pos.line X.env=pure false:=by rfl):PS X (.Assign [.Subscript o i pos'] value pos) (zti X.prog X.w td ty tv):=by
 intro pins s σ H D I h
 refine wpAny_Assign_Subscript (thn (hv pins s σ H _ I h) fun r s1 ⟨v,H1,I1,rv,q1⟩=>thn (ho pins s1 σ H1 _ I1 q1) fun u s2 ⟨x,H2,I2,rx,q2⟩=>thn (hi pins s2 σ H2 _ I2 q2) fun iv s3 ⟨y,H3,I3,ry,d,l,k,n,ex,ey,ev,hd,hl,q3⟩=>?_) hs
 subst ex ey ev
 obtain rfl:u=Value.ref d:=rx
 obtain ⟨t,rfl⟩:=ry
 obtain ⟨t',rfl⟩:=rv
 obtain ⟨lo,kvs,hD,hk⟩:=(I3.hok d _ hd).1
 have sz:=sizeLine_eq
 refine wpAny_setItem_pairs (knd:=intKind X.prog X.w) (k:=k) (hsz:=by rw[hk.length];ac_rfl) isI hD fun h' hD' hs'=>?_
 have he:∃ q,h'.get? d=some q:=let ⟨q,_,_,hq,_⟩:=hD';⟨q,hq⟩
 exact ⟨σ,_,I3.write (x:=d) (e:=d) (by rw[hd];exact True.intro) (.inl rfl) (fun b q hb z=>(hs'.2 b hb).trans z) he (zmU lo hD' hk.stored),q3⟩
end
section
variable {X:Cx} {m f:Str} {pos apos:Pos} {o e:Expr} {ta:TE} {j k:Nat} {ps:List Str}
theorem zb6 (K:W.Frag) (he:PE X e ta) (hb:attributeBase e f X.env (eval e X.env)=eval e X.env) (hK:X.K=K:=by rfl):PE X (.Attribute e f pos) (zso K ta f):=by
 subst hK
 exact zsa he hb
theorem zes (K:W.Frag) {pl:Sem Bool} {sp:Ek->Sp} (D:∀ k:Ek,zG X.prog X.w X.K X.mg X.base j (cA X.K k.cls) m ps (sp k)) (hc:∀ k:Ek,Cls X.K (cA X.K k.cls)) (hr:Room k X.A) (he:PE X o ta) (hj:j<=k:=by decide)
  (ht:eval (.Call (.Attribute o m apos) [] [] pos) X.env=(do
   let ov <-eval o X.env
   standAt apos.atName
   let (f,first) <-holding [ov] (getMethod ov m pl)
   callWith pos f first (backTo pos (starEach [] X.env)) (backToKw pos (keywordEach [] X.env))):=by rfl) (hK:X.K=K:=by rfl) :
  PE X (.Call (.Attribute o m apos) [] [] pos) (zps K m sp ta zkk):=by
 subst hK
 exact zpe (pl:=pl) D hc hr he hj ht
end
section
variable {X:Cx} {pins:List (Addr × Obj)} {σ:St} {H:Hp} {s:Shared} {o i e f value:Expr} {pos pos' apos cpos:Pos} {td ty tx tv:TE}
end
section
variable {prog:Program} {w:World} {A:Around} {s:Shared} {R:Result->Shared->Prop}
end
section
variable {X:Cx} {pins:List (Addr × Obj)} {σ:St} {H:Hp} {s:Shared}
end
section
variable {X:Cx} {o e f:Expr} {apos cpos:Pos} {td ty tx:TE}
end
section
variable {X:Cx} {e k:Expr} {te:TE} {p2 pos:Pos} {lo hi:Option Expr} {tl th:TO}
end
noncomputable def zb7 (P:Program) (w:World) (d:Addr) (l:List (Int × Int)) (ep:Nat):HO:=.ext fun h=>(d == sysModules)=false/\∃ kvs,h.DictAt (intKind P w) d kvs ep/\KR kvs l
section
variable {X:Cx} {pins:List (Addr × Obj)} {σ:St} {H:Hp} {s:Shared} {o i e f value:Expr} {pos pos' apos cpos:Pos} {td ty tx tv:TE}
theorem zmq {P:Program} {w:World} {H:Hp} {h:Heap} {d:Addr} {kvs:List (Int × Value)} {l:List (Int × Int)} {ep:Nat} (lo:(d == sysModules)=false) (hd:h.DictAt (intKind P w) d kvs ep) (hk:KR kvs l):zaf P w H h d (zb7 P w d l ep) :=
 ⟨⟨lo,kvs,hd,hk⟩,(let ⟨o,_,e,_⟩:=hd;⟨o,e⟩),fun h1 h2 ⟨lo',kv,x,y⟩ e=>⟨lo',kv,Heap.DictAt.at' x e,y⟩⟩
def zr9 (P:Program) (w:World):TE:=fun _ H Q=>∀ p ep,H p=none->Q (.ref p) (upd H p (zb7 P w p [] ep))
theorem zql:PE X (.Dict [] [] pos) (zr9 X.prog X.w):=fun pins s σ H Q I h=>by
 have big:sysModules<s.heap.objs.size:=ydn (by decide) (show mainGlobals<s.heap.objs.size from (I.mod.glob.keeps I.bk).lt)
 obtain ⟨ep,hd⟩:=(Heap.DictOf.new (knd:=intKind X.prog X.w) s.heap).dictAt
 have new:zaf X.prog X.w (upd H s.heap.objs.size (zb7 X.prog X.w s.heap.objs.size [] ep)) (s.heap.push { cls:=.type "dict", data:=.dict #[] }) s.heap.objs.size (zb7 X.prog X.w s.heap.objs.size [] ep) :=
  zmq (beq_eq_false_iff_ne.mpr (Ne.symm (yda big))) hd .nil
 exact wpAny_Dict_empty ⟨.ref s.heap.objs.size,_,I.laid (t':=s.toks) (fun _ _ q=>ydq _ q) (ycz _) new,rfl,h _ _ (I.hok.fresh (ycz _))⟩
def zsS (P:Program) (w:World) (td ty tx:TE):TE:=fun σ H Q=>td σ H fun x H1=>∃ (d:Addr) (l:List (Int × Int)) (ep:Nat),x=.ref d/\H1 d=some (zb7 P w d l ep)/\ty σ H1 fun y H2=>tx σ H2 fun z H3=>∃ (k:Int),y=.int k/\H3 d=some (zb7 P w d l ep)/\Q (((lkI l k).map V.int).getD z) H3
theorem zrX (ho:PE X o td) (he:PE X e ty) (hf:PE X f tx) (hb:attributeBase o "get" X.env (eval o X.env)=eval o X.env:=by rfl)
  (few:((backTo cpos (starEach [e,f] X.env)).all (fun x=>!x.1) && (backToKw cpos (keywordEach [] X.env)).all (fun x=>x.1.isSome)
   && decide (([e,f]:List Expr).length+([]:List Keyword).length+(if ([]:List Keyword).isEmpty then 0 else 1)<30))=true:=by rfl)
  (line:(apos.endLine == cpos.line)=true:=by rfl) (trees:backTo cpos (starEach [e,f] X.env)=[(false,eval e X.env),(false,eval f X.env)]:=by rfl):PE X (.Call (.Attribute o "get" apos) [e,f] [] cpos) (zsS X.prog X.w td ty tx):=by
 intro pins s σ H Q I h
 refine wpAny_Call_method hb few line PySem.F.plainAttrs_dict PySem.F.slot_dict_get PySem.F.type_dict_get (thn (ho pins s σ H _ I h) fun u s1 ⟨x,H1,I1,rx,d,l,ep,ex,hd,q1⟩=>?_)
 subst ex
 obtain rfl:u=Value.ref d:=rx
 obtain ⟨lo,kvs,hD,hk⟩:=(I1.hok d _ hd).1
 refine ⟨hD.dictOf.typeIs,hD.dictOf.mapOf.noDict,?_⟩
 rw[trees]
 refine Calls.callWith_builtin rfl (Calls.evalArgs_plain (Calls.spliced_cons (thn (he pins s1 σ H1 _ I1 q1) fun iv s2 ⟨y,H2,I2,ry,q2⟩ =>
  Calls.spliced_cons (thn (hf pins s2 σ H2 _ I2 q2) fun fv s3 ⟨z,H3,I3,rz,k,ek,hd3,q3⟩=>Calls.spliced_nil ?_))))
 subst ek
 obtain ⟨t,rfl⟩:=ry
 obtain ⟨lo3,kvs3,hD3,hk3⟩:=(I3.hok d _ hd3).1
 exact call_meetsIn PySem.F.slot_dict_get hD3.dictOf.typeIs PySem.F.entry_dict_get (PySem.F.args_dict_get_3 _ _ _) (meets_dict_get_default (intKind X.prog X.w) d isI lo3 fv) ⟨_,hD3.dictOf.mapOf,_,H3,I3.tok _,hk3.look rz,q3⟩
def ztb (P:Program) (w:World) (td ty tv:TE):TS:=fun D σ H=>tv σ H fun v H1=>td σ H1 fun x H2=>ty σ H2 fun y H3=>∃ (d:Addr) (l:List (Int × Int)) (k n:Int) (ep:Nat),x=.ref d/\y=.int k/\v=.int n/\H3 d=some (zb7 P w d l ep)/\l.length<=1000/\∀ ep',D.nx σ (upd H3 d (zb7 P w d (zak l k n) ep'))
theorem zrx (ho:PE X o td) (hi:PE X i ty) (hv:PE X value tv) (hs:swapsWith value (some (.Subscript o i pos')) pos.line X.env=pure false:=by rfl):PS X (.Assign [.Subscript o i pos'] value pos) (ztb X.prog X.w td ty tv):=by
 intro pins s σ H D I h
 refine wpAny_Assign_Subscript (thn (hv pins s σ H _ I h) fun r s1 ⟨v,H1,I1,rv,q1⟩=>thn (ho pins s1 σ H1 _ I1 q1) fun u s2 ⟨x,H2,I2,rx,q2⟩=>thn (hi pins s2 σ H2 _ I2 q2) fun iv s3 ⟨y,H3,I3,ry,d,l,k,n,ep,ex,ey,ev,hd,hl,q3⟩=>?_) hs
 subst ex ey ev
 obtain rfl:u=Value.ref d:=rx
 obtain ⟨t,rfl⟩:=ry
 obtain ⟨t',rfl⟩:=rv
 obtain ⟨lo,kvs,hD,hk⟩:=(I3.hok d _ hd).1
 have sz:=sizeLine_eq
 refine wpAny_setItem_pairs (knd:=intKind X.prog X.w) (k:=k) (hsz:=by rw[hk.length];ac_rfl) isI hD.dictOf fun h' hD' hs'=>?_
 obtain ⟨ep',hA'⟩:=hD'.dictAt
 have he:∃ q,h'.get? d=some q:=let ⟨q,_,hq,_⟩:=hA';⟨q,hq⟩
 exact ⟨σ,_,I3.write (x:=d) (e:=d) (by rw[hd];exact True.intro) (.inl rfl) (fun b q hb z=>(hs'.2 b hb).trans z) he (zmq lo hA' hk.stored),q3 ep'⟩
end
section
variable {X:Cx}
end
section
variable {X:Cx} {pins:List (Addr × Obj)} {σ:St} {H:Hp} {s:Shared} {sc:Scope} {x y0 y1:Str} {ix:List Nat} {fp:List Addr}
end
section
variable {X:Cx} {pins:List (Addr × Obj)} {σ:St} {H:Hp} {s:Shared} {sc:Scope} {x y0 y1:Str} {ix:List Nat} {fp:List Addr} {elt iter c:Expr} {te:TE} {tt:TT} {wi:TI} {px py0 py1 pt0 pos:Pos} {kt0:Nat}
end
section
variable {prog:Program} {w:World} {A:Around} {E:Value->Shared->Prop} {s:Shared}
end
end L2
namespace Sby
open L2
noncomputable abbrev Pl:=List (Int × Int)
noncomputable def sm (l:Pl) (k:Int):Int:=((l.filter fun p=>p.1=k).map (·.2)).sum
theorem zik (l:Pl) (k x j:Int):sm (l++[(k,x)]) j=sm l j+if k=j then x else 0:=by
 unfold sm
 rw[ybk,yat,List.sum_append]
 by_cases e:k=j
 ·rw[if_pos e,yau (by simpa using e)];simp
 ·rw[if_neg e,yav (by simpa using e)];simp
theorem zgj {l:Pl} {k:Int} (h:k ∉ l.map (·.1)):sm l k=0:=by
 unfold sm
 rw[ycg.mpr]
 ·rfl
 ·intro p hp e
  exact h (yae.mpr ⟨p,hp,by simpa using e⟩)
structure Tot (acc l:Pl):Prop where
 nd:(acc.map (·.1)).Nodup
 mem:∀ k,k∈acc.map (·.1)↔k∈l.map (·.1)
 val:∀ p∈acc,p.2=sm l p.1
theorem Tot.nil:Tot [] []:=⟨.nil,fun k=>Iff.rfl,fun p hp=>by cases hp⟩
theorem Tot.look {acc l:Pl} (T:Tot acc l) (k:Int):((lkI acc k).map V.int).getD (.int 0)=.int (sm l k):=by
 unfold lkI
 cases e:acc.find? (fun p=>p.1=k) with
 | none =>
  have:k ∉ acc.map (·.1):=fun hm=>by
   obtain ⟨p,hp,ep⟩:=yae.mp hm
   have:=ycx.mp e p hp
   exact this (by simpa using ep)
  rw[zgj (fun z=>this ((T.mem k).mpr z))]
  rfl
 | some p =>
  have hp:=List.mem_of_find?_eq_some e
  have ep:p.1=k:=by simpa using List.find?_some e
  have:=T.val p hp
  rw[ep] at this
  rw[<-this]
  rfl
theorem Tot.step {acc l:Pl} (T:Tot acc l) (k x:Int):Tot (zak acc k (sm l k+x)) (l++[(k,x)]):=by
 have keys:∀ y:Int,(acc.map (fun p=>if p.1=k then (p.1,y) else p)).map (·.1)=acc.map (·.1):=fun y=>by
  rw[ybv]
  apply ybm
  intro p _
  show (if p.1=k then (p.1,y) else p).1=p.1
  split <;> rfl
 have lk:∀ j,j∈(l++[(k,x)]).map (·.1)↔j∈l.map (·.1)\/j=k:=fun j=>by simp[eq_comm]
 unfold zak
 split
 ·rename_i ha
  have hk:k∈acc.map (·.1):=by
   obtain ⟨p,hp,e⟩:=ycd.mp ha
   exact yae.mpr ⟨p,hp,by simpa using e⟩
  refine ⟨by rw[keys];exact T.nd,fun j=>?_,fun p hp=>?_⟩
  ·rw[keys,lk,T.mem]
   refine ⟨.inl,fun h=>h.elim id fun e=>?_⟩
   rw[e];exact (T.mem k).mp hk
  ·obtain ⟨q,hq,rfl⟩:=yae.mp hp
   have v:=T.val q hq
   rw[zik]
   by_cases e:q.1=k
   ·rw[if_pos e]
    show sm l k+x=sm l q.1+if k=q.1 then x else 0
    rw[if_pos e.symm,e]
   ·rw[if_neg e,if_neg (fun z=>e z.symm),v]
    ac_rfl
 ·rename_i ha
  have hk:k ∉ acc.map (·.1):=fun hm=>by
   obtain ⟨p,hp,e⟩:=yae.mp hm
   exact ha (ycd.mpr ⟨p,hp,by simpa using e⟩)
  refine ⟨?_,fun j=>?_,fun p hp=>?_⟩
  ·rw[yat]
   refine List.nodup_append.mpr ⟨T.nd,by simp,?_⟩
   intro a ha' b hb
   have:b=k:=by simpa using hb
   intro z
   rw[z,this] at ha'
   exact hk ha'
  ·rw[lk,yat,yam,T.mem]
   simp
  ·rw[zik]
   rcases yam.mp hp with hp | hp
   ·have ne:k≠p.1:=fun z=>hk (by rw[z];exact yae.mpr ⟨p,hp,rfl⟩)
    rw[if_neg ne,T.val p hp]
    ac_rfl
   ·obtain rfl:p=(k,sm l k+x):=by simpa using hp
    rw[if_pos rfl]
structure Tab (r l:Pl):Prop where
 up:(r.map (·.1)).Pairwise (·<·)
 mem:∀ k,k∈r.map (·.1)↔k∈l.map (·.1)
 val:∀ p∈r,p.2=sm l p.1
theorem zre {ns:List Int} (nd:ns.Nodup) (up:ns.Pairwise (·<=·)):ns.Pairwise (·<·):=by
 induction ns with
 | nil=>exact .nil
 | cons n ns ih =>
  obtain ⟨n1,n2⟩:=ybp.mp nd
  obtain ⟨u1,u2⟩:=ybp.mp up
  refine ybp.mpr ⟨fun a ha=>?_,ih n2 u2⟩
  have:=u1 a ha
  have:=n1 a ha
  ac_rfl
theorem zgR {ns:List Int} (up:ns.Pairwise (·<·)):ns.Nodup:=up.imp fun h=>by ac_rfl
theorem zsk {as bs:List Int} (ha:as.Pairwise (·<·)) (hb:bs.Pairwise (·<·)) (h:∀ d,d∈as↔d∈bs):as=bs:=by
 induction as generalizing bs with
 | nil =>
  cases bs with
  | nil=>rfl
  | cons b bs=>exact absurd ((h b).mpr yal) (by simp)
 | cons a as ih =>
  cases bs with
  | nil=>exact absurd ((h a).mp yal) (by simp)
  | cons b bs =>
   obtain ⟨a1,a2⟩:=ybp.mp ha
   obtain ⟨b1,b2⟩:=ybp.mp hb
   have e:a=b:=by
    rcases yaj.mp ((h a).mp yal) with e | e
    ·exact e
    ·rcases yaj.mp ((h b).mpr yal) with e2 | e2
     ·exact e2.symm
     ·have:=b1 a e;have:=a1 b e2;ac_rfl
   subst e
   rw[ih a2 b2 fun d=>?_]
   constructor
   ·intro hd
    rcases yaj.mp ((h d).mp (yak _ hd)) with e | e
    ·have:=a1 d hd;ac_rfl
    ·exact e
   ·intro hd
    rcases yaj.mp ((h d).mpr (yak _ hd)) with e | e
    ·have:=b1 d hd;ac_rfl
    ·exact e
theorem Tot.tab {acc l r:Pl} (T:Tot acc l) (P:r.Perm acc) (S:r.Pairwise fun s t=>s.1<=t.1):Tab r l:=by
 have pk:=P.map (·.1)
 refine ⟨zre (pk.nodup_iff.mpr T.nd) (ybj.mpr S),fun k=>(pk.mem_iff).trans (T.mem k),fun p hp=>T.val p (P.mem_iff.mp hp)⟩
end Sby
namespace L2
open PySem
noncomputable abbrev Er:=Ek × Int × Int
def isW (w:Str) (e:Er):Bool:=decide (V.str e.1.word=V.str w)
noncomputable def prs (w:Str) (es:List Er):List (Int × Int):=(es.filter (isW w)).map (·.2)
noncomputable def dys (w:Str) (es:List Er):List Int:=(es.filter (isW w)).map (·.2.1)
noncomputable def EL (K:W.Frag) (H:Hp):List V->List Er->Prop:=LL fun v e=>∃ a dx,v=.ref a/\ziH K H a dx e.1 e.2.1 e.2.2
theorem EL.same {K:W.Frag} {H H':Hp} {vs:List V} {es:List Er} (h:EL K H vs es) (s:Same H H'):EL K H' vs es:=LL.imp (fun v e ⟨a,dx,e1,e2⟩=>⟨a,dx,e1,s _ _ e2⟩) h
def AmW (w:Str):Prop:=w = "out" \/ w = "fee" \/ w = "pay" \/ w = "due"
theorem amt {w:Str} {k:Ek} {d x:Int} (hw:AmW w) (h:isW w (k,d,x)=true):yce ("amount" : Str) (zjX k d x)=some (V.int x)/\atI (ztw k d x) 2=some (.int x):=by
 have e:k.word=w:=V.str.inj (of_decide_eq_true h)
 subst e
 rcases hw with hw | hw | hw | hw <;> (cases k <;> first | exact ⟨rfl,rfl⟩ | (exfalso;revert hw;decide))
theorem zkb {K:W.Frag} {H:Hp} {ys:List V} {gs:List Er} (h:LL (fun v e=>∃ t,v=.ref t/\H t=some (.tup [.int e.2.1,.int e.2.2])) ys gs):zu K H ys (gs.map (·.2)):=by
 induction h with
 | nil=>exact .nil
 | cons h _ ih =>
  obtain ⟨t,rfl,ht⟩:=h
  exact .cons ht ih
structure Days (ns ds:List Int):Prop where
 up:ns.Pairwise (·<·)
 mem:∀ d,d∈ns↔d∈ds
theorem Days.of {ns ms ds:List Int} (nd:ms.Nodup) (mem:∀ d,d∈ms↔d∈ds) (pm:ns.Perm ms) (up:ns.Pairwise (·<=·)):Days ns ds:=⟨Sby.zre (pm.nodup_iff.mpr nd) up,fun d=>pm.mem_iff.trans (mem d)⟩
theorem zou {es:List Er} {w:Str}:(dys w es).length<=es.length:=by
 unfold dys
 rw[yab]
 exact ybb _ _
end L2
namespace L2
open PySem
end L2
namespace L2
open PySem
end L2
namespace L2
open PySem
end L2
namespace L2
open PySem
end L2
namespace L2
open PySem
theorem LL.of {α:Type} {R:V->α->Prop}:∀ {vs:List V} {es:List α},vs.length=es.length->(∀ (j:Nat) v,vs[j]?=some v->∃ e,es[j]?=some e/\R v e)->LL R vs es
 | [],[],_,_=>.nil
 | [],_::_,h,_=>by simp at h
 | _::_,[],h,_=>by simp at h
 | v::vs,e::es,h,p=>by
  obtain ⟨e',he,hr⟩:=p 0 v rfl
  cases he
  exact .cons hr (LL.of (by simpa using h) fun j w hw=>p (j+1) w hw)
end L2
namespace Spans
noncomputable abbrev Sp:=List (Int × Int)
def Cov (l:Sp) (d:Int):Prop:=∃ s∈l,s.1<=d/\d<s.2
structure Joined (l:Sp):Prop where
 up:∀ s∈l,s.1<s.2
 apart:l.Pairwise fun s t=>s.2<t.1
theorem zon {d:Int}:¬ Cov [] d:=fun ⟨_,h,_⟩=>by cases h
theorem zqy {s:Int × Int} {l:Sp} {d:Int}:Cov (s::l) d↔(s.1<=d/\d<s.2)\/Cov l d:=by
 constructor
 ·rintro ⟨t,ht,h⟩
  rcases yaj.mp ht with rfl | ht
  ·exact .inl h
  ·exact .inr ⟨t,ht,h⟩
 ·rintro (h | ⟨t,ht,h⟩)
  ·exact ⟨s,yal,h⟩
  ·exact ⟨t,yak _ ht,h⟩
theorem zb8 {a b:Sp} {d:Int}:Cov (a++b) d↔Cov a d\/Cov b d:=by
 constructor
 ·rintro ⟨t,ht,h⟩
  rcases yam.mp ht with ht | ht
  ·exact .inl ⟨t,ht,h⟩
  ·exact .inr ⟨t,ht,h⟩
 ·rintro (⟨t,ht,h⟩ | ⟨t,ht,h⟩)
  ·exact ⟨t,ybg _ ht,h⟩
  ·exact ⟨t,yai _ ht,h⟩
def isIn (l:Sp) (d:Int):Bool:=l.any fun s=>decide (s.1<=d) && decide (d<s.2)
theorem zcE {l:Sp} {d:Int}:isIn l d=true↔Cov l d:=by
 unfold isIn
 rw[ycd]
 constructor
 ·rintro ⟨s,hs,h⟩
  simp only[Bool.and_eq_true,decide_eq_true_eq] at h
  exact ⟨s,hs,h⟩
 ·rintro ⟨s,hs,h⟩
  exact ⟨s,hs,by simp only[Bool.and_eq_true,decide_eq_true_eq];exact h⟩
noncomputable def step (l:Sp) (st:Sp × Int) (e:Int):Sp × Int :=
 let f:=if isIn l e && !isIn l (e-1) then e else st.2
 (if isIn l e then st.1 else st.1++[(f,e)],f)
def least (l:Sp) (es:List Int):Sp:=(es.foldl (step l) ([],0)).1
end Spans
namespace Sums
noncomputable def S (f:Int->Int) (a:Int):Nat->Int
 | 0=>0
 | n+1=>S f a n+f (a+n)
noncomputable def sum (f:Int->Int) (a b:Int):Int:=S f a (b-a).toNat
theorem zsm {f:Int->Int} {a b:Int} (h:b<=a):sum f a b=0:=by
 unfold sum
 rw[show (b-a).toNat=0 by ac_rfl]
 rfl
theorem zmh (f:Int->Int) (a:Int) (n:Nat):∀ m,S f a (n+m)=S f a n+S f (a+n) m
 | 0=>by simp[S]
 | m+1=>by
  show S f a (n+m)+f (a+((n+m:Nat):Int))=S f a n+(S f (a+n) m+f (a+n+m))
  rw[zmh f a n m,show a+((n+m:Nat):Int)=a+n+m by ac_rfl]
  ac_rfl
theorem sum_add {f:Int->Int} {a b c:Int} (h1:a<=c) (h2:c<=b):sum f a b=sum f a c+sum f c b:=by
 unfold sum
 rw[show (b-a).toNat=(c-a).toNat+(b-c).toNat by ac_rfl,zmh,show a+((c-a).toNat:Int)=c by ac_rfl]
noncomputable abbrev Tab:=List (Int × Int)
def Val (t:Tab) (d v:Int):Prop:=(v=0/\∀ r∈t,d<r.1)\/∃ i:Nat,∃ b:Int,t[i]?=some (b,v)/\b<=d/\∀ (j:Nat) (r:Int × Int),t[j]?=some r->r.1<=d->r.1<b\/(r.1=b/\j<=i)
theorem Val.one {t:Tab} {d v u:Int} (a:Val t d v) (b:Val t d u):v=u:=by
 rcases a with ⟨rfl,h⟩ | ⟨i,x,e,le,h⟩
 ·rcases b with ⟨rfl,_⟩ | ⟨j,y,e',le',_⟩
  ·rfl
  ·have:=h _ (yah e')
   dsimp only at this
   ac_rfl
 ·rcases b with ⟨rfl,g⟩ | ⟨j,y,e',le',g⟩
  ·have:=g _ (yah e)
   dsimp only at this
   ac_rfl
  ·have p:=h j _ e' le'
   have q:=g i _ e le
   dsimp only at p q
   have ij:i=j:=by ac_rfl
   subst ij
   rw[e] at e'
   cases e'
   rfl
noncomputable def vstep (d:Int) (st:Int × Int) (r:Int × Int):Int × Int:=if st.1<=r.1/\r.1<=d then r else st
noncomputable def valOf (t:Tab) (d:Int):Int:=(t.foldl (vstep d) (-1,0)).2
theorem zaZ {t:Tab} (h0:∀ r∈t,0<=r.1) (d:Int):Val t d (valOf t d):=by
 suffices q:∀ (pre rest:Tab) (st:Int × Int),pre++rest=t->((st=(-1,0)/\∀ r∈pre,d<r.1)\/∃ i:Nat,pre[i]?=some st/\st.1<=d/\∀ (j:Nat) (r:Int × Int),pre[j]?=some r->r.1<=d->r.1<st.1\/(r.1=st.1/\j<=i)) ->
   Val t d (rest.foldl (vstep d) st).2 from q [] t (-1,0) rfl (.inl ⟨rfl,fun r hr=>by cases hr⟩)
 intro pre rest
 induction rest generalizing pre with
 | nil =>
  intro st e h
  rw[ybw] at e
  subst e
  rcases h with ⟨rfl,h⟩ | ⟨i,e,le,h⟩
  ·exact .inl ⟨rfl,h⟩
  ·exact .inr ⟨i,st.1,e,le,h⟩
 | cons r rest ih =>
  intro st e h
  have hr:0<=r.1:=h0 r (by rw[<-e];simp)
  refine ih (pre++[r]) (vstep d st r) (by rw[ycl];exact e) ?_
  have last:∀ (j:Nat) (x:Int × Int),(pre++[r])[j]?=some x->pre[j]?=some x\/(j=pre.length/\x=r):=fun j x hx=>by
   by_cases hj:j<pre.length
   ·rw[ybq hj] at hx
    exact .inl hx
   ·by_cases hj2:j=pre.length
    ·subst hj2
     rw[ybo (ycz _),ydo] at hx
     exact .inr ⟨rfl,(by cases hx;rfl)⟩
    ·rw[yap (by rw[yac,ybs];ac_rfl)] at hx
     cases hx
  unfold vstep
  by_cases c:st.1<=r.1/\r.1<=d
  ·rw[if_pos c]
   refine .inr ⟨pre.length,by rw[ybo (ycz _),ydo];rfl,c.2,fun j x hx hd=>?_⟩
   rcases last j x hx with hx | ⟨rfl,rfl⟩
   ·have hj:j<pre.length:=(yad.mp hx).1
    rcases h with ⟨_,h⟩ | ⟨i,_,_,h⟩
    ·have:=h x (yah hx)
     ac_rfl
    ·rcases h j x hx hd with z | z
     ·exact .inl (by ac_rfl)
     ·by_cases w:x.1=r.1
      ·exact .inr ⟨w,by ac_rfl⟩
      ·exact .inl (by ac_rfl)
   ·exact .inr ⟨rfl,ycz _⟩
  ·rw[if_neg c]
   rcases h with ⟨rfl,h⟩ | ⟨i,ei,le,h⟩
   ·refine .inl ⟨rfl,fun x hx=>?_⟩
    rcases yam.mp hx with hx | hx
    ·exact h x hx
    ·have:x=r:=by simpa using hx
     rw[this]
     exact Int.not_le.mp fun q=>c ⟨by show (-1:Int)<=r.1;ac_rfl,q⟩
   ·refine .inr ⟨i,?_,le,fun j x hx hd=>?_⟩
    ·rw[ybq (yad.mp ei).1];exact ei
    ·rcases last j x hx with hx | ⟨rfl,rfl⟩
     ·exact h j x hx hd
     ·exact .inl (Int.not_le.mp fun q=>c ⟨q,hd⟩)
end Sums
namespace Stills
open Spans Sums
theorem fold_same {x y:Int}:∀ (t:Tab) (st:Int × Int),(∀ r∈t,(r.1<=x↔r.1<=y))->t.foldl (vstep x) st=t.foldl (vstep y) st
 | [],_,_=>rfl
 | r::t,st,h=>by
  have e:vstep x st r=vstep y st r:=by
   unfold vstep
   have:=h r (yal ..)
   by_cases c:st.1<=r.1/\r.1<=x
   ·rw[if_pos c,if_pos ⟨c.1,this.mp c.2⟩]
   ·rw[if_neg c,if_neg fun z=>c ⟨z.1,this.mpr z.2⟩]
  show t.foldl (vstep x) (vstep x st r)=t.foldl (vstep y) (vstep y st r)
  rw[e]
  exact fold_same t _ fun q hq=>h q (yak _ hq)
theorem zdx {t:Tab} {x y:Int} (xy:x<=y) (h:∀ r∈t,¬ (x<r.1/\r.1<=y)):valOf t x=valOf t y:=by
 unfold valOf
 rw[fold_same (y:=y) t _ fun r hr=>by have:=h r hr;ac_rfl]
structure Begun (r:Sp) (day:Int) (n:Nat):Prop where
 le:n<=r.length
 lo:∀ i s,i<n->r[i]?=some s->s.1<=day
 hi:∀ i s,n<=i->r[i]?=some s->day<s.1
structure Free (r:Sp) (day m:Int):Prop where
 from_:day<=m
 out:¬ Cov r m
 all:∀ d,day<=d->d<m->Cov r d
theorem Free.one {r:Sp} {day m n:Int} (a:Free r day m) (b:Free r day n):m=n:=by
 rcases Int.lt_trichotomy m n with h | h | h
 ·exact absurd (b.all m a.from_ h) a.out
 ·exact h
 ·exact absurd (a.all n b.from_ h) b.out
theorem Free.cov {r l:Sp} {day m:Int} (a:Free r day m) (h:∀ d,Cov r d↔Cov l d):Free l day m:=⟨a.from_,fun z=>a.out ((h _).mpr z),fun d h1 h2=>(h d).mp (a.all d h1 h2)⟩
theorem Free.here {r:Sp} {day:Int} (h:¬ Cov r day):Free r day day:=⟨ydx _,h,fun d h1 h2=>by ac_rfl⟩
theorem Free.gt {r:Sp} {day m:Int} (a:Free r day m):m > day↔Cov r day:=by
 constructor
 ·intro h
  exact a.all day (ydx _) h
 ·intro h
  have:=a.from_
  by_cases e:m=day
  ·rw[e] at a
   exact absurd h a.out
  ·ac_rfl
theorem zhQ {r:Sp} (J:Joined r) {i j:Nat} {s t:Int × Int} (hi:r[i]?=some s) (hj:r[j]?=some t) (lt:i<j):s.2<t.1:=by
 obtain ⟨h1,rfl⟩:=yad.mp hi
 obtain ⟨h2,rfl⟩:=yad.mp hj
 exact ybd.mp J.apart i j h1 h2 lt
theorem zo5 {r:Sp} {day:Int} (B:Begun r day 0):Free r day day:=Free.here fun ⟨s,hs,h1,h2⟩=>by
 obtain ⟨j,hj,rfl⟩:=yaw.mp hs
 have:=B.hi j _ (ydc _) (yaa hj)
 ac_rfl
theorem zoM {r:Sp} (J:Joined r) {day:Int} {n:Nat} {s:Int × Int} (B:Begun r day (n+1)) (e:r[n]?=some s):Free r day (if s.2 > day then s.2 else day):=by
 have up:=J.up s (yah e)
 have lo:=B.lo n s (ydg _) e
 have other:∀ (t:Int × Int) (d:Int),t∈r->t.1<=d->d<t.2->day<=d->d<=s.2->t=s:=fun t d ht h1 h2 h3 h4=>by
  obtain ⟨j,hj,rfl⟩:=yaw.mp ht
  have ej:=yaa hj
  rcases ydi j n with h | h | h
  ·have:=zhQ J ej e h
   ac_rfl
  ·subst h
   rw[e] at ej
   cases ej
   rfl
  ·have:=zhQ J e ej h
   ac_rfl
 by_cases c:s.2 > day
 ·rw[if_pos c]
  refine ⟨by ac_rfl,fun ⟨t,ht,h1,h2⟩=>?_,fun d h1 h2=>⟨s,yah e,by ac_rfl,h2⟩⟩
  have:=other t s.2 ht h1 h2 (by ac_rfl) (ydx _)
  rw[this] at h2
  ac_rfl
 ·rw[if_neg c]
  refine Free.here fun ⟨t,ht,h1,h2⟩=>?_
  obtain ⟨j,hj,rfl⟩:=yaw.mp ht
  have ej:=yaa hj
  rcases ydi j n with h | h | h
  ·have:=zhQ J ej e h
   ac_rfl
  ·subst h
   rw[e] at ej
   cases ej
   ac_rfl
  ·have:=B.hi j _ h ej
   ac_rfl
theorem ziM {l:Sp} (day:Int):∃ m,Free l day m:=by
 obtain ⟨M,hM⟩:∃ M:Int,∀ s∈l,s.2<=M:=by
  clear day
  induction l with
  | nil=>exact ⟨0,fun s h=>by cases h⟩
  | cons s l ih =>
   obtain ⟨M,h⟩:=ih
   refine ⟨if M<=s.2 then s.2 else M,fun t ht=>?_⟩
   rcases yaj.mp ht with rfl | ht
   ·split <;> ac_rfl
   ·have:=h t ht
    split <;> ac_rfl
 have fin:∀ n:Nat,∀ d:Int,M-d<=n->∃ m,Free l d m:=by
  intro n
  induction n with
  | zero =>
   intro d h
   refine ⟨d,Free.here fun ⟨s,hs,h1,h2⟩=>?_⟩
   have:=hM s hs
   ac_rfl
  | succ n ih =>
   intro d h
   by_cases c:Cov l d
   ·obtain ⟨m,F⟩:=ih (d+1) (by ac_rfl)
    refine ⟨m,by have:=F.from_;ac_rfl,F.out,fun x h1 h2=>?_⟩
    by_cases e:x=d
    ·rw[e];exact c
    ·exact F.all x (by ac_rfl) h2
   ·exact ⟨d,Free.here c⟩
 exact fin (M-day).toNat day (by ac_rfl)
noncomputable def ind (l:Sp) (d:Int):Int:=if isIn l d then 1 else 0
noncomputable def many (l:Sp) (a b:Int):Int:=sum (ind l) a b
end Stills
namespace Stills
open Spans Sums
theorem zhz:∀ (a b:List Int),a.Nodup->(∀ x∈a,x∈b)->a.length<=b.length
 | [],b,_,_=>ydc _
 | x::a,b,nd,h=>by
  have hx:=h x (yal ..)
  have n:=ybn.mp nd
  have:=zhz a (b.erase x) n.2 fun y hy=>by
   have ne:y≠x:=fun e=>n.1 (e ▸ hy)
   exact (ycs ne).mpr (h y (yak _ hy))
  rw[ycn hx] at this
  have p:0<b.length:=ycp hx
  show a.length+1<=b.length
  ac_rfl
theorem zpv {r l:Sp} (J:Joined r) (C:∀ d,Cov r d↔Cov l d):r.length<=l.length:=by
 have nd:(r.map (·.1)).Nodup:=by
  unfold List.Nodup
  rw[ybj]
  refine (List.Pairwise.and_mem.mp J.apart).imp fun {s t} h=>?_
  have:=J.up s h.1
  have:=h.2.2
  ac_rfl
 have:=zhz (r.map (·.1)) (l.map (·.1)) nd fun x hx=>by
  obtain ⟨s,hs,rfl⟩:=yae.mp hx
  obtain ⟨t,ht,h1,h2⟩:=(C s.1).mp ⟨s,hs,ydx _,J.up s hs⟩
  have no:¬ Cov r (s.1-1):=by
   rintro ⟨u,hu,q1,q2⟩
   obtain ⟨i,hi,rfl⟩:=yaw.mp hs
   obtain ⟨j,hj,rfl⟩:=yaw.mp hu
   have ui:=J.up _ (ych hi)
   rcases ydi i j with h | h | h
   ·have:=zhQ J (yaa hi) (yaa hj) h
    ac_rfl
   ·subst h
    ac_rfl
   ·have:=zhQ J (yaa hj) (yaa hi) h
    ac_rfl
  have e:t.1=s.1:=by
   by_cases lt:t.1<s.1
   ·exact absurd ((C _).mpr ⟨t,ht,by ac_rfl,by ac_rfl⟩) no
   ·ac_rfl
  exact yae.mpr ⟨t,ht,e⟩
 simpa using this
end Stills
namespace Stills
open Spans Sums
theorem zmZ {l:Sp} (up:l.Pairwise fun s t=>s.1<t.1) {i j:Nat} {s t:Int × Int} (hi:l[i]?=some s) (hj:l[j]?=some t) (lt:i<j):s.1<t.1:=by
 obtain ⟨h1,rfl⟩:=yad.mp hi
 obtain ⟨h2,rfl⟩:=yad.mp hj
 exact ybd.mp up i j h1 h2 lt
theorem zpR {l:Sp} (J:Joined l):l.Pairwise fun s t=>s.1<t.1:=by
 refine (List.Pairwise.and_mem.mp J.apart).imp fun {s t} h=>?_
 have:=J.up s h.1
 have:=h.2.2
 ac_rfl
theorem zrj {ns:List Int} (up:ns.Pairwise (·<·)) {i j:Nat} {x y:Int} (hi:ns[i]?=some x) (hj:ns[j]?=some y) (lt:i<j):x<y:=by
 obtain ⟨h1,rfl⟩:=yad.mp hi
 obtain ⟨h2,rfl⟩:=yad.mp hj
 exact ybd.mp up i j h1 h2 lt
end Stills
namespace Stills
open Spans Sums
end Stills
namespace Stills
open Spans Sums
theorem zdq {t:Sp} {d:Int} (t0:∀ s∈t,0<=s.1) (B:Begun t d 0):valOf t d=0:=by
 refine Val.one (zaZ t0 d) (.inl ⟨rfl,fun r hr=>?_⟩)
 obtain ⟨j,hj,rfl⟩:=yaw.mp hr
 exact B.hi j _ (ydc _) (yaa hj)
theorem zqu {t:Sp} {d:Int} (t0:∀ s∈t,0<=s.1) (up:t.Pairwise fun s u=>s.1<u.1) {n:Nat} {s:Int × Int} (B:Begun t d (n+1)) (e:t[n]?=some s):valOf t d=s.2:=by
 refine Val.one (zaZ t0 d) (.inr ⟨n,s.1,e,B.lo n s (ydg _) e,fun j r hj le=>?_⟩)
 rcases ydi j n with h | h | h
 ·exact .inl (zmZ up hj e h)
 ·subst h
  rw[e] at hj
  cases hj
  exact .inr ⟨rfl,ycz _⟩
 ·have:=B.hi j r h hj
  ac_rfl
end Stills
namespace Stills
open Spans Sums
end Stills
namespace Stills
end Stills
namespace Stills
open Spans Sums
structure TabOf (t tb:Sp):Prop where
 up:tb.Pairwise fun s u=>s.1<u.1
 val:∀ d,valOf tb d=valOf t d
 days:∀ d,(∃ s∈tb,d=s.1)↔∃ s∈t,d=s.1
theorem TabOf.nn {t tb:Sp} (T:TabOf t tb) (t0:∀ s∈t,0<=s.1):∀ s∈tb,0<=s.1:=fun s hs=>by
 obtain ⟨u,hu,e⟩:=(T.days s.1).mp ⟨s,hs,rfl⟩
 rw[e]
 exact t0 u hu
theorem tab_of {t:Sp} {ds:List Int} (t0:∀ s∈t,0<=s.1) (up:ds.Pairwise (·<·)) (mem:∀ d,d∈ds↔∃ s∈t,d=s.1):TabOf t (ds.map fun d=>(d,valOf t d)):=by
 have d0:∀ s∈ds.map fun d=>(d,valOf t d),0<=s.1:=fun s hs=>by
  obtain ⟨d,hd,rfl⟩:=yae.mp hs
  obtain ⟨u,hu,e⟩:=(mem d).mp hd
  show 0<=d
  rw[e]
  exact t0 u hu
 refine ⟨by rw[ybj];exact up,fun d=>?_,fun d=>?_⟩
 ·refine Val.one (zaZ d0 d) ?_
  rcases zaZ t0 d with ⟨e,h⟩ | ⟨i,b,e,le,h⟩
  ·rw[e]
   refine .inl ⟨rfl,fun r hr=>?_⟩
   obtain ⟨x,hx,rfl⟩:=yae.mp hr
   obtain ⟨u,hu,e'⟩:=(mem x).mp hx
   show d<x
   rw[e']
   exact h u hu
  ·have hb:b∈ds:=(mem b).mpr ⟨_,yah e,rfl⟩
   obtain ⟨j,hj,ej⟩:=yaw.mp hb
   have vb:valOf t b=valOf t d:=Val.one (zaZ t0 b) (.inr ⟨i,b,e,ydx _,fun k r hk hr=>h k r hk (by ac_rfl)⟩)
   refine .inr ⟨j,b,?_,le,fun k r hk hr=>?_⟩
   ·rw[yag,yaa hj,ej]
    show some (b,valOf t b)=_
    rw[vb]
   ·rw[yag] at hk
    obtain ⟨x,hx,rfl⟩:=Option.map_eq_some_iff.mp hk
    have ej':ds[j]?=some b:=by rw[yaa hj,ej]
    obtain ⟨u,hu,eu⟩:=(mem x).mp (yah hx)
    obtain ⟨n,hn,en⟩:=yaw.mp hu
    have hxb:x<=b:=by
     have:=h n u (by rw[yaa hn,en]) (by rw[<-eu];exact hr)
     rw[<-eu] at this
     ac_rfl
    rcases ydi k j with c | c | c
    ·exact .inl (zrj up hx ej' c)
    ·subst c
     rw[ej'] at hx
     cases hx
     exact .inr ⟨rfl,ycz _⟩
    ·have:=zrj up ej' hx c
     ac_rfl
 ·constructor
  ·rintro ⟨s,hs,rfl⟩
   obtain ⟨x,hx,rfl⟩:=yae.mp hs
   exact (mem x).mp hx
  ·intro hd
   exact ⟨(d,valOf t d),yae.mpr ⟨d,(mem d).mpr hd,rfl⟩,rfl⟩
end Stills
namespace Stills
open Spans Sums
end Stills
namespace Stills
end Stills
namespace Stills
open Spans Sums
structure JInv (P acc:Sp):Prop where
 j:Joined acc
 c:∀ d,Cov acc d↔Cov P d
 f:∀ t∈acc,∃ s∈P,t.1=s.1
theorem zj5 {s:Int × Int} {d:Int}:Cov [s] d↔s.1<=d/\d<s.2:=by
 rw[zqy]
 exact ⟨fun h=>h.elim id fun z=>absurd z zon,.inl⟩
theorem JInv.nil:JInv [] []:=⟨⟨fun s h=>(by cases h),List.Pairwise.nil⟩,fun _=>Iff.rfl,fun t h=>(by cases h)⟩
theorem JInv.begin_ {P:Sp} {s:Int × Int} (J:JInv P []) (up:s.1<s.2):JInv (P++[s]) [s]:=by
 refine ⟨⟨fun t ht=>?_,yby _ _⟩,fun d=>?_,fun t ht=>?_⟩
 ·have:t=s:=by simpa using ht
  rw[this];exact up
 ·rw[zb8,<-J.c]
  exact ⟨.inr,fun h=>h.elim (fun z=>absurd z zon) id⟩
 ·have:t=s:=by simpa using ht
  exact ⟨s,by simp,by rw[this]⟩
theorem JInv.add {P acc:Sp} {t s:Int × Int} (J:JInv P (acc++[t])) (up:s.1<s.2) (h:t.2<s.1):JInv (P++[s]) (acc++[t]++[s]):=by
 have jt:=J.j.up t (by simp)
 refine ⟨⟨fun u hu=>?_,ybx.mpr ⟨J.j.apart,yby _ _,fun u hu v hv=>?_⟩⟩,fun d=>?_,fun u hu=>?_⟩
 ·rcases yam.mp hu with hu | hu
  ·exact J.j.up u hu
  ·have:u=s:=by simpa using hu
   rw[this];exact up
 ·have:v=s:=by simpa using hv
  subst this
  rcases yam.mp hu with hu' | hu'
  ·have:=(ybx.mp J.j.apart).2.2 u hu' t (by simp)
   ac_rfl
  ·have:u=t:=by simpa using hu'
   rw[this];exact h
 ·rw[zb8 (a:=acc++[t]),zb8 (a:=P),J.c]
 ·rcases yam.mp hu with hu | hu
  ·obtain ⟨x,hx,e⟩:=J.f u hu
   exact ⟨x,yam.mpr (.inl hx),e⟩
  ·have:u=s:=by simpa using hu
   exact ⟨s,by simp,by rw[this]⟩
theorem JInv.grow {P acc:Sp} {t s:Int × Int} {m:Int} (J:JInv P (acc++[t])) (up:s.1<s.2) (h0:t.1<=s.1) (h:s.1<=t.2) (hm:m=if s.2 > t.2 then s.2 else t.2):JInv (P++[s]) (acc++[(t.1,m)]):=by
 have jt:=J.j.up t (by simp)
 have hm':t.2<=m/\s.2<=m/\(m=t.2\/m=s.2):=by rw[hm];split <;> ac_rfl
 obtain ⟨p1,p2,p3⟩:=ybx.mp J.j.apart
 refine ⟨⟨fun u hu=>?_,ybx.mpr ⟨p1,yby _ _,fun u hu v hv=>?_⟩⟩,fun d=>?_,fun u hu=>?_⟩
 ·rcases yam.mp hu with hu | hu
  ·exact J.j.up u (yam.mpr (.inl hu))
  ·have:u=(t.1,m):=by simpa using hu
   rw[this]
   show t.1<m
   ac_rfl
 ·have:v=(t.1,m):=by simpa using hv
  rw[this]
  exact p3 u hu t (by simp)
 ·have a:=J.c d
  rw[zb8,zj5] at a
  rw[zb8,zb8,<-a,zj5,zj5]
  show (Cov acc d\/(t.1<=d/\d<m))↔((Cov acc d\/(t.1<=d/\d<t.2))\/(s.1<=d/\d<s.2))
  constructor
  ·rintro (z | z)
   ·exact .inl (.inl z)
   ·by_cases c:d<t.2
    ·exact .inl (.inr ⟨z.1,c⟩)
    ·exact .inr (by ac_rfl)
  ·rintro ((z | z) | z)
   ·exact .inl z
   ·exact .inr (by ac_rfl)
   ·exact .inr (by ac_rfl)
 ·rcases yam.mp hu with hu | hu
  ·obtain ⟨x,hx,e⟩:=J.f u (yam.mpr (.inl hu))
   exact ⟨x,yam.mpr (.inl hx),e⟩
  ·have:u=(t.1,m):=by simpa using hu
   obtain ⟨x,hx,e⟩:=J.f t (by simp)
   exact ⟨x,yam.mpr (.inl hx),by rw[this];exact e⟩
theorem zrL {a b:Sp} (h:∀ s,s∈a↔s∈b) (d:Int):Cov a d↔Cov b d:=⟨fun ⟨s,hs,q⟩=>⟨s,(h s).mp hs,q⟩,fun ⟨s,hs,q⟩=>⟨s,(h s).mpr hs,q⟩⟩
end Stills
namespace Dct
open L2
def days (t:List (Int × Int)) (d:Int):Prop:=∃ s∈t,d=s.1
theorem zsA {d:Int} (h:-1<=d):∀ (t:List (Int × Int)) (st:Int × Int),st.1<=d->(t.foldl (Sums.vstep d) st).1<=d
 | [],st,hs=>hs
 | x::t,st,hs=>by
  rw[yca]
  refine zsA h t _ ?_
  unfold Sums.vstep
  split
  ·rename_i q;exact q.2
  ·exact hs
theorem zpI {d:Int}:∀ (t:List (Int × Int)) (st:Int × Int),st.1=d->(t.foldl (Sums.vstep d) st).1=d
 | [],st,hs=>hs
 | x::t,st,hs=>by
  rw[yca]
  refine zpI t _ ?_
  unfold Sums.vstep
  split
  ·rename_i q;ac_rfl
  ·exact hs
theorem zrf {d:Int} (h:0<=d):∀ (t:List (Int × Int)) (st:Int × Int),st.1<=d->days t d->(t.foldl (Sums.vstep d) st).1=d
 | [],st,_,hd=>by obtain ⟨s,hs,_⟩:=hd;cases hs
 | x::t,st,hs,hd=>by
  rw[yca]
  by_cases e:x.1=d
  ·refine zpI t _ ?_
   unfold Sums.vstep
   rw[if_pos ⟨by ac_rfl,by ac_rfl⟩]
   exact e
  ·refine zrf h t _ ?_ ?_
   ·unfold Sums.vstep
    split
    ·rename_i q;exact q.2
    ·exact hs
   ·obtain ⟨s,m,q⟩:=hd
    rcases yaj.mp m with rfl | m
    ·exact absurd q.symm e
    ·exact ⟨s,m,q⟩
theorem zkU (t:List (Int × Int)) (x:Int × Int):zcg (t++[x])=zak (zcg t) x.1 x.2:=by
 unfold zcg
 rw[List.foldl_append]
 rfl
theorem zkc (l:List (Int × Int)) (k:Int):l.any (fun p=>p.1=k)=true↔days l k:=by
 rw[ycd]
 constructor
 ·rintro ⟨s,m,q⟩;exact ⟨s,m,(of_decide_eq_true q).symm⟩
 ·rintro ⟨s,m,q⟩;exact ⟨s,m,decide_eq_true q.symm⟩
theorem zjA {l:List (Int × Int)} {k y:Int} {s:Int × Int} (h:s∈zak l k y):(s.1=k/\s.2=y)\/(s∈l/\s.1≠k):=by
 unfold zak at h
 split at h
 ·obtain ⟨u,m,e⟩:=yae.mp h
  by_cases q:u.1=k
  ·rw[if_pos q] at e;subst e;exact .inl ⟨q,rfl⟩
  ·rw[if_neg q] at e;subst e;exact .inr ⟨m,q⟩
 ·rename_i na
  rcases yam.mp h with m | m
  ·refine .inr ⟨m,fun q=>na ((zkc l k).mpr ⟨s,m,q.symm⟩)⟩
  ·obtain rfl:s=(k,y):=by simpa using m
   exact .inl ⟨rfl,rfl⟩
theorem znQ {l:List (Int × Int)} {k y d:Int}:days (zak l k y) d↔days l d\/d=k:=by
 constructor
 ·rintro ⟨s,m,q⟩
  rcases zjA m with ⟨a,_⟩ | ⟨a,_⟩
  ·exact .inr (q.trans a)
  ·exact .inl ⟨s,a,q⟩
 ·intro h
  unfold zak
  split
  ·rename_i a
   have hd:days l d:=by
    rcases h with h | h
    ·exact h
    ·rw[h];exact (zkc l k).mp a
   obtain ⟨s,m,q⟩:=hd
   by_cases e:s.1=k
   ·exact ⟨(s.1,y),yae.mpr ⟨s,m,by rw[if_pos e]⟩,q⟩
   ·exact ⟨s,yae.mpr ⟨s,m,by rw[if_neg e]⟩,q⟩
  ·rcases h with ⟨s,m,q⟩ | h
   ·exact ⟨s,ybg _ m,q⟩
   ·exact ⟨(k,y),yai _ (ybc.mpr rfl),h⟩
theorem znJ {l:List (Int × Int)} {k y:Int} (h:(l.map (·.1)).Nodup):((zak l k y).map (·.1)).Nodup:=by
 unfold zak
 split
 ·rw[ybv]
  have e:((fun x:Int × Int=>x.1) ∘ fun p:Int × Int=>if p.1=k then (p.1,y) else p)=fun x=>x.1:=by
   funext p
   show (if p.1=k then (p.1,y) else p).1=p.1
   split <;> rfl
  rw[e]
  exact h
 ·rename_i na
  rw[yat]
  refine List.nodup_append.mpr ⟨h,by simp,fun a ha b hb=>?_⟩
  have hb':b=k:=by simpa using hb
  obtain ⟨s,m,q⟩:=yae.mp ha
  rw[hb']
  intro z
  exact na ((zkc l k).mpr ⟨s,m,by rw[<-z];exact q.symm⟩)
structure Is (t l:List (Int × Int)):Prop where
 keys:(l.map (·.1)).Nodup
 days:∀ d,days l d↔days t d
 val:∀ s∈l,s.2=Sums.valOf t s.1
theorem dct_is:∀ (n:Nat) (t:List (Int × Int)),t.length=n->(∀ s∈t,0<=s.1)->Is t (zcg t)
 | 0,t,e,_=>by
  obtain rfl:t=[]:=List.eq_nil_of_length_eq_zero e
  exact ⟨List.nodup_nil,fun d=>Iff.rfl,fun s hs=>by cases hs⟩
 | n+1,t,e,h0=>by
  have ne:t≠[]:=fun z=>by rw[z] at e;cases e
  have et:t.dropLast++[t.getLast ne]=t:=List.dropLast_concat_getLast ne
  generalize t.dropLast=u at et
  generalize t.getLast ne=x at et
  subst et
  have ul:u.length=n:=by simpa using e
  have ih:=dct_is n u ul fun s hs=>h0 s (ybg _ hs)
  rw[zkU]
  refine ⟨znJ ih.keys,fun d=>?_,fun s hs=>?_⟩
  ·rw[znQ,ih.days]
   constructor
   ·rintro (⟨s,m,q⟩ | q)
    ·exact ⟨s,ybg _ m,q⟩
    ·exact ⟨x,yai _ (ybc.mpr rfl),q⟩
   ·rintro ⟨s,m,q⟩
    rcases yam.mp m with m | m
    ·exact .inl ⟨s,m,q⟩
    ·obtain rfl:s=x:=by simpa using m
     exact .inr q
  ·have x0:=h0 x (yai _ (ybc.mpr rfl))
   have ev:∀ d,Sums.valOf (u++[x]) d=(Sums.vstep d (u.foldl (Sums.vstep d) (-1,0)) x).2:=fun d=>by
    unfold Sums.valOf
    rw[List.foldl_append]
    rfl
   rcases zjA hs with ⟨a,b⟩ | ⟨a,b⟩
   ·rw[ev,b,a]
    unfold Sums.vstep
    rw[if_pos ⟨zsA (by ac_rfl) u (-1,0) (by show -1<=x.1;ac_rfl),ydx _⟩]
   ·rw[ev,ih.val s a]
    have d0:0<=s.1:=by
     obtain ⟨r,m,q⟩:=(ih.days s.1).mp ⟨s,a,rfl⟩
     rw[q]
     exact h0 r (ybg _ m)
    have b1:=zrf d0 u (-1,0) (by show -1<=s.1;ac_rfl) ((ih.days s.1).mp ⟨s,a,rfl⟩)
    have st:Sums.vstep s.1 (u.foldl (Sums.vstep s.1) (-1,0)) x=u.foldl (Sums.vstep s.1) (-1,0):=if_neg (by rw[b1];ac_rfl)
    rw[st]
    rfl
theorem tab {t r:List (Int × Int)} (h0:∀ s∈t,0<=s.1) (p:r.Perm (zcg t)) (o:r.Pairwise fun s u=>s.1<=u.1):Stills.TabOf t r/\r=(r.map (·.1)).map fun d=>(d,Sums.valOf t d):=by
 have I:=dct_is t.length t rfl h0
 have nd:(r.map (·.1)).Nodup:=(p.map (·.1)).nodup_iff.mpr I.keys
 have up:(r.map (·.1)).Pairwise (·<·):=by
  have o':(r.map (·.1)).Pairwise (·<=·):=by
   rw[ybj]
   exact o
  refine (o'.and nd).imp fun {a b} h=>?_
  have:=h.1
  have:=h.2
  ac_rfl
 have e:r=(r.map (·.1)).map fun d=>(d,Sums.valOf t d):=by
  rw[ybv]
  conv=>lhs;rw[<-List.map_id r]
  refine ybm fun s hs=>?_
  show s=(s.1,Sums.valOf t s.1)
  rw[<-I.val s (p.mem_iff.mp hs)]
 refine ⟨?_,e⟩
 rw[e]
 refine Stills.tab_of h0 up fun d=>?_
 constructor
 ·intro m
  obtain ⟨s,hs,rfl⟩:=yae.mp m
  exact (I.days s.1).mp ⟨s,p.mem_iff.mp hs,rfl⟩
 ·intro m
  obtain ⟨s,hs,q⟩:=(I.days d).mpr m
  exact yae.mpr ⟨s,p.mem_iff.mpr hs,q.symm⟩
end Dct
namespace L2
open PySem
noncomputable def bkF (c g e o f p t r l s d:V):List (Str × V):=[("own_count", c),("own_grace", g),("own_entries", e),("out_sums", o),("fee_sums", f),("pay_sums", p),("turn_days", t),("rate_rows", r),("late_rows", l),("spans", s),("due_sums", d)]
noncomputable def upto (l:List (Int × Int)) (d:Int):Int:=((l.filter fun s=>decide (s.1<=d)).map (·.2)).sum
structure BkT where
 (kd:Kd) (g:Int) (es:List Er) (outs fees pays:List (Int × Int)) (turns:List Int) (rates lates spans dues:List (Int × Int))
def LP (K:W.Frag) (H:Hp) (p:Addr) (l:List (Int × Int)):Prop:=∃ xs,H p=some (.lst xs)/\zu K H xs l/\l.length<=1000
theorem LP.same {K:W.Frag} {H H':Hp} {p:Addr} {l:List (Int × Int)} (h:LP K H p l) (s:Same H H'):LP K H' p l:=by
 obtain ⟨xs,e,r,n⟩:=h
 exact ⟨xs,s _ _ e,r.same s,n⟩
structure BkA where
 (dx c e o f p t r l s d:Addr)
noncomputable def BkA.fs (A:BkA) (g:Int):List (Str × V):=bkF (.ref A.c) (.int g) (.ref A.e) (.ref A.o) (.ref A.f) (.ref A.p) (.ref A.t) (.ref A.r) (.ref A.l) (.ref A.s) (.ref A.d)
structure zav (K:W.Frag) (H:Hp) (a:Addr) (A:BkA) (b:BkT):Prop where
 ins:H a=some (.ins (cA K "Book") A.dx (A.fs b.g))
 cnt:zc0 K H A.c b.kd
 ents:∃ xs,H A.e=some (.lst xs)/\EL K H xs b.es
 outs:LP K H A.o b.outs
 fees:LP K H A.f b.fees
 pays:LP K H A.p b.pays
 turns:H A.t=some (.lst (b.turns.map V.int))
 rates:LP K H A.r b.rates
 lates:LP K H A.l b.lates
 spans:LP K H A.s b.spans
 dues:LP K H A.d b.dues
theorem zav.same {K:W.Frag} {H H':Hp} {a:Addr} {A:BkA} {b:BkT} (h:zav K H a A b) (s:Same H H'):zav K H' a A b :=
 ⟨s _ _ h.ins,h.cnt.same s,(let ⟨xs,e,r⟩:=h.ents;⟨xs,s _ _ e,r.same s⟩),h.outs.same s,h.fees.same s,h.pays.same s,s _ _ h.turns,h.rates.same s,h.lates.same s,h.spans.same s,h.dues.same s⟩
noncomputable def wo (H:Hp) (a:Addr):Hp:=fun b=>if b=a then none else H b
theorem zri {H:Hp} {a b:Addr} (h:b≠a):wo H a b=H b:=if_neg h
theorem zbK {H:Hp} {a:Addr}:Same (wo H a) H:=fun b o e=>by
 unfold wo at e
 split at e
 ·cases e
 ·exact e
theorem zrM {H H':Hp} {a:Addr} (s:Same H H'):Same (wo H a) (wo H' a):=fun b o e=>by
 unfold wo at e ⊢
 split at e
 ·cases e
 ·rename_i n
  rw[if_neg n]
  exact s _ _ e
theorem zci {H:Hp} {a:Addr} {o:HO}:wo (upd H a o) a=wo H a:=funext fun b=>by
 unfold wo
 split
 ·rfl
 ·rename_i n
  rw[zt n]
theorem zrJ {K:W.Frag} {H:Hp} {a C dx:Addr} {fs:List (Str × V)} {xs:List V} {l:List (Int × Int)} (h:zu K H xs l) (e:H a=some (.ins C dx fs)):zu K (wo H a) xs l:=by
 induction h with
 | nil=>exact .nil
 | cons h _ ih=>exact .cons (by rw[zri (za6 h e (by intro z;cases z))];exact h) ih
theorem zlR {H:Hp} {a p C dx:Addr} {fs:List (Str × V)} {xs:List V} (h:H p=some (.lst xs)) (e:H a=some (.ins C dx fs)):wo H a p=some (.lst xs):=by
 rw[zri (za6 h e (by intro z;cases z))];exact h
theorem LP.wo {K:W.Frag} {H:Hp} {a p C dx:Addr} {fs:List (Str × V)} {l:List (Int × Int)} (h:LP K H p l) (e:H a=some (.ins C dx fs)):LP K (L2.wo H a) p l:=by
 obtain ⟨xs,h1,h2,h3⟩:=h
 exact ⟨xs,zlR h1 e,zrJ h2 e,h3⟩
theorem zb5 {H H2:Hp} {a:Addr} {o:HO} (s:Same H H2):Same (wo H a) (wo (upd H2 a o) a):=by
 rw[zci]
 exact zrM s
noncomputable def tot (q:Int->Bool) (l:List (Int × Int)):Int:=((l.filter fun s=>q s.1).map (·.2)).sum
theorem zdB (q:Int->Bool) (s:Int × Int) (l:List (Int × Int)):tot q (s::l)=(if q s.1 then s.2 else 0)+tot q l:=by
 unfold tot
 by_cases h:q s.1=true
 ·rw[yau (by simpa using h),if_pos h];simp
 ·rw[yav (by simpa using h),if_neg h];simp
theorem zeG (s:Int × Int) (l:List (Int × Int)) (n:Int):Sby.sm (s::l) n=(if s.1=n then s.2 else 0)+Sby.sm l n:=by
 have:=zdB (fun k=>decide (k=n)) s l
 simpa [tot,Sby.sm] using this
theorem zk4 (q:Int->Bool) (n:Int):∀ l:List (Int × Int),tot q l=(if q n then Sby.sm l n else 0)+tot q (l.filter fun s=>decide (s.1≠n))
 | []=>by simp[tot,Sby.sm]
 | s::l=>by
  rw[zdB,zk4 q n l,zeG]
  by_cases e:s.1=n
  ·rw[yav (by simpa using e),if_pos e,e]
   split <;> ac_rfl
  ·rw[yau (by simpa using e),if_neg e,zdB]
   split <;> split <;> ac_rfl
theorem zss {n d:Int} (h:d≠n) (l:List (Int × Int)):Sby.sm (l.filter fun s=>decide (s.1≠n)) d=Sby.sm l d:=by
 induction l with
 | nil=>rfl
 | cons s l ih =>
  by_cases e:s.1=n
  ·rw[yav (by simpa using e),zeG,if_neg (by ac_rfl),ih];ac_rfl
  ·rw[yau (by simpa using e),zeG,zeG,ih]
theorem zm7 (q:Int->Bool):∀ (ns:List Int) (l:List (Int × Int)),ns.Nodup->(∀ p∈l,p.1∈ns)->tot q (ns.map fun d=>(d,Sby.sm l d))=tot q l
 | [],l,_,h=>by
  cases l with
  | nil=>rfl
  | cons s l=>exact absurd (h s yal) (by simp)
 | n::ns,l,nd,h=>by
  obtain ⟨n1,n2⟩:=ybn.mp nd
  rw[ybf,zdB,zk4 q n l,<-zm7 q ns (l.filter fun s=>decide (s.1≠n)) n2 fun p hp=>?_]
  ·congr 2
   apply ybm
   intro d hd
   rw[zss (fun (e:d=n)=>n1 (by rw[<-e];exact hd))]
  ·obtain ⟨h1,h2⟩:=yaq.mp hp
   rcases yaj.mp (h p h1) with e | e
   ·exact absurd e (by simpa using h2)
   ·exact e
theorem zqo {r l:List (Int × Int)} (T:Sby.Tab r l):r=(r.map (·.1)).map fun d=>(d,Sby.sm l d):=by
 rw[ybv]
 conv=>lhs;rw[<-List.map_id r]
 apply ybm
 intro p hp
 show p=(p.1,Sby.sm l p.1)
 rw[<-T.val p hp]
theorem zn6 {r l:List (Int × Int)} (T:Sby.Tab r l) (q:Int->Bool):tot q r=tot q l:=by
 rw[zqo T]
 exact zm7 q _ l (Sby.zgR T.up) fun p hp=>(T.mem p.1).mpr (yaz hp)
theorem zah {r l:List (Int × Int)} (T:Sby.Tab r l) (d:Int):upto r d=upto l d:=zn6 T fun k=>decide (k<=d)
noncomputable def mvp (f:Int->Int) (l:List (Int × Int)):List (Int × Int):=l.map fun s=>(f s.1,s.2)
theorem zpV (f:Int->Int) (l:List (Int × Int)) (k:Int):Sby.sm (mvp f l) k=tot (fun d=>decide (f d=k)) l:=by
 induction l with
 | nil=>rfl
 | cons s l ih =>
  show Sby.sm ((f s.1,s.2)::mvp f l) k=_
  rw[zeG,zdB,ih]
  by_cases e:f s.1=k
  ·rw[if_pos e,if_pos (by simpa using e)]
  ·rw[if_neg e,if_neg (by simpa using e)]
theorem zrP {r r2 l:List (Int × Int)} (f:Int->Int) (T:Sby.Tab r l) (T2:Sby.Tab r2 (mvp f r)):Sby.Tab r2 (mvp f l):=by
 have k:∀ l:List (Int × Int),(mvp f l).map (·.1)=(l.map (·.1)).map f:=fun l=>by unfold mvp;rw[ybv,ybv];rfl
 refine ⟨T2.up,fun d=>(T2.mem d).trans ?_,fun p hp=>?_⟩
 ·rw[k,k]
  constructor
  ·intro h
   obtain ⟨x,hx,e⟩:=yae.mp h
   exact yae.mpr ⟨x,(T.mem x).mp hx,e⟩
  ·intro h
   obtain ⟨x,hx,e⟩:=yae.mp h
   exact yae.mpr ⟨x,(T.mem x).mpr hx,e⟩
 ·rw[T2.val p hp,zpV,zpV,zn6 T]
noncomputable def mvd (l:List (Int × Int)) (d:Int):Int:=Classical.choose (Stills.ziM (l:=l) d)
theorem zhZ (l:List (Int × Int)) (d:Int):Stills.Free l d (mvd l d):=Classical.choose_spec (Stills.ziM (l:=l) d)
theorem zmg {l:List (Int × Int)} {d m:Int} (h:Stills.Free l d m):m=mvd l d:=h.one (zhZ l d)
theorem zru {l r:List (Int × Int)} (h:∀ d,Spans.Cov l d↔Spans.Cov r d):mvd l=mvd r:=funext fun d=>zmg ((zhZ l d).cov h)
structure zbp (b:BkT):Prop where
 outs:Sby.Tab b.outs (prs "out" b.es)
 fees:Sby.Tab b.fees (prs "fee" b.es)
 pays:Sby.Tab b.pays (prs "pay" b.es)
 turns:Days b.turns (dys "turn" b.es)
 rates:Stills.TabOf (prs "rate" b.es) b.rates/\b.rates=(b.rates.map (·.1)).map (fun d=>(d,Sums.valOf (prs "rate" b.es) d))
 lates:Stills.TabOf (prs "late" b.es) b.lates/\b.lates=(b.lates.map (·.1)).map (fun d=>(d,Sums.valOf (prs "late" b.es) d))
 spans:Spans.Joined b.spans/\∀ d,Spans.Cov b.spans d↔Spans.Cov (prs "still" b.es) d
 dues:Sby.Tab b.dues (mvp (mvd (prs "still" b.es)) (prs "due" b.es))
def RtW (w:Str):Prop:=w = "rate" \/ w = "late"
theorem rtl {w:Str} {k:Ek} {d x:Int} (hw:RtW w) (h:isW w (k,d,x)=true):yce ("rate" : Str) (zjX k d x)=some (V.int x):=by
 have e:k.word=w:=V.str.inj (of_decide_eq_true h)
 subst e
 rcases hw with hw | hw <;> (cases k <;> first | rfl | (exfalso;revert hw;decide))
theorem stl {k:Ek} {d x:Int} (h:isW "still" (k,d,x)=true):yce ("until" : Str) (zjX k d x)=some (V.int x):=by
 have e:k.word = "still" := V.str.inj (of_decide_eq_true h)
 cases k <;> first | rfl | (exfalso;revert e;decide)
theorem zqb (l:List (Int × Int)) (d:Int):Spans.Cov (l.filter fun s=>decide (s.1<s.2)) d↔Spans.Cov l d:=by
 constructor
 ·rintro ⟨s,hs,h⟩
  exact ⟨s,(yaq.mp hs).1,h⟩
 ·rintro ⟨s,hs,h1,h2⟩
  exact ⟨s,yaq.mpr ⟨hs,by simp;ac_rfl⟩,h1,h2⟩
theorem zeO {w:Str} {es:List Er}:(prs w es).length<=es.length:=by
 unfold prs
 rw[yab]
 exact ybb _ _
theorem tyC {K:W.Frag} {H:Hp} {a:Addr} {kd:Kd} (cl:Cls K (cA K kd.cls)) (I:zqi K (cA K kd.cls)) (h:zc0 K H a kd):zcB K H (.ref a) (.ref (cA K kd.cls)):=by
 obtain ⟨dx,e⟩:=h
 exact .ins e cl I.ha I.hn I.htk I.hm
theorem comp_map {α:Type} {J:It} {ix:List Nat} {te:TE} {σ:St} {l:Addr} {xs:List V} {H:Hp} {R:Hp->Prop} (Y:zh7 J H xs) (hl:H l=none) (hz:xs.length<=sizeLine) (es:List α) (len:es.length=xs.length)
  (P:Hp->V->α->Prop) (mono:∀ v e H1 H2,Same H1 H2->P H1 v e->P H2 v e) (put:∀ v e H1 ys zs,H1 l=some (.lst ys)->P H1 v e->P (upd H1 l (.lst zs)) v e)
  (he:∀ (i:Nat) x e H' Q',xs[i]?=some x->es[i]?=some e->Same H H'->(∀ v H2,Same H' H2->P H2 v e->Q' v H2)->te (some x::capts σ ix) H' Q')
  (fin:∀ ys H',Same H H'->H' l=some (.lst ys)->LL (P H') ys es->R H') :
  ∃ W:Nat->Nat->List V->Hp->Prop,(∃ m,W 0 m [] (upd H l (.lst [])))/\Turns ix te σ J l R W:=by
 refine zl0 Y hl hz (fun i v H'=>∃ e,es[i]?=some e/\P H' v e) (fun i v H1 H2 s ⟨e,e1,e2⟩=>⟨e,e1,mono v e _ _ s e2⟩) (fun i v H1 ys zs hL ⟨e,e1,e2⟩=>⟨e,e1,put v e _ _ _ hL e2⟩) ?_ ?_
 ·intro i x H' Q' hx sH hq
  have il:i<es.length:=by rw[len];exact (yad.mp hx).1
  have eP:es[i]?=some (es[i]'il):=yaa il
  exact he i x _ H' Q' hx eP sH fun v H2 s2 pv=>hq v H2 s2 ⟨_,eP,pv⟩
 ·intro ys H' sH eL yl hp
  exact fin ys H' sH eL (LL.of (by ac_rfl) hp)
theorem zqR {K:W.Frag} {H:Hp} {f:Int->Int} {ys:List V} {l:List (Int × Int)} (h:LL (fun v s=>∃ t,v=.ref t/\H t=some (.tup [.int (f s.1),.int s.2])) ys l):zu K H ys (mvp f l):=by
 induction h with
 | nil=>exact .nil
 | cons h _ ih =>
  obtain ⟨t,rfl,e⟩:=h
  exact .cons e ih
noncomputable def zaK (k:Ek) (d x:Int):List V:=[.str k.word,.int d,.int x]
noncomputable def RL3 (H:Hp):List V->List Er->Prop:=LL fun v e=>∃ t,v=.ref t/\H t=some (.tup (zaK e.1 e.2.1 e.2.2))
theorem RL3.same {H H':Hp} {vs:List V} {es:List Er} (h:RL3 H vs es) (s:Same H H'):RL3 H' vs es:=LL.imp (fun v e ⟨t,e1,e2⟩=>⟨t,e1,s _ _ e2⟩) h
theorem RL3.put {H:Hp} {vs ys zs:List V} {es:List Er} {p:Addr} (h:RL3 H vs es) (hp:H p=some (.lst ys)):RL3 (upd H p (.lst zs)) vs es:=LL.imp (fun v e ⟨t,e1,e2⟩=>⟨t,e1,by rw[zt (za6 e2 hp (by intro z;cases z))];exact e2⟩) h
theorem zp5 (l:List (Int × Int)) (s:Int × Int) (d:Int):Spans.isIn (l++[s]) d=(Spans.isIn l d || (decide (s.1<=d) && decide (d<s.2))):=by
 unfold Spans.isIn
 rw[List.any_append]
 simp
theorem zgP (n:Nat) (x:V):(yax n [x]).flatten=yax n x:=by
 induction n with
 | zero=>rfl
 | succ n ih=>rw[ybr,yck,ih,ybr];rfl
theorem zgF {n:Nat} {i:Int} (h0:0<=i) (h1:i<n):ixN n i=some i.toNat:=by
 unfold ixN
 rw[if_pos h0,if_pos h1]
end L2
namespace L2
open PySem
noncomputable abbrev T3:=Int × Int × Int
noncomputable def mn (a b:Int):Int:=if b<a then b else a
noncomputable def sum2 (l:List (Int × Int)):Int:=(l.map (·.2)).sum
noncomputable def zth (day paid t:Int) (s:Int × Int):List T3:=if s.1<=day/\mn s.2 (t+s.2-paid) > 0 then [(s.1,s.2,mn s.2 (t+s.2-paid))] else []
noncomputable def opn (day paid:Int):Int->List (Int × Int)->List T3
 | _,[]=>[]
 | t,s::l=>zth day paid t s++opn day paid (t+s.2) l
theorem zpo (l:List (Int × Int)) (s:Int × Int):sum2 (l++[s])=sum2 l+s.2:=by simp[sum2]
noncomputable def p0 (a:Int):Int:=if a > 0 then a else 0
theorem zfu (s:Int × Int) (l:List (Int × Int)) (x:Int):upto (s::l) x=(if s.1<=x then s.2 else 0)+upto l x:=by
 have:=zdB (fun k=>decide (k<=x)) s l
 simpa [tot,upto] using this
theorem zd1 {l:List (Int × Int)} {x:Int} (h:∀ s∈l,x<s.1):upto l x=0:=by
 unfold upto
 rw[ycg.mpr (fun s hs=>by have:=h s hs;simp;ac_rfl)]
 rfl
end L2
namespace L2
open PySem
theorem zkv (d x:Int):∀ r:List (Int × Int),(∀ s∈r,s.1<=x->s.1<=d)\/∃ s∈r,d<s.1/\s.1<=x/\∀ u∈r,u.1<=x->u.1<=s.1
 | []=>.inl fun s hs=>by cases hs
 | a::r=>by
  by_cases c:d<a.1/\a.1<=x
  ·right
   rcases zkv d x r with h | ⟨s,hs,h1,h2,h3⟩
   ·refine ⟨a,by simp,c.1,c.2,fun u hu z=>?_⟩
    rcases yaj.mp hu with rfl | hu
    ·exact ydx _
    ·have:=h u hu z;ac_rfl
   ·by_cases c2:s.1<=a.1
    ·refine ⟨a,by simp,c.1,c.2,fun u hu z=>?_⟩
     rcases yaj.mp hu with rfl | hu
     ·exact ydx _
     ·have:=h3 u hu z;ac_rfl
    ·refine ⟨s,yak _ hs,h1,h2,fun u hu z=>?_⟩
     rcases yaj.mp hu with rfl | hu
     ·ac_rfl
     ·exact h3 u hu z
  ·rcases zkv d x r with h | ⟨s,hs,h1,h2,h3⟩
   ·left
    intro u hu z
    rcases yaj.mp hu with rfl | hu
    ·ac_rfl
    ·exact h u hu z
   ·right
    refine ⟨s,yak _ hs,h1,h2,fun u hu z=>?_⟩
    rcases yaj.mp hu with rfl | hu
    ·ac_rfl
    ·exact h3 u hu z
theorem zom {r:List (Int × Int)} {x y:Int} (h:∀ s∈r,s.1<=x↔s.1<=y):upto r x=upto r y:=by
 unfold upto
 rw[List.filter_congr (q:=fun s=>decide (s.1<=y)) fun s hs=>decide_eq_decide.mpr (h s hs)]
noncomputable def runs:Int->List (Int × Int)->List (Int × Int)
 | _,[]=>[]
 | t,s::l=>(s.1,t+s.2)::runs (t+s.2) l
theorem zkV:∀ (l:List (Int × Int)) (t:Int) (s:Int × Int),runs t (l++[s])=runs t l++[(s.1,t+sum2 l+s.2)]
 | [],t,s=>by simp[runs,sum2]
 | u::l,t,s=>by
  simp only[List.cons_append,runs,zkV l]
  have:t+u.2+sum2 l+s.2=t+sum2 (u::l)+s.2:=by simp[sum2];ac_rfl
  rw[this]
theorem zcM:∀ (l:List (Int × Int)) (t:Int),(runs t l).map (·.1)=l.map (·.1)
 | [],t=>rfl
 | s::l,t=>by simp[runs,zcM l]
theorem zcA (l:List (Int × Int)) (t:Int):(runs t l).length=l.length:=by
 have:=congrArg List.length (zcM l t)
 rwa [yab,yab] at this
theorem zmA:∀ {l:List (Int × Int)} (t:Int),((l.map (·.1)).Pairwise (·<·))->∀ s∈runs t l,s.2=t+upto l s.1
 | [],t,_,s,h=>by simp[runs] at h
 | a::l,t,up,s,h=>by
  rw[ybf,ybp] at up
  simp only[runs] at h
  rw[zfu]
  rcases yaj.mp h with rfl | h
  ·rw[if_pos (ydx _),zd1 fun u hu=>up.1 u.1 (yaz hu)]
   simp
  ·have hk:s.1∈l.map (·.1):=by rw[<-zcM l (t+a.2)];exact yaz h
   have:=up.1 _ hk
   rw[zmA (t+a.2) up.2 s h,if_pos (by ac_rfl)]
   ac_rfl
theorem zpT {l:List (Int × Int)} (h:(l.map (·.1)).Pairwise (·<·)):l.Pairwise fun s t=>s.1<t.1:=by rwa [ybj] at h
theorem zaI {r:List (Int × Int)} (up:(r.map (·.1)).Pairwise (·<·)) (nn:∀ s∈r,0<=s.1) (d:Int):Sums.valOf (runs 0 r) d=upto r d:=by
 have keys:=zcM r 0
 have upr:(runs 0 r).Pairwise fun s t=>s.1<t.1:=zpT (by rw[keys];exact up)
 have t0:∀ s∈runs 0 r,0<=s.1:=fun s hs=>by
  have:s.1∈r.map (·.1):=by rw[<-keys];exact yaz hs
  obtain ⟨u,hu,e⟩:=yae.mp this
  rw[<-e];exact nn u hu
 refine Sums.Val.one (Sums.zaZ t0 d) ?_
 rcases zkv (-1) d r with k | ⟨s,hs,h1,h2,h3⟩
 ·have far:∀ s∈r,d<s.1:=fun s hs=>by
   have:=nn s hs
   rcases yeb d s.1 with c | c
   ·exact c
   ·have:=k s hs c;ac_rfl
  refine .inl ⟨zd1 far,fun s hs=>?_⟩
  have:s.1∈r.map (·.1):=by rw[<-keys];exact yaz hs
  obtain ⟨u,hu,e⟩:=yae.mp this
  rw[<-e];exact far u hu
 ·have:s.1∈(runs 0 r).map (·.1):=by rw[keys];exact yaz hs
  obtain ⟨u,hu,e⟩:=yae.mp this
  obtain ⟨n,hn⟩:=ycr.mp hu
  have uv:=zmA 0 up u hu
  rw[zom (y:=s.1) fun v hv=>⟨h3 v hv,fun z=>by ac_rfl⟩]
  refine .inr ⟨n,s.1,by rw[hn];rw[<-e];congr 1;exact Prod.ext rfl (by rw[uv];simp),h2,fun j v hv le=>?_⟩
  have hvk:v.1∈r.map (·.1):=by rw[<-keys];exact yaz (yah hv)
  obtain ⟨w,hw,ew⟩:=yae.mp hvk
  have:=h3 w hw (by ac_rfl)
  rcases ydi j n with c | c | c
  ·have:=Stills.zmZ upr hv hn c;left;ac_rfl
  ·subst c
   rw[hn] at hv
   cases hv
   right;exact ⟨e,ycz _⟩
  ·have:=Stills.zmZ upr hn hv c;ac_rfl
end L2
namespace L2
open PySem PySem.Spec PyProof.Rows
open AutoSeq1 (wpAny_loadPart')
end L2
namespace L2
open PySem
noncomputable def csum (U f:Int->Int) (a b:Int):Int:=Sums.sum (fun d=>(U (d+1)-U d)*f d) a b
theorem zqg {U f:Int->Int} {a b c:Int} (h1:a<=c) (h2:c<=b):csum U f a b=csum U f a c+csum U f c b:=Sums.sum_add h1 h2
theorem zrC {U f:Int->Int} {a b:Int} (h:b<=a):csum U f a b=0:=Sums.zsm h
noncomputable def zo2 (b:BkT) (d:Int):Int:=if Spans.isIn b.spans d then 0 else Sums.valOf b.rates d
noncomputable def zoH (b:BkT) (d:Int):Int:=if Spans.isIn b.spans d then 0 else Sums.valOf b.lates d
noncomputable def zoC (b:BkT) (d:Int):Int:=if Spans.isIn b.spans d then 0 else p0 (upto b.dues (d-b.g)-upto b.pays d)
noncomputable def zgb (b:BkT) (P d:Int):Int:=zo2 b d*P+zoH b d*mn P (zoC b d)
structure BOk (b:BkT):Prop where
 ru:b.rates.Pairwise fun s t=>s.1<t.1
 rn:∀ s∈b.rates,0<=s.1/\0<=s.2/\s.2<=1000000
 lu:b.lates.Pairwise fun s t=>s.1<t.1
 ln:∀ s∈b.lates,0<=s.1/\0<=s.2/\s.2<=1000000
 pu:(b.pays.map (·.1)).Pairwise (·<·)
 pn:∀ s∈b.pays,0<=s.1
 du:(b.dues.map (·.1)).Pairwise (·<·)
 dn:∀ s∈b.dues,0<=s.1
 jn:Spans.Joined b.spans
 sn:∀ s∈b.spans,0<=s.1
 g0:0<=b.g
 sz:b.rates.length+b.lates.length+b.pays.length+b.dues.length+2*b.spans.length<63
theorem zmc {t:List (Int × Int)} (h:∀ s∈t,0<=s.1/\0<=s.2/\s.2<=1000000) (d:Int):0<=Sums.valOf t d/\Sums.valOf t d<=1000000:=by
 rcases Sums.zaZ (fun s hs=>(h s hs).1) d with ⟨e,_⟩ | ⟨i,x,e,_⟩
 ·rw[e];exact ⟨ydx _,by decide⟩
 ·exact (h _ (yah e)).2
theorem BOk.rt {b:BkT} (O:BOk b) (d:Int):0<=zo2 b d/\zo2 b d<=1000000:=by
 unfold zo2
 split
 ·exact ⟨ydx _,by decide⟩
 ·exact zmc O.rn d
theorem BOk.lt {b:BkT} (O:BOk b) (d:Int):0<=zoH b d/\zoH b d<=1000000:=by
 unfold zoH
 split
 ·exact ⟨ydx _,by decide⟩
 ·exact zmc O.ln d
noncomputable def shf (g:Int) (l:List (Int × Int)):List (Int × Int):=l.map fun s=>(s.1+g,s.2)
theorem zbV (g:Int) (l:List (Int × Int)) (d:Int):upto (shf g l) d=upto l (d-g):=by
 unfold upto shf
 rw[List.filter_map,ybv]
 congr 1
 rw[List.filter_congr (q:=fun s=>decide (s.1<=d-g)) fun s hs=>by
  show decide (s.1+g<=d)=decide (s.1<=d-g)
  exact decide_eq_decide.mpr ⟨fun h=>by ac_rfl,fun h=>by ac_rfl⟩]
 rfl
noncomputable def RF (H:Hp):List V->List Int->Prop:=LL fun v d=>∃ t ws,v=.ref t/\H t=some (.tup (.int d::ws))
theorem zoe {K:W.Frag} {H:Hp} {xs:List V} {l:List (Int × Int)} (h:zu K H xs l):RF H xs (l.map (·.1)):=by
 induction h with
 | nil=>exact .nil
 | cons h _ ih=>exact .cons ⟨_,_,rfl,h⟩ ih
structure zqW (ds:List Int) (d:Int) (n:Nat):Prop where
 le:n<=ds.length
 lo:∀ i x,i<n->ds[i]?=some x->x<=d
 hi:∀ i x,n<=i->ds[i]?=some x->d<x
theorem zqW.rows {l:List (Int × Int)} {d:Int} {n:Nat} (h:zqW (l.map (·.1)) d n):Stills.Begun l d n :=
 ⟨by have:=h.le;rwa [yab] at this,fun i s hi hs=>h.lo i s.1 hi (by rw[yag,hs];rfl),fun i s hi hs=>h.hi i s.1 hi (by rw[yag,hs];rfl)⟩
theorem zog {ds:List Int} (up:ds.Pairwise (·<·)) {i j:Nat} {s t:Int} (hs:ds[i]?=some s) (ht:ds[j]?=some t) (ij:i<j):s<t:=by
 obtain ⟨hi,rfl⟩:=yad.mp hs
 obtain ⟨hj,rfl⟩:=yad.mp ht
 exact ybd.mp up i j hi hj ij
end L2
namespace L2
open PySem
theorem zhK:∀ {xs ys:List Int},xs.Nodup->(∀ x∈xs,x∈ys)->xs.length<=ys.length
 | [],_,_,_=>ydc _
 | x::xs,ys,nd,h=>by
  have hx:=h x yal
  obtain ⟨nx,nd'⟩:=ybn.mp nd
  have:=zhK (ys:=ys.erase x) nd' fun z hz=>(ycs (fun (q:z=x)=>nx (by rw[<-q];exact hz))).mpr (h z (yak _ hz))
  rw[ycn hx] at this
  have:=ycp hx
  rw[yba]
  ac_rfl
theorem zd3:∀ (l:List (Int × Int)) (d:Int),upto l d=upto l (d-1)+Sby.sm l d
 | [],d=>by simp[upto,Sby.sm]
 | s::l,d=>by
  rw[zfu,zfu,zeG,zd3 l d]
  by_cases c:s.1=d
  ·rw[if_pos (by ac_rfl),if_neg (by ac_rfl),if_pos c];ac_rfl
  ·by_cases c2:s.1<=d
   ·rw[if_pos c2,if_pos (by ac_rfl),if_neg c];ac_rfl
   ·rw[if_neg c2,if_neg (by ac_rfl),if_neg c];ac_rfl
theorem zrq {l:List (Int × Int)} (h0:∀ s∈l,0<=s.1) (d:Int):((lkI (zcg l) d).map V.int).getD (.int (Sums.valOf l (d-1)))=.int (Sums.valOf l d):=by
 have I:=Dct.dct_is _ l rfl h0
 unfold lkI
 cases e:(zcg l).find? (fun p=>p.1=d) with
 | none =>
  have nk:∀ s∈l,s.1≠d:=fun s hs z=>by
   obtain ⟨u,hu,e2⟩:=(I.days d).mpr ⟨s,hs,z.symm⟩
   have:=ycx.mp e u hu
   exact this (by simpa using e2.symm)
  show V.int (Sums.valOf l (d-1))=V.int (Sums.valOf l d)
  rw[Stills.zdx (x:=d-1) (y:=d) (by ac_rfl) fun s hs q=>nk s hs (by ac_rfl)]
 | some p =>
  have hp:=List.mem_of_find?_eq_some e
  have ep:p.1=d:=by simpa using List.find?_some e
  have:=I.val p hp
  rw[ep] at this
  rw[<-this]
  rfl
theorem zkX:∀ es:List Er,(prs "rate" es).length+(prs "late" es).length+(prs "pay" es).length+(prs "due" es).length+2*(prs "still" es).length<=2*es.length
 | []=>by simp[prs]
 | e::es=>by
  have ih:=zkX es
  have st:∀ w:Str,(prs w (e::es)).length=(if isW w e=true then 1 else 0)+(prs w es).length:=fun w=>by
   unfold prs
   by_cases c:isW w e=true
   ·rw[yau c,if_pos c];simp;ac_rfl
   ·rw[yav c,if_neg c];simp
  rw[st,st,st,st,st,yba]
  obtain ⟨k,d,x⟩:=e
  have one:(if isW "rate" (k,d,x)=true then 1 else 0)+(if isW "late" (k,d,x)=true then 1 else 0)+(if isW "pay" (k,d,x)=true then 1 else 0)+(if isW "due" (k,d,x)=true then 1 else 0)+2*(if isW "still" (k,d,x)=true then 1 else 0)<=2:=by
   have one:∀ k:Ek,(if isW "rate" (k,0,0)=true then 1 else 0)+(if isW "late" (k,0,0)=true then 1 else 0)+(if isW "pay" (k,0,0)=true then 1 else 0)+(if isW "due" (k,0,0)=true then 1 else 0)+2*(if isW "still" (k,0,0)=true then 1 else 0)<=2:=fun k=>by cases k <;> decide
   exact one k
  ac_rfl
theorem zsc {b:BkT} (I:zbp b) {f:Int} (f0:0<=f) (g0:0<=b.g) (day:∀ e∈b.es,f<=e.2.1) (rt:∀ w:Str,(w = "rate" \/ w = "late")->∀ s∈prs w b.es,0<=s.2/\s.2<=1000000) (len:b.es.length<=31):BOk b:=by
 have pd:∀ w:Str,∀ s∈prs w b.es,f<=s.1:=fun w s hs=>by
  obtain ⟨e,he,rfl⟩:=yae.mp hs
  exact day e (yaq.mp he).1
 have tb:∀ (w:Str) (t:List (Int × Int)),(w = "rate" \/ w = "late")->Stills.TabOf (prs w b.es) t/\t=(t.map (·.1)).map (fun d=>(d,Sums.valOf (prs w b.es) d))->(∀ s∈t,0<=s.1/\0<=s.2/\s.2<=1000000)/\t.length<=(prs w b.es).length:=fun w t hw ⟨T,e⟩=>by
  have nn:∀ s∈prs w b.es,0<=s.1/\0<=s.2/\s.2<=1000000:=fun s hs=>⟨by have:=pd w s hs;ac_rfl,rt w hw s hs⟩
  refine ⟨fun s hs=>?_,?_⟩
  ·have d0:0<=s.1:=T.nn (fun s hs=>(nn s hs).1) s hs
   rw[e] at hs
   obtain ⟨d,_,rfl⟩:=yae.mp hs
   exact ⟨d0,zmc nn d⟩
  ·have nd:(t.map (·.1)).Nodup:=by
    have:=T.up
    rw[<-ybj (f:=fun s:Int × Int=>s.1) (R:=(·<·))] at this
    exact Sby.zgR this
   have:=zhK nd fun k hk=>by
    obtain ⟨s,hs,e2⟩:=yae.mp hk
    obtain ⟨u,hu,e3⟩:=(T.days k).mp ⟨s,hs,e2.symm⟩
    exact yae.mpr ⟨u,hu,e3.symm⟩
   rwa [yab,yab] at this
 have tl:∀ {r l:List (Int × Int)},Sby.Tab r l->r.length<=l.length:=fun {r l} T=>by
  have:=zhK (Sby.zgR T.up) fun k hk=>(T.mem k).mp hk
  rwa [yab,yab] at this
 obtain ⟨r1,r2⟩:=tb "rate" b.rates (.inl rfl) I.rates
 obtain ⟨l1,l2⟩:=tb "late" b.lates (.inr rfl) I.lates
 have fr:∀ d,d<=mvd (prs "still" b.es) d:=fun d=>(zhZ _ d).from_
 have wl:=zkX b.es
 have dl:=tl I.dues
 have pl:=tl I.pays
 have jl:=Stills.zpv I.spans.1 I.spans.2
 have ml:(mvp (mvd (prs "still" b.es)) (prs "due" b.es)).length=(prs "due" b.es).length:=yab ..
 refine ⟨I.rates.1.up,r1,I.lates.1.up,l1,I.pays.up,fun s hs=>?_,I.dues.up,fun s hs=>?_,I.spans.1,fun s hs=>?_,g0,by ac_rfl⟩
 ·obtain ⟨u,hu,e⟩:=yae.mp ((I.pays.mem s.1).mp (yaz hs))
  have:=pd _ u hu
  ac_rfl
 ·obtain ⟨u,hu,e⟩:=yae.mp ((I.dues.mem s.1).mp (yaz hs))
  obtain ⟨v,hv,rfl⟩:=yae.mp hu
  have:=pd _ v hv
  have:=fr v.1
  have e':mvd (prs "still" b.es) v.1=s.1:=e
  ac_rfl
 ·have lt:s.1<s.2:=I.spans.1.up s hs
  obtain ⟨u,hu,h1,h2⟩:=(I.spans.2 s.1).mp ⟨s,hs,ydx _,lt⟩
  have:=pd _ u hu
  ac_rfl
end L2
namespace L2
open PySem
noncomputable abbrev Q4:=Int × Int × Int × Int
noncomputable def ddE (es:List Er) (d:Int):Q4:=(Sby.sm (prs "out" es) d,Sby.sm (prs "fee" es) d,if d∈dys "turn" es then 1 else 0,Sby.sm (prs "pay" es) d)
noncomputable def ddo (b:BkT) (d:Int):Q4:=ddE b.es d
noncomputable def doD (u:Int) (q:Q4) (s:Int × Int):Int × Int :=
 let s1:=Dbt.step u .lend q.1 s.1 s.2
 let s2:=Dbt.step u .fee q.2.1 s1.1 s1.2
 let s3:=if q.2.2.1=1 then Dbt.step u .turn 0 s2.1 s2.2 else s2
 Dbt.step u .take q.2.2.2 s3.1 s3.2
theorem zqB {u:Int} {q:Q4} {s:Int × Int} (hu:0<u) (l0:0<=q.1) (g:Dbt.Good u s.1 s.2):Dbt.Good u (doD u q s).1 (doD u q s).2:=by
 unfold doD
 have g1:=Dbt.zcJ (w:=.lend) hu (show Dbt.Okd .lend q.1 from l0) g
 have g2:=Dbt.zcJ (w:=.fee) (x:=q.2.1) hu True.intro g1
 dsimp only
 split
 ·exact Dbt.zcJ (w:=.take) hu True.intro (Dbt.zcJ (w:=.turn) (x:=0) hu True.intro g2)
 ·exact Dbt.zcJ (w:=.take) hu True.intro g2
theorem clamp {u m n:Int} (g:Dbt.Good u m n):Dbt.mn m (Dbt.mx 0 (n / u))=m:=by
 have h:=g.2
 unfold Dbt.mn
 rw[if_neg (by ac_rfl)]
theorem zqE {u:Int} {s:Int × Int} (g:Dbt.Good u s.1 s.2):doD u (0,0,0,0) s=s:=by
 obtain ⟨m,n⟩:=s
 have c:Dbt.mn m (Dbt.mx 0 (n / u))=m:=clamp g
 simp[doD,Dbt.step,c]
section
variable (U:Int->Int) (u:Int) (b:BkT)
noncomputable def stB:Nat->Int × Int
 | 0=>(0,0)
 | k+1=>let s:=doD u (ddo b k) (stB k);(s.1,s.2+(U (k+1)-U k)*zgb b s.1 k)
noncomputable def stA (k:Nat):Int × Int:=doD u (ddo b k) (stB U u b k)
def zq6 (d:Int):Prop:=ddo b d=(0,0,0,0)
end
structure AOk (U:Int->Int) (u:Int) (b:BkT):Prop where
 hu:0<u
 out0:∀ d,0<=Sby.sm (prs "out" b.es) d
 up:∀ d:Nat,U d<=U (d+1)
 ok:BOk b
section
variable {U:Int->Int} {u:Int} {b:BkT}
theorem lk0 (d:Int):0<=zoC b d:=by
 unfold zoC p0
 split
 ·exact ydx _
 ·split <;> ac_rfl
theorem ztc (O:BOk b) {P:Int} (p:0<=P) (d:Int):0<=zgb b P d:=by
 unfold zgb
 have h1:=O.rt d
 have h2:=O.lt d
 have h3:=lk0 (b:=b) d
 have h4:0<=mn P (zoC b d):=by unfold mn;split <;> ac_rfl
 have:=yec h1.1 p
 have:=yec h2.1 h4
 ac_rfl
theorem zlV (A:AOk U u b):∀ k,Dbt.Good u (stB U u b k).1 (stB U u b k).2
 | 0=>Dbt.good0 u
 | k+1=>by
  have g:=zqB (q:=ddo b k) A.hu (A.out0 k) (zlV A k)
  have w:0<=(U (k+1)-U k)*zgb b (doD u (ddo b k) (stB U u b k)).1 k:=yec (by have:=A.up k;ac_rfl) (ztc A.ok g.1 k)
  exact Dbt.zcJ (w:=.grow) A.hu (show Dbt.Okd .grow _ from w) g
theorem zqw (A:AOk U u b) {k:Nat} (h:zq6 b k):stA U u b k=stB U u b k:=by
 unfold stA
 rw[h]
 exact zqE (zlV A k)
theorem zqc (k:Nat):stB U u b (k+1)=((stA U u b k).1,(stA U u b k).2+(U (k+1)-U k)*zgb b (stA U u b k).1 k):=rfl
theorem zqk (f:Int->Int) (a:Int):csum U f a (a+1)=(U (a+1)-U a)*f a:=by
 unfold csum Sums.sum
 rw[show (a+1-a).toNat=1 by ac_rfl]
 simp[Sums.S]
theorem run (A:AOk U u b) (s:Nat):∀ n:Nat,(∀ k:Nat,s<=k->k<s+n->zq6 b k)->stB U u b (s+n)=((stB U u b s).1,(stB U u b s).2+csum U (zgb b (stB U u b s).1) s (s+n:Nat))
 | 0,_=>by rw[zrC (by ac_rfl)];simp
 | n+1,h=>by
  have ih:=run A s n fun k h1 h2=>h k h1 (by ac_rfl)
  rw[show s+(n+1)=(s+n)+1 from rfl,zqc,zqw A (h (s+n) (by ac_rfl) (by ac_rfl)),ih]
  have e2:csum U (zgb b (stB U u b s).1) s (((s+n)+1:Nat):Int)=csum U (zgb b (stB U u b s).1) s ((s+n:Nat):Int)+(U (((s+n:Nat):Int)+1)-U ((s+n:Nat):Int))*zgb b (stB U u b s).1 ((s+n:Nat):Int):=by
   rw[show (((s+n)+1:Nat):Int)=((s+n:Nat):Int)+1 by ac_rfl,zqg (a:=(s:Int)) (b:=((s+n:Nat):Int)+1) (c:=((s+n:Nat):Int)) (by ac_rfl) (by ac_rfl),zqk]
  rw[e2]
  exact Prod.ext rfl (Int.add_assoc ..)
theorem first (A:AOk U u b) {e:Int} (e0:0<=e) (h:∀ d,0<=d->d<e->zq6 b d):stB U u b e.toNat=(0,0+csum U (zgb b 0) 0 e):=by
 have r:=run A 0 e.toNat fun k _ h2=>h k (by ac_rfl) (by ac_rfl)
 rw[show ((0+e.toNat:Nat):Int)=e by ac_rfl,ydp] at r
 exact r
end
end L2
namespace L2
open PySem PySem.Spec PyProof.Rows
namespace zac
noncomputable def orb (M:Nat):Nat->Nat->Nat
 | 0,x=>x
 | n+1,x=>orb M n ((x*5+1) % M)
theorem ziy (M:Nat):∀ m n x,orb M (m+n) x=orb M n (orb M m x)
 | 0,n,x=>by rw[ydp];rfl
 | m+1,n,x=>by rw[Nat.add_right_comm];exact ziy M m n _
def Sz (M:Nat):Prop:=M=8\/M=16\/M=32\/M=64\/M=128
theorem zrv {M:Nat} (h:Sz M):(∀ e,e<M->∃ m,m<M/\orb M m 0=e)/\orb M M 0=0:=by
 have k:∀ M:Nat,((yar M).all fun e=>(yar M).any fun m=>orb M m 0 == e)=true->∀ e,e<M->∃ m,m<M/\orb M m 0=e:=fun M q e he=>by
  have:=List.all_eq_true.mp q e (yci.mpr he)
  obtain ⟨m,hm,z⟩:=ycd.mp this
  exact ⟨m,yci.mp hm,by simpa using z⟩
 rcases h with rfl | rfl | rfl | rfl | rfl
 ·exact ⟨k 8 (by decide +kernel),by decide +kernel⟩
 ·exact ⟨k 16 (by decide +kernel),by decide +kernel⟩
 ·exact ⟨k 32 (by decide +kernel),by decide +kernel⟩
 ·exact ⟨k 64 (by decide +kernel),by decide +kernel⟩
 ·exact ⟨k 128 (by decide +kernel),by decide +kernel⟩
theorem zsO {M:Nat} (h:Sz M) {x e:Nat} (hx:x<M) (he:e<M):∃ m,m<M/\orb M m x=e:=by
 obtain ⟨A,B⟩:=zrv h
 obtain ⟨m1,h1,e1⟩:=A x hx
 obtain ⟨m2,h2,e2⟩:=A e he
 by_cases c:m1<=m2
 ·refine ⟨m2-m1,by ac_rfl,?_⟩
  rw[<-e1,<-ziy,show m1+(m2-m1)=m2 by ac_rfl]
  exact e2
 ·refine ⟨M-m1+m2,by ac_rfl,?_⟩
  rw[<-e1,<-ziy,show m1+(M-m1+m2)=M+m2 by ac_rfl,ziy,B]
  exact e2
noncomputable def itl (mask:Nat):Nat->Nat->Nat->Nat × Nat
 | 0,i,p=>(i,p)
 | m+1,i,p=>itl mask m (SetTable.leap mask i p).1 (SetTable.leap mask i p).2
theorem zop (mask:Nat):∀ m n i p,itl mask (m+n) i p=itl mask n (itl mask m i p).1 (itl mask m i p).2
 | 0,n,i,p=>by rw[ydp];rfl
 | m+1,n,i,p=>by rw[Nat.add_right_comm];exact zop mask m n _ _
theorem zmp (mask:Nat):∀ m i,itl mask m i 0=(orb (mask+1) m i,0)
 | 0,i=>rfl
 | m+1,i=>by
  have:=zmp mask m ((i*5+1) % (mask+1))
  show itl mask m (SetTable.leap mask i 0).1 (SetTable.leap mask i 0).2=_
  have e:SetTable.leap mask i 0=((i*5+1) % (mask+1),0):=by simp[SetTable.leap]
  rw[e]
  exact this
theorem zkR (mask:Nat):∀ m i p,(itl mask m i p).2=p / 32 ^ m/\(i<=mask->(itl mask m i p).1<=mask)
 | 0,i,p=>⟨by show p=_;simp,fun h=>h⟩
 | m+1,i,p=>by
  obtain ⟨a,b⟩:=zkR mask m (SetTable.leap mask i p).1 (SetTable.leap mask i p).2
  refine ⟨?_,fun _=>b ?_⟩
  ·show (itl mask m (SetTable.leap mask i p).1 (SetTable.leap mask i p).2).2=_
   rw[a]
   show p / 32 / 32 ^ m=_
   rw[Nat.div_div_eq_div_mul,Nat.pow_succ,Nat.mul_comm]
  ·exact Nat.le_of_lt_succ (Nat.mod_lt _ (Nat.succ_pos _))
theorem zmY {mask:Nat} {owner:Array (Option Nat)} {e:Nat} (he:owner.getD e (some 0)=none):∀ (m fuel i p:Nat),m<fuel->(itl mask m i p).1=e->∃ j,SetTable.layClean.free mask owner fuel i p=some j/\owner.getD j (some 0)=none
 | m,0,i,p,hm,_=>absurd hm (ydl _)
 | m,fuel+1,i,p,hm,hi=>by
  unfold SetTable.layClean.free
  cases q:(yar (SetTable.runEnd mask i+1-i)).find? fun k=>(owner.getD (i+k) (some 0)).isNone with
  | some k =>
   have:=List.find?_some q
   exact ⟨i+k,rfl,by simpa using this⟩
  | none =>
   dsimp only
   cases m with
   | zero =>
    exfalso
    have ie:i=e:=hi
    have:=ycx.mp q 0 (yci.mpr (by unfold SetTable.runEnd;split <;> ac_rfl))
    rw[Nat.add_zero,ie,he] at this
    exact this rfl
   | succ m=>exact zmY he m fuel _ _ (by ac_rfl) hi
theorem zpY {M:Nat} (h:Sz M) {owner:Array (Option Nat)} {e i p:Nat} (he:owner.getD e (some 0)=none) (el:e<M) (hi:i<M) (hp:p<2 ^ 64):∃ j,SetTable.layClean.free (M-1) owner (SetTable.turns (M-1)) i p=some j/\owner.getD j (some 0)=none:=by
 have M0:M-1+1=M:=by rcases h with rfl | rfl | rfl | rfl | rfl <;> rfl
 obtain ⟨a,b⟩:=zkR (M-1) 13 i p
 have z:p / 32 ^ 13=0:=Nat.div_eq_of_lt (ydb hp (by decide))
 rw[z] at a
 have i13:=b (by ac_rfl)
 obtain ⟨m,hm,hr⟩:=zsO h (x:=(itl (M-1) 13 i p).1) (e:=e) (by ac_rfl) el
 refine zmY he (13+m) _ i p (by unfold SetTable.turns;ac_rfl) ?_
 rw[zop,a,zmp,M0]
 exact hr
theorem zqj {l:List (Option Nat)} {j k:Nat} (h:l[j]?=some none):((l.set j (some k)).filterMap id).Perm (l.filterMap id++[k]):=by
 induction l generalizing j with
 | nil=>simp at h
 | cons a l ih =>
  cases j with
  | zero =>
   obtain rfl:a=none:=by simpa using h
   simp only[List.set_cons_zero,ybe,id]
   exact (List.perm_append_comm (l₁:=[k]) (l₂:=l.filterMap id))
  | succ j =>
   have:=ih (j:=j) (by simpa using h)
   rw[List.set_cons_succ]
   cases a with
   | none=>simpa [ybe] using this
   | some x=>simpa [ybe] using this.cons x
theorem znE {l:List (Option Nat)} (h:(l.filterMap id).length<l.length):∃ e,e<l.length/\l[e]?=some none:=by
 induction l with
 | nil=>simp at h
 | cons a l ih =>
  cases a with
  | none=>exact ⟨0,by simp,rfl⟩
  | some x =>
   obtain ⟨e,h1,h2⟩:=ih (by simpa [ybe] using h)
   exact ⟨e+1,by simpa using h1,by simpa using h2⟩
theorem getD_none {owner:Array (Option Nat)} {j:Nat}:owner.getD j (some 0)=none↔owner.toList[j]?=some none:=by
 rw[yeh]
 by_cases h:j<owner.size
 ·simp[yei,h]
 ·simp[yei,h]
theorem zrt (h:Int):SetTable.bits h<2 ^ 64:=by
 unfold SetTable.bits
 have:=ydz h (show (0:Int)<2 ^ 64 by decide)
 have:=ydy h (show (2 ^ 64:Int)≠0 by decide)
 ac_rfl
theorem zoD {M:Nat} (h:Sz M) (hs:Array Int) (hn:hs.size<=M):∃ owner,SetTable.layClean (M-1) hs=some owner/\owner.size=M/\(owner.toList.filterMap id).Perm (yar hs.size):=by
 have M0:M-1+1=M:=by rcases h with rfl | rfl | rfl | rfl | rfl <;> rfl
 have gen:∀ (l:List Int) (owner:Array (Option Nat)) (k:Nat),owner.size=M->(owner.toList.filterMap id).Perm (yar k)->k+l.length<=M ->
   ∃ ow',l.foldl (fun (acc:Option (Array (Option Nat) × Nat)) h=>acc.bind fun r=>(SetTable.layClean.free (M-1) r.1 (SetTable.turns (M-1)) (SetTable.bits h % M) (SetTable.bits h)).bind fun j=>some (r.1.setIfInBounds j (some r.2),r.2+1)) (some (owner,k))=some (ow',k+l.length)/\ow'.size=M/\(ow'.toList.filterMap id).Perm (yar (k+l.length)):=by
  intro l
  induction l with
  | nil=>intro owner k so pm _;exact ⟨owner,rfl,so,pm⟩
  | cons a l ih =>
   intro owner k so pm hk
   rw[yba] at hk
   obtain ⟨e,el,hee⟩:=znE (l:=owner.toList) (by rw[pm.length_eq,ybu,yed];ac_rfl)
   rw[yed] at el
   obtain ⟨j,hj,hjn⟩:=zpY h (i:=SetTable.bits a % M) (getD_none.mpr hee) (by ac_rfl) (Nat.mod_lt _ (by rcases h with rfl | rfl | rfl | rfl | rfl <;> decide)) (zrt a)
   obtain ⟨ow',e1,e2,e3⟩:=ih (owner.setIfInBounds j (some k)) (k+1) (by simpa using so) (by
    rw[Array.toList_setIfInBounds,ycq]
    exact (zqj (getD_none.mp hjn)).trans (pm.append_right [k])) (by ac_rfl)
   refine ⟨ow',?_,e2,?_⟩
   ·rw[yca]
    simp only[Option.bind_some,hj]
    rw[e1,yba,show k+1+l.length=k+(l.length+1) by ac_rfl]
   ·rw[yba,show k+(l.length+1)=k+1+l.length by ac_rfl]
    exact e3
 obtain ⟨ow,e1,e2,e3⟩:=gen hs.toList (Array.replicate M none) 0 (by simp) (by
  rw[Array.toList_replicate]
  have:(yax M (none:Option Nat)).filterMap id=[]:=by
   rw[List.filterMap_eq_nil_iff]
   intro a ha
   exact List.eq_of_mem_replicate ha
  rw[this]
  exact .nil) (by rw[yed];ac_rfl)
 refine ⟨ow,?_,e2,?_⟩
 ·unfold SetTable.layClean
  rw[<-Array.foldl_toList,M0]
  have e1':=congrArg (Option.map Prod.fst) e1
  exact e1'
 ·rw[ydp,yed] at e3
  exact e3
theorem zq3 (owner:Array (Option Nat)) (m:Nat) (hm:owner.size=m):(((yar m).filterMap fun j=>(owner.getD j none).map (fun k=>(j,k))).map (·.2))=owner.toList.filterMap id:=by
 rw[List.map_filterMap]
 have e:(fun j=>Option.map (fun x:Nat × Nat=>x.2) ((owner.getD j none).map fun k=>(j,k)))=fun j=>owner.getD j none:=by
  funext j
  cases owner.getD j none <;> rfl
 rw[e]
 subst hm
 have g:∀ (l:List (Option Nat)),(yar l.length).filterMap (fun j=>l.getD j none)=l.filterMap id:=fun l=>by
  induction l with
  | nil=>rfl
  | cons a l ih =>
   rw[yba,List.range_succ_eq_map,ybe,List.filterMap_map,ybe]
   have:((fun j=>(a::l).getD j none) ∘ Nat.succ)=fun j=>l.getD j none:=by funext j;simp
   rw[this,ih]
   rfl
 have:=g owner.toList
 rw[yed] at this
 rw[<-this]
 congr 1
 funext j
 by_cases h:j<owner.size
 ·simp[yei,h,List.getD]
 ·simp[yei,h,List.getD]
theorem zh4 {M:Nat} (h:Sz M) {finger moves:Nat} {led plain:Bool} (hs:Array Int) (hn:hs.size<M):∃ t order,SetTable.laid (M-1) finger moves led plain hs=some (t,order)/\order.toList.Perm (yar hs.size)/\t.fits hs.size=true/\t.led=led/\t.dummies=#[]/\Up t.place/\t.mask=M-1:=by
 have M0:M-1+1=M:=by rcases h with rfl | rfl | rfl | rfl | rfl <;> rfl
 obtain ⟨ow,e1,e2,e3⟩:=zoD h hs (by ac_rfl)
 unfold SetTable.laid
 rw[e1,M0]
 have l2:=zq3 ow M e2
 refine ⟨_,_,rfl,?_,?_,rfl,rfl,?_,rfl⟩
 ·rw[ycv,l2]
  exact e3
 ·have len:((yar M).filterMap fun j=>(ow.getD j none).map (fun k=>(j,k))).length=hs.size:=by
   have:=congrArg List.length l2
   rw[yab,e3.length_eq,ybu] at this
   exact this
  simp only[SetTable.fits,SetTable.fill,yan,yab,Bool.and_eq_true,beq_iff_eq,decide_eq_true_eq]
  refine ⟨len,?_⟩
  rw[List.length_nil,Nat.add_zero,len]
  ac_rfl
 ·unfold Up
  rw[ycv]
  exact zoc ow M
theorem zgO {es:Array (Int × Value)} {order:Array Nat} (h:order.toList.Perm (yar es.size)):(order.filterMap (es[·]?)).toList.Perm es.toList:=by
 rw[Array.toList_filterMap,<-filterMap_getElem?_range es]
 exact h.filterMap _
theorem zjl {n:Nat} (h:n<128):Sz (SetTable.sizeAbove n)/\n<SetTable.sizeAbove n:=by
 have all:((yar 128).all fun n=>decide ((SetTable.sizeAbove n=8\/SetTable.sizeAbove n=16\/SetTable.sizeAbove n=32\/SetTable.sizeAbove n=64\/SetTable.sizeAbove n=128)/\n<SetTable.sizeAbove n))=true:=by decide +kernel
 have:=List.all_eq_true.mp all n (yci.mpr h)
 simpa [Sz] using this
end zac
namespace zac
section
variable {prog:Program} {w:World} {A:Around} {E:Value->Shared->Prop} {s:Shared} {a b:Addr} {ms ns:List Int}
theorem zjG {h:Heap} {o1:Obj} {e1:Array (Int × Value)} {p1:Nat} {u1:SetTable} (q1:h.get? a=some o1) (q3:o1.data=.set e1 p1 u1) (e2:Array (Int × Value)) (u2:SetTable):(h.update a (Obj.putSet e2 u2)).get? a=some { o1 with data:=.set e2 (p1+1) u2 }:=by
 have z:=ydv (Obj.putSet e2 u2) q1 (by rw[putSet_of e2 u2 q3];rfl)
 rw[putSet_of e2 u2 q3] at z
 exact z
theorem zjj {h:Heap} {o:Obj} {es es2:Array (Int × Value)} {ep:Nat} {t t2:SetTable} (ho:h.get? a=some o) (hex:o.ExactSet) (hd:o.data=.set es ep t) (hel:ElemsOf (intKind prog w) es2.toList) (hb:es2.size<scanBound) (hf:t2.fits es2.size=true) (T:Tab (w.params.followText "set-order") t2) (nd:(es2.toList.map fun e=>intOf e.2).Nodup):zan prog w (h.update a (Obj.putSet es2 t2)) a (es2.toList.map fun e=>intOf e.2) :=
 ⟨⟨_,es2,ep+1,t2,⟨zjG ho hd es2 t2,hex,rfl⟩,⟨hel,hb,hf⟩,T,rfl⟩,nd⟩
def zb2 (w:World) (h:Heap) (a:Addr) (M:Nat):Prop:=∃ o ep t,(h.get? a=some o/\o.ExactSet/\o.data=.set #[] ep t)/\t.fits 0=true/\Tab (w.params.followText "set-order") t/\t.mask=M-1/\Sz M
theorem zb2.zqd {h:Heap} {M:Nat} (F:zb2 w h a M):zan prog w h a []:=by
 obtain ⟨o,ep,t,h1,h2,h3,h4,h5⟩:=F
 exact ⟨⟨o,#[],ep,t,h1,⟨fun e he=>by simp at he,by decide,h2⟩,h3,rfl⟩,List.Pairwise.nil⟩
theorem znY {Q:Unit->Shared->Prop} {wanted M:Nat} (F:zb2 w s.heap a M) (hw:wanted<128) (hQ:∀ h',Heap.SameBut a s.heap h'->zb2 w h' a (SetTable.sizeAbove wanted)->Q () { s with heap:=h' }):wpAny (model prog w) A (setRelay a wanted) Q E s:=by
 obtain ⟨o,ep,t,⟨ho,hex,hd⟩,hf,T,hm,sM⟩:=F
 obtain ⟨sz,lt⟩:=zjl hw
 obtain ⟨t',order,e1,e2,e3,e4,e5,e6,e7⟩:=zh4 (finger:=t.finger) (moves:=t.movedTo (SetTable.sizeAbove wanted-1)) (led:=t.led) (plain:=t.plain) sz ((#[]:Array (Int × Value)).map (·.1)) (by rw[yej];exact ydd (ydc _) lt)
 rw[yej] at e2 e3
 have pm:=zgO (es:=#[]) e2
 have zz:order.filterMap ((#[]:Array (Int × Value))[·]?)=#[]:=by
  have:=pm.eq_nil
  exact Array.toList_inj.mp this
 unfold setRelay
 refine wpAny_bind (wpAny_setState_of ho hd hf ?_)
 dsimp only
 refine zau (by rcases sz with e | e | e | e | e <;> rw[e,sizeLine_eq] <;> decide) (wpAny_bind ?_)
 unfold SetTable.relaid
 rw[e1]
 change wpAny _ _ (ite _ _ _) _ _ _
 refine zau (by rw[zz];simp) (wpAny_pure ?_)
 rw[zz]
 refine wpAny_storeSet_of ho hd ?_ (ydc _)
 exact hQ _ (Heap.SameBut.update _ a _) ⟨_,ep+1,t',⟨zjG ho hd #[] t',hex,rfl⟩,e3,⟨by rw[e4];exact T.led,e5,fun _=>e6⟩,e7,sz⟩
theorem zo0 {Q:Unit->Shared->Prop} {M n:Nat} (F:zb2 w s.heap a M) (hn:n<64) (hQ:∀ h' M',Heap.SameBut a s.heap h'->zb2 w h' a M'->n<M'->Q () { s with heap:=h' }):wpAny (model prog w) A (setRoomFor a n) Q E s:=by
 obtain ⟨o,ep,t,⟨ho,hex,hd⟩,hf,T,hm,sz⟩:=id F
 unfold setRoomFor
 refine wpAny_bind (wpAny_setState_of ho hd hf ?_)
 dsimp only
 have pl:t.place.size=0:=by
  simp only[SetTable.fits,Bool.and_eq_true,beq_iff_eq] at hf
  exact hf.1
 have fl:t.fill=0:=by
  unfold SetTable.fill
  rw[pl,T.dum]
  rfl
 unfold SetTable.roomFor
 rw[fl,pl,hm]
 by_cases c:(0+n)*5>=(M-1)*3
 ·rw[if_pos c]
  refine znY F (by ac_rfl) fun h' sb F'=>hQ h' _ sb F' ?_
  have:=(zjl (n:=(0+n)*2) (by ac_rfl)).2
  ac_rfl
 ·rw[if_neg c]
  exact wpAny_pure (hQ s.heap M (Heap.SameBut.refl a s.heap) F (by ac_rfl))
theorem znl {Q:Unit->Shared->Prop} {each:Sem Unit} {M:Nat} (F:zb2 w s.heap a M) (S:zan prog w s.heap b ms) (ne:a≠b) (hm:ms.length<64)
  (hQ:∀ h' ms',Heap.SameBut a s.heap h'->zan prog w h' a ms'->ms'.Perm ms->Q () { s with heap:=h' }):wpAny (model prog w) A (setMerge a b each) Q E s:=by
 obtain ⟨⟨o,es,ep,t,⟨ho,hex,hd⟩,⟨hel,hb,hf⟩,T,rfl⟩,nd⟩:=id S
 rw[yab,yed] at hm
 unfold setMerge
 refine zau (by simpa using ne) ?_
 refine wpAny_bind (wpAny_setState_of ho hd hf ?_)
 dsimp only
 by_cases em:es.isEmpty
 ·refine zdI em (wpAny_pure ?_)
  have e0:es=#[]:=by simpa using em
  subst e0
  exact hQ s.heap [] (Heap.SameBut.refl a s.heap) F.zqd (.refl _)
 ·refine zau em (wpAny_bind (zo0 F hm fun h' M' sb F' lt=>?_))
  obtain ⟨o1,ep1,t1,⟨ho1,hex1,hd1⟩,hf1,T1,hm1,sz1⟩:=F'
  refine wpAny_bind (wpAny_setState_of ho1 hd1 hf1 ?_)
  dsimp only
  have pl:t1.place.size=0:=by
   simp only[SetTable.fits,Bool.and_eq_true,beq_iff_eq] at hf1
   exact hf1.1
  have fl:t1.fill=0:=by
   unfold SetTable.fill
   rw[pl,T1.dum]
   rfl
  have rd:t1.road t≠.oneByOne:=by
   unfold SetTable.road
   rw[fl]
   simp only[bne_self_eq_false,Bool.false_eq_true,↓reduceIte]
   split <;> (intro z;cases z)
  cases q:t1.road t with
  | oneByOne=>exact absurd q rd
  | slotForSlot =>
   dsimp only
   refine wpAny_storeSet_of ho1 hd1 ?_ (fits_of_scanBound hb)
   refine hQ _ _ (sb.trans (Heap.SameBut.update _ a _)) (zjj ho1 hex1 hd1 hel hb hf ⟨?_,T.dum,fun z=>T.up ?_⟩ nd) (.refl _)
   ·show (t1.led && t.led)=_
    rw[T1.led,T.led,Bool.and_self]
   ·have:(t1.plain && t.plain)=true:=z
    simp only[Bool.and_eq_true] at this
    exact this.2
  | clean =>
   dsimp only
   obtain ⟨t',order,e1,e2,e3,e4,e5,e6,e7⟩:=zh4 (finger:=t1.finger) (moves:=t1.moves) (led:=t1.led && t.led) (plain:=t1.plain && t.plain) sz1 (es.map (·.1)) (by rw[yej];exact lt)
   rw[yej] at e2 e3
   have pm:=zgO e2
   have zz:(order.filterMap (es[·]?)).size=es.size:=by have:=pm.length_eq;rwa [yed,yed] at this
   rw[hm1,e1]
   refine wpAny_bind ?_
   change wpAny _ _ (ite _ _ _) _ _ _
   refine zau (by rw[zz];simp) (wpAny_pure ?_)
   refine wpAny_storeSet_of ho1 hd1 ?_ (by rw[zz];exact fits_of_scanBound hb)
   have q2:=pm.map fun e=>intOf e.2
   refine hQ _ _ (sb.trans (Heap.SameBut.update _ a _)) (zjj ho1 hex1 hd1 (hel.perm pm) (by rw[zz];exact hb) (by rw[zz];exact e3) ⟨by rw[e4,T1.led,T.led,Bool.and_self],e5,fun _=>e6⟩ (q2.nodup_iff.mpr nd)) q2
end
end zac
namespace zac
section
variable {prog:Program} {w:World} {A:Around} {E:Value->Shared->Prop} {s:Shared} {a b:Addr} {ms ns:List Int}
theorem zgt {M:Model} {α β:Type} {l:List α} {b:β} {f:α->β->Sem (ForInStep β)} {Q:β->Shared->Prop} (h:∀ x∈l,f x b=pure (.yield b)) (q:Q b s):wpAny M A (forIn l b f) Q E s:=by
 induction l with
 | nil=>exact wpAny_pure q
 | cons x l ih =>
  rw[ycb]
  refine wpAny_bind ?_
  rw[h x yal]
  exact wpAny_pure (ih fun y hy=>h y (yak _ hy))
theorem zl4 {Q:Array (Int × Value)->Shared->Prop} {o:Obj} {es:Array (Int × Value)} {ep:Nat} {t:SetTable} (ho:s.heap.get? b=some o) (hd:o.data=.set es ep t) (hf:t.fits es.size=true) (T:Tab (w.params.followText "set-order") t)
  (hQ:∀ es' d,es'.toList.Perm es.toList->Q es' { s with drawn:=d }):wpAny (model prog w) A (setWalk b) Q E s:=by
 unfold setWalk
 refine wpAny_bind (wpAny_setState_of ho hd hf ?_)
 unfold setsByText
 refine wpAny_bind (wpAny_bind (wpAny_askSetting (wpAny_pure ?_)))
 cases hb:w.params.followText "set-order" with
 | true =>
  rw[show (model prog w).w.params.followText "set-order" = true from hb,if_pos rfl]
  refine wpAny_bind (wpAny_askSetting (wpAny_pure ?_))
  exact hQ _ s.drawn (zfB _ _)
 | false =>
  rw[show (model prog w).w.params.followText "set-order" = false from hb,if_neg (by simp)]
  split
  ·refine wpAny_bind (zhH es.size es.toList s _ (yed) fun l d pm=>wpAny_pure ?_)
   exact hQ l.toArray d (by rw[ycv];exact pm)
  ·refine wpAny_bind ?_
   change wpAny _ _ (ite _ _ _) _ _ _
   have hl:t.led=true:=by rw[T.led,hb];rfl
   refine zau (by rw[hl];simp) (wpAny_pure (wpAny_pure ?_))
   exact hQ es s.drawn (.refl _)
end
end zac
namespace zac
theorem zan.ty {prog:Program} {w:World} {s:Shared} {a:Addr} {ms:List Int} (S:zan prog w s.heap a ms):s.TypeIs (.ref a) "set" := by
 obtain ⟨⟨o,es,ep,t,⟨ho,hex,hd⟩,_⟩,_⟩:=S
 exact ⟨o,ho,hex.1⟩
section
variable {prog:Program} {w:World} {A:Around} {E:Value->Shared->Prop} {s:Shared} {a b:Addr} {ms ns:List Int}
theorem ziz {Q:Bool->Shared->Prop} (ty:s.TypeIs (.ref a) "set") (q:Q true s):wpAny (model prog w) A (Builtin.Frozenset.isAnySet (.ref a)) Q E s:=by
 unfold Builtin.Frozenset.isAnySet
 refine wpAny_bind (wpAny_isInstance (b:=true) ty sub_set_self ?_)
 exact wpAny_pure q
theorem zkH {Q:Value->Shared->Prop} (h:zb2 w (s.heap.push (empty w)) s.heap.objs.size 8->Q (.ref s.heap.objs.size) { s with heap:=s.heap.push (empty w) }):wpAny (model prog w) A (newSet (.type "set")) Q E s:=by
 unfold newSet setsByText
 refine wpAny_bind (wpAny_bind (wpAny_askSetting (wpAny_pure ?_)))
 dsimp only
 simp only[newObj]
 refine wpAny_bind (wpAny_alloc (wpAny_pure (h ?_)))
 exact ⟨_,0,_,⟨yds _ rfl,⟨rfl,rfl,rfl⟩,rfl⟩,rfl,zkE _,rfl,.inl rfl⟩
theorem zqC {Q:Value->Shared->Prop} (S:zan prog w s.heap a ms) (hm:ms.length<64)
  (hQ:∀ h' ms',(∀ c o,s.heap.get? c=some o->h'.get? c=some o)->zan prog w h' s.heap.objs.size ms'->ms'.Perm ms->(ms=[]->zb2 w h' s.heap.objs.size 8)->Q (.ref s.heap.objs.size) { s with heap:=h' }):wpAny (model prog w) A (Builtin.Frozenset.copyOf a) Q E s:=by
 obtain ⟨oa,hoa⟩:=S.obj
 have lt:=ydr hoa
 unfold Builtin.Frozenset.copyOf Builtin.Frozenset.baseOf
 refine wpAny_bind (wpAny_bind (wpAny_isInstance (b:=true) S.ty sub_set_self (wpAny_pure ?_)))
 refine wpAny_bind (zkH fun F=>?_)
 have S':zan prog w (s.heap.push (empty w)) a ms:=S.keep fun o e=>ydq _ e
 show wpAny _ _ (pure s.heap.objs.size >>= _) _ _ _
 refine wpAny_bind (wpAny_pure (wpAny_bind ?_))
 have kp0:∀ c o,s.heap.get? c=some o->(s.heap.push (empty w)).get? c=some o:=fun c o e=>ydq _ e
 by_cases e0:ms=[]
 ·subst e0
  obtain ⟨⟨o,es,ep,t,⟨ho,hex,hd⟩,⟨hel,hb,hf⟩,T,em⟩,nd⟩:=id S'
  have ee:es=#[]:=by
   have:=congrArg List.length em
   rw[yab,yed] at this
   exact Array.size_eq_zero_iff.mp this
  subst ee
  unfold setMerge
  refine zau (by simpa using (ydj lt)) ?_
  refine wpAny_bind (wpAny_setState_of ho hd hf ?_)
  refine zdI (by rfl) (wpAny_pure (wpAny_pure ?_))
  exact hQ _ [] kp0 F.zqd (.refl _) fun _=>F
 ·refine znl (s:={ s with heap:=s.heap.push (empty w) }) F S' (ydj lt) hm fun h' ms' sb S2 pm=>wpAny_pure ?_
  refine hQ h' ms' (fun c o e=>?_) S2 pm fun z=>absurd z e0
  rw[sb.2 c (yda (ydr e))]
  exact kp0 c o e
end
end zac
namespace zac
section
variable {prog:Program} {w:World} {A:Around} {E:Value->Shared->Prop} {s:Shared}
set_option maxHeartbeats 3200000 in
end
end zac
section
variable {X:Cx}
end
section
variable {X:Cx} {o e:Expr} {apos cpos:Pos} {td ty:TE}
end
namespace zac
section
variable {prog:Program} {w:World} {A:Around} {E:Value->Shared->Prop} {s:Shared} {a b c:Addr} {ms ns:List Int}
def zce (prog:Program) (w:World) (h:Heap) (a:Addr) (ms:List Int):Prop :=
 (∃ o es ep t,(h.get? a=some o/\o.ExactSet/\o.data=.set es ep t)/\(ElemsOf (intKind prog w) es.toList/\es.size<64/\t.fits es.size=true)/\es.toList.map (fun e=>intOf e.2)=ms)/\ms.Nodup
theorem zan.raw {h:Heap} (S:zan prog w h a ms) (hm:ms.length<64):zce prog w h a ms:=by
 obtain ⟨⟨o,es,ep,t,h1,⟨hel,hb,hf⟩,T,rfl⟩,nd⟩:=S
 rw[yab,yed] at hm
 exact ⟨⟨o,es,ep,t,h1,⟨hel,hm,hf⟩,rfl⟩,nd⟩
theorem zce.keep {h h':Heap} (R:zce prog w h a ms) (k:∀ o,h.get? a=some o->h'.get? a=some o):zce prog w h' a ms:=by
 obtain ⟨⟨o,es,ep,t,⟨ho,h1⟩,h2⟩,nd⟩:=R
 exact ⟨⟨o,es,ep,t,⟨k o ho,h1⟩,h2⟩,nd⟩
theorem zce.obj {h:Heap} (R:zce prog w h a ms):∃ o,h.get? a=some o:=let ⟨⟨o,_,_,_,⟨e,_⟩,_⟩,_⟩:=R;⟨o,e⟩
theorem zoi {o:Obj} {es:Array (Int × Value)} {ep:Nat} {t:SetTable} {k:Int} {x:Value} {Q:Option Nat->Shared->Prop} (hk:Value.isInt k x=true) (hx:x.scannable=true) (ho:s.heap.get? a=some o) (hd:o.data=.set es ep t) (hf:t.fits es.size=true)
  (hel:ElemsOf (intKind prog w) es.toList) (hb:es.size<scanBound) (h:Q (es.toList.findIdx? fun e=>Value.isInt k e.2) s):wpAny (model prog w) A (setFind a x ((intKind prog w).hash k)) Q E s:=by
 unfold setFind setFindIn
 refine wpAny_bind (wpAny_setState_of ho hd hf ?_)
 dsimp only
 rw[byScan_of hx hb hel]
 refine zdI rfl (wpAny_bind (wpAny_rule (wpAny_bind (wpAny_setScan_of (knd:=intKind prog w) (k:=k) hk ho hd hf hel ?_))))
 have e0:(fun e:Int × Value=>(intKind prog w).is k e.2)=fun e=>Value.isInt k e.2:=rfl
 rw[e0]
 cases q:es.toList.findIdx? (fun e=>Value.isInt k e.2) with
 | none=>rw[q] at h;exact wpAny_pure h
 | some j =>
  rw[q] at h
  dsimp only
  rw[ydp]
  exact wpAny_pure h
theorem zgS {α:Type} (xs:Array α) (i:Nat):(SetTable.eraseAt xs i).toList=xs.toList.eraseIdx i:=by
 unfold SetTable.eraseAt
 rw[Array.toList_append,ycc]
 simp
 exact yas (by rw[yay,yed];exact ycz _)
theorem zeu {α:Type} (xs:Array α) {i:Nat} (h:i<xs.size):(SetTable.eraseAt xs i).size=xs.size-1:=by
 rw[<-yed,zgS,ycj (by simpa using h),yed]
theorem zno {α:Type} (xs:Array α) (p:Nat) (x:α):(SetTable.insertAt xs p x).size=xs.size+1:=by
 unfold SetTable.insertAt
 simp
 ac_rfl
theorem zpF {t:SetTable} {n i:Nat} (h:t.fits n=true) (hi:i<n):(t.drop i).fits (n-1)=true:=by
 simp only[SetTable.fits,Bool.and_eq_true,beq_iff_eq,decide_eq_true_eq] at h
 obtain ⟨h1,h2⟩:=h
 have hp:i<t.place.size:=by ac_rfl
 have e:t.drop i={ t with place:=SetTable.eraseAt t.place i,dummies:=SetTable.insertAt t.dummies (SetTable.below t.dummies (t.place[i]'hp)) (t.place[i]'hp) }:=by
  unfold SetTable.drop
  rw[yee hp]
 have z1:=zeu t.place hp
 have z2:=zno t.dummies (SetTable.below t.dummies (t.place[i]'hp)) (t.place[i]'hp)
 unfold SetTable.fill at h2
 rw[e]
 unfold SetTable.fits SetTable.fill
 rw[Bool.and_eq_true]
 exact ⟨by rw[beq_iff_eq];show (SetTable.eraseAt t.place i).size=n-1;ac_rfl,decide_eq_true (by show (SetTable.eraseAt t.place i).size+(SetTable.insertAt t.dummies (SetTable.below t.dummies (t.place[i]'hp)) (t.place[i]'hp)).size<=t.mask;ac_rfl)⟩
theorem znW {l:List Int} {i:Nat} {k:Int} (nd:l.Nodup) (h:l[i]?=some k):(l.eraseIdx i).Nodup/\∀ m,m∈l.eraseIdx i↔m∈l/\m≠k:=by
 have hi:=(yad.mp h).1
 have ek:l[i]=k:=(yad.mp h).2
 have pm:=zeD l i hi
 have nd2:=pm.nodup_iff.mpr nd
 rw[ek,ybn] at nd2
 rw[ek] at pm
 refine ⟨nd2.2,fun m=>?_⟩
 rw[<-pm.mem_iff,yaj]
 constructor
 ·exact fun q=>⟨.inr q,fun z=>nd2.1 (z ▸ q)⟩
 ·rintro ⟨q | q,z⟩
  ·exact absurd q z
  ·exact q
theorem discard {k:Int} {x:Value} {Q:Bool->Shared->Prop} (hk:Value.isInt k x=true) (hx:x.scannable=true) (R:zce prog w s.heap a ms)
  (hQ:∀ b h' ms',Heap.SameBut a s.heap h'->zce prog w h' a ms'->(∀ m,m∈ms'↔m∈ms/\m≠k)->ms'.length<=ms.length->Q b { s with heap:=h' }):wpAny (model prog w) A (setDiscardHashed a x ((intKind prog w).hash k)) Q E s:=by
 obtain ⟨⟨o,es,ep,t,⟨ho,hex,hd⟩,⟨hel,hb,hf⟩,rfl⟩,nd⟩:=id R
 unfold setDiscardHashed
 refine wpAny_bind (zoi hk hx ho hd hf hel (ydb hb (by decide)) ?_)
 cases q:es.toList.findIdx? (fun e=>Value.isInt k e.2) with
 | none =>
  refine wpAny_pure (hQ false s.heap _ (Heap.SameBut.refl a s.heap) R (fun m=>⟨fun z=>⟨z,fun e=>?_⟩,fun z=>z.1⟩) (ycz _))
  subst e
  obtain ⟨e,he,q2⟩:=(zgY hel m).mpr z
  rw[ycm.mp q e he] at q2
  cases q2
 | some j =>
  obtain ⟨hj,hp,_⟩:=ybz.mp q
  rw[yed] at hj
  have ej:(es.toList.map fun e=>intOf e.2)[j]?=some k:=by
   rw[yag,yaa (by simpa using hj)]
   exact congrArg some (zjd hp)
  obtain ⟨nd2,mm⟩:=znW nd ej
  refine wpAny_bind (wpAny_setState_of ho hd hf ?_)
  dsimp only
  refine wpAny_bind (wpAny_storeSet_of ho hd (wpAny_bind (wpAny_point (wpAny_pure ?_))) (by rw[zeu _ hj,sizeLine_eq];ac_rfl))
  refine hQ true _ ((es.toList.map fun e=>intOf e.2).eraseIdx j) (Heap.SameBut.update _ a _) ⟨⟨_,SetTable.eraseAt es j,ep+1,t.drop j,⟨zjG ho hd _ _,hex,rfl⟩,⟨?_,?_,?_⟩,?_⟩,nd2⟩ mm (List.length_eraseIdx_le _ _)
  ·rw[zgS]
   exact fun e he=>hel e (List.mem_of_mem_eraseIdx he)
  ·rw[zeu _ hj];ac_rfl
  ·rw[zeu _ hj];exact zpF hf hj
  ·rw[zgS,ycc,ycc,yat,List.map_take,List.map_drop]
theorem zp7 {Q:Unit->Shared->Prop} {wanted:Nat} (R:zce prog w s.heap a ms) (hw:wanted<128) (hm:ms.length<=wanted)
  (hQ:∀ h' ms',Heap.SameBut a s.heap h'->zce prog w h' a ms'->ms'.Perm ms->Q () { s with heap:=h' }):wpAny (model prog w) A (setRelay a wanted) Q E s:=by
 obtain ⟨⟨o,es,ep,t,⟨ho,hex,hd⟩,⟨hel,hb,hf⟩,rfl⟩,nd⟩:=R
 rw[yab,yed] at hm
 obtain ⟨sz,lt⟩:=zjl hw
 obtain ⟨t',order,e1,e2,e3,_⟩:=zh4 (finger:=t.finger) (moves:=t.movedTo (SetTable.sizeAbove wanted-1)) (led:=t.led) (plain:=t.plain) sz (es.map (·.1)) (by rw[yej];ac_rfl)
 rw[yej] at e2 e3
 have pm:=zgO e2
 have zz:(order.filterMap (es[·]?)).size=es.size:=by have:=pm.length_eq;rwa [yed,yed] at this
 unfold setRelay
 refine wpAny_bind (wpAny_setState_of ho hd hf ?_)
 dsimp only
 refine zau (by rcases sz with e | e | e | e | e <;> rw[e,sizeLine_eq] <;> decide) (wpAny_bind ?_)
 unfold SetTable.relaid
 rw[e1]
 change wpAny _ _ (ite _ _ _) _ _ _
 refine zau (by rw[zz];simp) (wpAny_pure ?_)
 refine wpAny_storeSet_of ho hd ?_ (by rw[zz,sizeLine_eq];ac_rfl)
 have q2:=pm.map fun e=>intOf e.2
 exact hQ _ _ (Heap.SameBut.update _ a _) ⟨⟨_,_,ep+1,t',⟨zjG ho hd _ _,hex,rfl⟩,⟨hel.perm pm,by rw[zz];exact hb,by rw[zz];exact e3⟩,rfl⟩,q2.nodup_iff.mpr nd⟩ q2
theorem zqp {Q:Unit->Shared->Prop} (R:zce prog w s.heap a ms) (hm:ms.length<32) (hQ:∀ h' ms',Heap.SameBut a s.heap h'->zce prog w h' a ms'->ms'.Perm ms->Q () { s with heap:=h' }):wpAny (model prog w) A (setTidy a) Q E s:=by
 obtain ⟨⟨o,es,ep,t,⟨ho,hex,hd⟩,⟨hel,hb,hf⟩,e⟩,nd⟩:=id R
 have le:es.size=ms.length:=by rw[<-e,yab,yed]
 unfold setTidy
 refine wpAny_bind (wpAny_setState_of ho hd hf ?_)
 dsimp only
 have g:SetTable.grown es.size=es.size*4:=if_neg (by ac_rfl)
 split
 ·exact zp7 R (by rw[g];ac_rfl) (by rw[g];ac_rfl) hQ
 ·exact wpAny_pure (hQ s.heap ms (Heap.SameBut.refl a s.heap) R (.refl _))
theorem zks {M:Model} {α:Type} {f:α->PUnit->Sem (ForInStep PUnit)} {Q:PUnit->Shared->Prop} (I:List α->Shared->Prop) (turn:∀ x l s,I (x::l) s->wpAny M A (f x ⟨⟩) (fun r s'=>r=.yield ⟨⟩/\I l s') E s) (fin:∀ s,I [] s->Q ⟨⟩ s):∀ (l:List α) (s:Shared),I l s->wpAny M A (forIn l PUnit.unit f) Q E s
 | [],s,h=>by
  rw[List.forIn_nil]
  exact wpAny_pure (fin s h)
 | x::l,s,h=>by
  rw[ycb]
  refine wpAny_bind (wpAny_mono (turn x l s h) (fun r s' q=>?_) fun _ _ z=>z)
  obtain ⟨rfl,q⟩:=q
  exact zks I turn fin l s' q
theorem zcQ {es:Array (Int × Value)} (hel:ElemsOf (intKind prog w) es.toList):∀ e∈es.toList,∃ h k t,e=(h,Value.int k t):=fun e he=>by
 obtain ⟨⟨k,hk,_⟩,_⟩:=hel e he
 obtain ⟨t,q⟩:=Value.isInt_shape (show Value.isInt k e.2=true from hk)
 exact ⟨e.1,k,t,by rw[<-q]⟩
theorem zqN {Q:Array (Int × Value)->Shared->Prop} {o:Obj} {es:Array (Int × Value)} {ep:Nat} {t:SetTable} (S:zan prog w s.heap a ms) (C:zan prog w s.heap c ns) (ho:s.heap.get? b=some o) (hd:o.data=.set es ep t) (hf:t.fits es.size=true) (hel:ElemsOf (intKind prog w) es.toList) (T:Tab (w.params.followText "set-order") t)
  (hQ:∀ es' h' d,es'.toList.Perm es.toList->Heap.SameBut a s.heap h'->zan prog w h' a ms->Q es' { s with heap:=h',drawn:=d }):wpAny (model prog w) A (setWalkUnseen b [c,a] (some a)) Q E s:=by
 unfold setWalkUnseen
 refine wpAny_bind (wpAny_setState_of ho hd hf ?_)
 unfold setsByText
 refine wpAny_bind (wpAny_bind (wpAny_askSetting (wpAny_pure ?_)))
 dsimp only
 split
 ·exact zl4 ho hd hf T fun es' d pm=>hQ es' s.heap d pm (Heap.SameBut.refl a s.heap) S
 ·obtain ⟨⟨o1,es1,ep1,t1,⟨ho1,hex1,hd1⟩,⟨hel1,hb1,hf1⟩,T1,rfl⟩,nd1⟩:=id S
  obtain ⟨⟨o2,es2,ep2,t2,⟨ho2,hex2,hd2⟩,⟨hel2,hb2,hf2⟩,T2,rfl⟩,nd2⟩:=id C
  unfold setsQuiet
  refine wpAny_bind (wpAny_bind ?_)
  rw[ycb]
  refine wpAny_bind (wpAny_bind (wpAny_setEntries_of ho hd hf (wpAny_bind ?_)))
  rw[<-yeg]
  refine zgt (fun e he=>?_) ?_
  ·obtain ⟨h,k,t,rfl⟩:=zcQ hel e he
   rfl
  refine wpAny_pure ?_
  dsimp only
  rw[ycb]
  refine wpAny_bind (wpAny_bind (wpAny_setEntries_of ho2 hd2 hf2 (wpAny_bind ?_)))
  rw[<-yeg]
  refine zgt (fun e he=>?_) ?_
  ·obtain ⟨h,k,t,rfl⟩:=zcQ hel2 e he
   rfl
  refine wpAny_pure ?_
  dsimp only
  rw[ycb]
  refine wpAny_bind (wpAny_bind (wpAny_setEntries_of ho1 hd1 hf1 (wpAny_bind ?_)))
  rw[<-yeg]
  refine zgt (fun e he=>?_) ?_
  ·obtain ⟨h,k,t,rfl⟩:=zcQ hel1 e he
   rfl
  refine wpAny_pure (wpAny_pure (wpAny_pure ?_))
  refine zau (by simp) (wpAny_bind (wpAny_rule (wpAny_bind (wpAny_setState_of ho1 hd1 hf1 ?_))))
  dsimp only
  split
  ·refine wpAny_bind (wpAny_storeSet_of ho1 hd1 (wpAny_pure ?_) (fits_of_scanBound hb1))
   refine hQ es _ s.drawn (.refl _) (Heap.SameBut.update _ a _) (zjj ho1 hex1 hd1 hel1 hb1 hf1 ⟨?_,T1.dum,fun z=>T1.up ?_⟩ nd1)
   ·show (t1.led && t.led)=_
    rw[T1.led,T.led,Bool.and_self]
   ·have:(t1.plain && t.plain)=true:=z
    simp only[Bool.and_eq_true] at this
    exact this.1
  ·exact wpAny_pure (hQ es s.heap s.drawn (.refl _) (Heap.SameBut.refl a s.heap) S)
theorem zqG {Q:Array (Int × Value)->Shared->Prop} {o:Obj} {es:Array (Int × Value)} {ep:Nat} {t:SetTable} (R:zce prog w s.heap a ms) (ho:s.heap.get? b=some o) (hd:o.data=.set es ep t) (hf:t.fits es.size=true) (hel:ElemsOf (intKind prog w) es.toList) (T:Tab (w.params.followText "set-order") t)
  (hQ:∀ es' d,es'.toList.Perm es.toList->Q es' { s with drawn:=d }):wpAny (model prog w) A (setWalkUnseen b [a] none) Q E s:=by
 unfold setWalkUnseen
 refine wpAny_bind (wpAny_setState_of ho hd hf ?_)
 unfold setsByText
 refine wpAny_bind (wpAny_bind (wpAny_askSetting (wpAny_pure ?_)))
 dsimp only
 split
 ·exact zl4 ho hd hf T fun es' d pm=>hQ es' d pm
 ·obtain ⟨⟨o1,es1,ep1,t1,⟨ho1,hex1,hd1⟩,⟨hel1,hb1,hf1⟩,rfl⟩,nd1⟩:=id R
  unfold setsQuiet
  refine wpAny_bind (wpAny_bind ?_)
  rw[ycb]
  refine wpAny_bind (wpAny_bind (wpAny_setEntries_of ho hd hf (wpAny_bind ?_)))
  rw[<-yeg]
  refine zgt (fun e he=>?_) ?_
  ·obtain ⟨h,k,t,rfl⟩:=zcQ hel e he
   rfl
  refine wpAny_pure ?_
  dsimp only
  rw[ycb]
  refine wpAny_bind (wpAny_bind (wpAny_setEntries_of ho1 hd1 hf1 (wpAny_bind ?_)))
  rw[<-yeg]
  refine zgt (fun e he=>?_) ?_
  ·obtain ⟨h,k,t,rfl⟩:=zcQ hel1 e he
   rfl
  refine wpAny_pure (wpAny_pure (wpAny_pure ?_))
  refine zau (by simp) (wpAny_bind (wpAny_rule ?_))
  exact wpAny_pure (hQ es s.drawn (.refl _))
theorem zgZ {id0:String} {o:Obj} {es:Array (Int × Value)} {ep:Nat} {t:SetTable} {Q:Unit->Shared->Prop} (ho:s.heap.get? b=some o) (hd:o.data=.set es ep t) (hf:t.fits es.size=true) (q:Q () s):wpAny (model prog w) A (Builtin.Frozenset.unchanged id0 b ep) Q E s:=by
 unfold Builtin.Frozenset.unchanged
 refine wpAny_bind (wpAny_setEpoch_of ho hd hf ?_)
 exact zau (by simp) (wpAny_pure q)
theorem zii {o:Obj} {es:Array (Int × Value)} {ep:Nat} {t:SetTable} {Q:Nat->Shared->Prop} (ho:s.heap.get? b=some o) (hd:o.data=.set es ep t) (hf:t.fits es.size=true) (q:Q es.size s):wpAny (model prog w) A (Builtin.Frozenset.sizeOf b) Q E s:=by
 unfold Builtin.Frozenset.sizeOf
 exact wpAny_bind (wpAny_setEntries_of ho hd hf (wpAny_pure q))
theorem zsG:entryFor table "set.__sub__" = some Builtin.«frozenset.__sub__»:=entryFor_alias (id' := "frozenset.__sub__") (by rw[fastTable_eq_tree];kernel_rfl) rfl (by rw[PySem.W.S.canonicalS_eq];kernel_rfl) (by rw[fastTable_eq_tree];kernel_rfl)
theorem zrU {Q:Value->Shared->Prop} (S:zan prog w s.heap a ms) (B:zan prog w s.heap b ns) (hm:ms.length<32) (hn:ns.length<32)
  (hQ:∀ h' d ms',(∀ c o,s.heap.get? c=some o->h'.get? c=some o)->zce prog w h' s.heap.objs.size ms'->(∀ m,m∈ms'↔m∈ms/\m ∉ ns)->Q (.ref s.heap.objs.size) { s with heap:=h',drawn:=d }):wpAny (model prog w) A (binaryOp .Sub (.ref a) (.ref b)) Q E s:=by
 refine wpAny_binaryOp_same (op:=.Sub) (T:="set") S.ty B.ty PySem.F.fills_set_sub PySem.F.slot_set_sub (wpAny_call_entry PySem.F.slot_set_sub S.ty zsG ?_ (PySem.F.args_set_sub_2 _ _))
 unfold Builtin.«frozenset.__sub__»
 obtain ⟨⟨oa,ea,pa,ta,⟨hoa,hxa,hda⟩,⟨hla,hba,hfa⟩,Ta,ema⟩,nda⟩:=id S
 obtain ⟨⟨ob,eb,pb,tb,⟨hob,hxb,hdb⟩,⟨hlb,hbb,hfb⟩,Tb,emb⟩,ndb⟩:=id B
 have lta:=ydr hoa
 have ltb:=ydr hob
 have sa:ea.size=ms.length:=by rw[<-ema,yab,yed]
 have sb:eb.size=ns.length:=by rw[<-emb,yab,yed]
 change wpAny _ _ (Builtin.Frozenset.slot1 "__sub__" _ >>= _) _ _ _
 refine wpAny_bind (wpAny_of_eq (show Builtin.Frozenset.slot1 "__sub__" { pos:=[Value.ref a,Value.ref b] }=pure (.ref a,.ref b) from rfl) ?_)
 change wpAny _ _ ((_ <&&> _) >>= _) _ _ _
 refine wpAny_bind (wpAny_bind (ziz S.ty (ziz B.ty ?_)))
 refine zau (by simp) (wpAny_bind (wpAny_pure (wpAny_bind ?_)))
 change wpAny _ _ (Builtin.Frozenset.difference _ a (.ref b)) _ _ _
 unfold Builtin.Frozenset.difference
 dsimp only
 refine wpAny_bind (ziz B.ty ?_)
 refine zau (by simp) (wpAny_bind (wpAny_pure ?_))
 refine zau (by simp) (zdI rfl (wpAny_bind (zii hob hdb hfb (wpAny_bind (zii hoa hda hfa ?_)))))
 have kp0:∀ c o,s.heap.get? c=some o->(s.heap.push (empty w)).get? c=some o:=fun c o e=>ydq _ e
 split
 ·rename_i big
  refine wpAny_bind (wpAny_rule (wpAny_bind (zqC S (by ac_rfl) fun h1 ms1 kp1 S1 pm1 _=>?_)))
  have nb:s.heap.objs.size≠b:=ydj ltb
  have B1:zan prog w h1 b ns:=B.keep fun o e=>kp1 b o e
  have R1:=S1.raw (by rw[pm1.length_eq];ac_rfl)
  obtain ⟨⟨o1,e1,p1,t1,⟨ho1,hx1,hd1⟩,⟨hl1,hb1,hf1⟩,em1⟩,nd1⟩:=id R1
  have sz1:e1.size=ms.length:=by rw[<-pm1.length_eq,<-em1,yab,yed]
  refine wpAny_bind (wpAny_pure (wpAny_bind (wpAny_holding ?_)))
  unfold Builtin.Frozenset.differenceUpdate
  refine zau (by simpa using nb.symm) ?_
  refine wpAny_bind (ziz (s:={ s with heap:=h1 }) B1.ty (zdI rfl (wpAny_bind (wpAny_pure (wpAny_bind (zii (s:={ s with heap:=h1 }) (kp1 b ob hob) hdb hfb (wpAny_bind (zii (s:={ s with heap:=h1 }) ho1 hd1 hf1 ?_))))))))
  refine zau (by ac_rfl) ?_
  dsimp only
  refine wpAny_bind (wpAny_setEpoch_of (s:={ s with heap:=h1 }) (kp1 b ob hob) hdb hfb (wpAny_bind (wpAny_holding ?_)))
  refine wpAny_bind (zqG (s:={ s with heap:=h1 }) R1 (kp1 b ob hob) hdb hfb hlb Tb fun es' d pm=>?_)
  rw[<-yeg]
  refine wpAny_bind (zks (fun rest s'=>∃ h2 ms2 done,s'={ s with heap:=h2,drawn:=d }/\Heap.SameBut s.heap.objs.size h1 h2/\zce prog w h2 s.heap.objs.size ms2/\ElemsOf (intKind prog w) rest/\(∀ m,m∈ms2↔m∈ms/\m ∉ done)/\(done++rest.map fun e=>intOf e.2).Perm ns/\ms2.length<=ms.length) ?_ ?_ es'.toList _ ⟨h1,ms1,[],rfl,Heap.SameBut.refl _ h1,R1,hlb.perm pm,fun m=>by rw[pm1.mem_iff];simp,by rw[<-emb];exact pm.map _,Nat.le_of_eq pm1.length_eq⟩)
  ·rintro ⟨eh,ev⟩ l s' ⟨h2,ms2,done,rfl,sb2,R2,hl,mm,pm2,len⟩
   obtain ⟨⟨k,hk,hh⟩,hsc⟩:=hl.head
   obtain ⟨tk,q⟩:=Value.isInt_shape (show Value.isInt k ev=true from hk)
   dsimp only at q hh hk hsc
   subst q
   subst hh
   dsimp only
   refine wpAny_bind (wpAny_holding (discard (s:={ s with heap:=h2,drawn:=d }) hk hsc R2 fun _ h3 ms3 sb3 R3 mm3 l3=>?_))
   have hb3:h3.get? b=some ob:=by rw[sb3.2 b nb.symm,sb2.2 b nb.symm];exact kp1 b ob hob
   refine wpAny_bind (zgZ (s:={ s with heap:=h3,drawn:=d }) hb3 hdb hfb (wpAny_pure ⟨rfl,h3,ms3,done++[k],rfl,sb2.trans sb3,R3,hl.tail,fun m=>?_,by rw[ycl];exact pm2,by ac_rfl⟩))
   rw[mm3,mm,yam,ybc,not_or,and_assoc]
  ·rintro s' ⟨h2,ms2,done,rfl,sb2,R2,hl,mm,pm2,len⟩
   rw[List.map_nil,ybw] at pm2
   refine wpAny_pure (zqp (s:={ s with heap:=h2,drawn:=d }) R2 (by ac_rfl) fun h3 ms3 sb3 R3 pm3=>wpAny_pure (wpAny_pure ⟨_,rfl,by simp,?_⟩))
   exact hQ h3 d ms3 (fun c o e=>by rw[sb3.2 c (yda (ydr e)),sb2.2 c (yda (ydr e))];exact kp1 c o e) R3 (fun m=>by rw[pm3.mem_iff,mm,pm2.mem_iff])
 ·unfold Builtin.Frozenset.baseOf
  refine wpAny_bind (wpAny_bind (wpAny_isInstance (b:=true) S.ty sub_set_self (wpAny_pure ?_)))
  refine wpAny_bind (zkH fun F=>?_)
  have B0:zan prog w (s.heap.push (empty w)) b ns:=B.keep fun o e=>kp0 b o e
  show wpAny _ _ (pure s.heap.objs.size >>= _) _ _ _
  refine wpAny_bind (wpAny_pure (wpAny_bind (wpAny_setEpoch_of (s:={ s with heap:=s.heap.push (empty w) }) (kp0 a oa hoa) hda hfa (wpAny_bind (wpAny_holding ?_)))))
  have na:s.heap.objs.size≠a:=ydj lta
  have nb:s.heap.objs.size≠b:=ydj ltb
  refine wpAny_bind (zdI (x:=setWalkUnseen a [b,s.heap.objs.size] (some s.heap.objs.size)) (y:=setWalk a) (c:=true=true) rfl (zqN (s:={ s with heap:=s.heap.push (empty w) }) F.zqd B0 (kp0 a oa hoa) hda hfa hla Ta fun es' h1 d pm sb1 S1=>?_))
  rw[<-yeg]
  refine wpAny_bind (zks (fun rest s'=>∃ h2 ms2 done,s'={ s with heap:=h2,drawn:=d }/\Heap.SameBut s.heap.objs.size (s.heap.push (empty w)) h2/\zan prog w h2 s.heap.objs.size ms2/\ElemsOf (intKind prog w) rest/\(∀ m,m∈ms2↔m∈done/\m ∉ ns)/\(done++rest.map fun e=>intOf e.2).Perm ms/\ms2.length<=done.length) ?_ ?_ es'.toList _ ⟨h1,[],[],rfl,sb1,S1,hla.perm pm,fun m=>by simp,by rw[<-ema];exact pm.map _,ycz _⟩)
  ·rintro ⟨eh,ev⟩ l s' ⟨h2,ms2,done,rfl,sb2,S2,hl,mm,pm2,len⟩
   obtain ⟨⟨k,hk,hh⟩,hsc⟩:=hl.head
   obtain ⟨tk,q⟩:=Value.isInt_shape (show Value.isInt k ev=true from hk)
   dsimp only at q hh hk hsc
   subst q
   subst hh
   have pl:=pm2.length_eq
   rw[yac,ybf,yba] at pl
   have hb2:h2.get? b=some ob:=by rw[sb2.2 b nb.symm];exact kp0 b ob hob
   have ha2:h2.get? a=some oa:=by rw[sb2.2 a na.symm];exact kp0 a oa hoa
   have ik:intOf (Value.int k tk)=k:=rfl
   have pm3:((done++[k])++l.map fun e=>intOf e.2).Perm ms:=by rw[ycl];exact pm2
   have kn:(eb.toList.findIdx? fun e=>Value.isInt k e.2).isSome=true↔k∈ns:=by
    rw[<-emb,<-zgY hlb k]
    constructor
    ·intro z
     obtain ⟨j,hj⟩:=Option.isSome_iff_exists.mp z
     obtain ⟨h1,h2,_⟩:=ybz.mp hj
     exact ⟨_,ych h1,h2⟩
    ·rintro ⟨e,he,z⟩
     cases q:eb.toList.findIdx? (fun e=>Value.isInt k e.2) with
     | some j=>rfl
     | none=>rw[ycm.mp q e he] at z;cases z
   refine wpAny_bind (wpAny_holding (zdI rfl (wpAny_bind (zoi (s:={ s with heap:=h2,drawn:=d }) hk hsc hb2 hdb hfb hlb hbb (wpAny_bind (wpAny_pure ?_))))))
   by_cases z:k∈ns
   ·refine zau (by rw[kn.mpr z];simp) (wpAny_pure (wpAny_bind (zgZ (s:={ s with heap:=h2,drawn:=d }) ha2 hda hfa (wpAny_pure ⟨rfl,h2,ms2,done++[k],rfl,sb2,S2,hl.tail,fun m=>?_,pm3,by rw[yac];exact Nat.le_add_right_of_le len⟩))))
    rw[mm,yam,ybc]
    constructor
    ·exact fun q=>⟨.inl q.1,q.2⟩
    ·rintro ⟨q | q,n⟩
     ·exact ⟨q,n⟩
     ·exact absurd (q ▸ z) n
   ·refine zdI (by rw[Bool.eq_false_iff.mpr (fun q=>z (kn.mp q))];rfl) (wpAny_bind (xadd (s:={ s with heap:=h2,drawn:=d }) (ms:=ms2) (k:=k) S2 (by show _<4096;ac_rfl) fun _ h3 ms3 sb3 S3 mm3 l3=>wpAny_pure ?_))
    have ha3:h3.get? a=some oa:=by rw[sb3.2 a na.symm];exact ha2
    refine wpAny_bind (zgZ (s:={ s with heap:=h3,drawn:=d }) ha3 hda hfa (wpAny_pure ⟨rfl,h3,ms3,done++[k],rfl,sb2.trans sb3,S3,hl.tail,fun m=>?_,pm3,by rw[yac,ybs];ac_rfl⟩))
    rw[mm3,mm,yam,ybc]
    constructor
    ·rintro (q | q)
     ·exact ⟨.inl q.1,q.2⟩
     ·exact ⟨.inr q,q ▸ z⟩
    ·rintro ⟨q | q,n⟩
     ·exact .inl ⟨q,n⟩
     ·exact .inr q
  ·rintro s' ⟨h2,ms2,done,rfl,sb2,S2,hl,mm,pm2,len⟩
   rw[List.map_nil,ybw] at pm2
   have pl:=pm2.length_eq
   refine wpAny_pure (wpAny_pure (wpAny_pure ⟨_,rfl,by simp,?_⟩))
   exact hQ h2 d ms2 (fun c o e=>by rw[sb2.2 c (yda (ydr e))];exact kp0 c o e) (S2.raw (by ac_rfl)) (fun m=>by rw[mm,pm2.mem_iff])
end
end zac
noncomputable def zqY (P:Program) (w:World) (a:Addr) (ms:List Int):HO:=.ext fun h=>zac.zce P w h a ms
def zrw (P:Program) (w:World):R2:=fun x y H Q=>∃ a b ms ns,x=.ref a/\y=.ref b/\H a=some (zj4 P w a ms)/\H b=some (zj4 P w b ns)/\ms.length<32/\ns.length<32 /\
 ∀ (p:Addr) (H':Hp) (ls:List Int),H p=none->Same H H'->H' p=some (zqY P w p ls)->(∀ m,m∈ls↔m∈ms/\m ∉ ns)->Q (.ref p) H'
section
variable {X:Cx}
theorem zpB:OpR X (binaryOp .Sub) (zrw X.prog X.w):=by
 intro pins s σ H x y v u Q I rx ry h
 obtain ⟨a,b,ms,ns,rfl,rfl,ha,hb,hm,hn,q⟩:=h
 cases rx
 cases ry
 have S:=(I.hok a _ ha).1
 have B:=(I.hok b _ hb).1
 refine zac.zrU S B hm hn fun h' d ls kp R mm=>?_
 have I1:=I.laid (o:=zqY X.prog X.w s.heap.objs.size ls) (t':=s.toks) kp (ycz _) ⟨R,R.obj,fun h1 h2 p e=>p.keep e⟩
 exact ⟨.ref s.heap.objs.size,_,I1.drew d,rfl,q _ _ ls (I.hok.fresh (ycz _)) (zb (I.hok.fresh (ycz _)) _) zf mm⟩
theorem znu:zaN X (.builtin "len") (fun xs H Q=>∃ (p:Addr) (ms:List Int),xs=[.ref p]/\H p=some (zqY X.prog X.w p ms)/\Q (.int ms.length) H):=by
 intro pins s σ H xs us Q I r h
 obtain ⟨p,ms,rfl,hp,q⟩:=h
 obtain ⟨u,rfl,rx⟩:=vals1 r
 cases rx
 obtain ⟨⟨o,es,ep,t,⟨ho,hex,hd⟩,⟨hel,hb,hf⟩,rfl⟩,nd⟩:=(I.hok p _ hp).1
 rw[yab,yed] at q
 exact call_len_set ho hex hd hf (by ac_rfl) ⟨.int es.size,H,I.tok _,⟨_,rfl⟩,q⟩
end
end L2
namespace Sums
theorem fold_same {d m:Int}:∀ (t:Tab) (st:Int × Int),(∀ s∈t,s.1<=d↔s.1<=m)->t.foldl (vstep d) st=t.foldl (vstep m) st
 | [],_,_=>rfl
 | s::t,st,h=>by
  rw[yca,yca]
  have e:vstep d st s=vstep m st s:=by
   unfold vstep
   have:=h s yal
   by_cases q:st.1<=s.1/\s.1<=d
   ·rw[if_pos q,if_pos ⟨q.1,this.mp q.2⟩]
   ·rw[if_neg q,if_neg fun z=>q ⟨z.1,this.mpr z.2⟩]
  rw[e]
  exact fold_same t _ fun x hx=>h x (yak _ hx)
theorem zdx {t:Tab} {d m:Int} (h:∀ s∈t,s.1<=d↔s.1<=m):valOf t d=valOf t m:=by
 unfold valOf
 rw[fold_same t _ h]
theorem zdq {t:Tab} {d:Int} (h0:∀ s∈t,0<=s.1) (h:∀ s∈t,d<s.1):valOf t d=0:=by
 rcases zaZ h0 d with ⟨e,_⟩ | ⟨i,b,e,le,_⟩
 ·exact e
 ·have:=h _ (yah e)
  exact absurd this (by show ¬ d<b;ac_rfl)
theorem zl6:∀ l:List Int,l≠[]->∃ m∈l,∀ x∈l,x<=m
 | [],h=>absurd rfl h
 | [a],_=>⟨a,yal,fun x hx=>by rw[ybc.mp hx];exact ydx _⟩
 | a::b::l,_=>by
  obtain ⟨m,hm,h⟩:=zl6 (b::l) (by simp)
  by_cases q:a<=m
  ·refine ⟨m,yak _ hm,fun x hx=>?_⟩
   rcases yaj.mp hx with rfl | hx
   ·exact q
   ·exact h x hx
  ·refine ⟨a,yal,fun x hx=>?_⟩
   rcases yaj.mp hx with rfl | hx
   ·exact ydx _
   ·have:=h x hx
    ac_rfl
theorem zqV {ks:List Int} {f:Int->Int} {d m:Int} (k0:∀ k∈ks,0<=k) (hm:m∈ks) (md:m<=d) (top:∀ k∈ks,k<=d->k<=m):valOf (ks.map fun k=>(k,f k)) d=f m:=by
 rcases zaZ (t:=ks.map fun k=>(k,f k)) (fun s hs=>by obtain ⟨k,hk,rfl⟩:=yae.mp hs;exact k0 k hk) d with ⟨_,h⟩ | ⟨i,b,e,le,h⟩
 ·have:d<m:=h (m,f m) (yae.mpr ⟨m,hm,rfl⟩)
  ac_rfl
 ·obtain ⟨k,hk,ek⟩:=yae.mp (yah e)
  have e1:k=b:=congrArg Prod.fst ek
  have e2:f k=valOf (ks.map fun k=>(k,f k)) d:=congrArg Prod.snd ek
  obtain ⟨j,hj⟩:=ycr.mp hm
  have q:=h j (m,f m) (by rw[yag,hj];rfl) md
  have q2:=top k hk (by ac_rfl)
  have:k=m:=by rcases q with q | q <;> ac_rfl
  rw[<-e2,this]
end Sums
namespace L2
open PySem Sums
def nab (t u:List (Int × Int)):Bool:=(((t++u).filter fun s=>decide (s.1<=999999)).map fun s=>decide (valOf t s.1<=valOf u s.1)).all id
theorem zr1 {t u:List (Int × Int)} (t0:∀ s∈t,0<=s.1) (u0:∀ s∈u,0<=s.1):nab t u=true↔∀ d:Int,0<=d->d<=999999->valOf t d<=valOf u d:=by
 unfold nab
 rw[List.all_map,List.all_eq_true]
 constructor
 ·intro h d d0 d1
  by_cases q:(((t++u).map (·.1)).filter fun x=>decide (x<=d))=[]
  ·have no:∀ s∈t++u,d<s.1:=fun s hs=>by
    have:=ycg.mp q s.1 (yaz hs)
    simpa using this
   rw[zdq t0 fun s hs=>no s (ybg _ hs),zdq u0 fun s hs=>no s (yai _ hs)]
   exact ydx _
  ·obtain ⟨m,hm,top⟩:=zl6 _ q
   obtain ⟨hm1,hm2⟩:=yaq.mp hm
   have md:m<=d:=by simpa using hm2
   obtain ⟨r,hr,rfl⟩:=yae.mp hm1
   have key:∀ s∈t++u,s.1<=d↔s.1<=r.1:=fun s hs=>⟨fun z=>top s.1 (yaq.mpr ⟨yaz hs,by simpa using z⟩),fun z=>by ac_rfl⟩
   have:=h r (yaq.mpr ⟨hr,by simp;ac_rfl⟩)
   rw[zdx fun s hs=>key s (ybg _ hs),zdx fun s hs=>key s (yai _ hs)]
   simpa using this
 ·intro h s hs
  obtain ⟨h1,h2⟩:=yaq.mp hs
  have s0:0<=s.1:=(yam.mp h1).elim (t0 s) (u0 s)
  have:=h s.1 s0 (by simpa using h2)
  simpa using this
noncomputable def chv (t l:List (Int × Int)) (d:Int):Int:=if Spans.isIn l d=true then 0 else valOf t d
theorem zpM {l:List (Int × Int)} {d m:Int} (h:∀ s∈l,(s.1<=d↔s.1<=m)/\(s.2<=d↔s.2<=m)):Spans.isIn l d=Spans.isIn l m:=by
 unfold Spans.isIn
 rw[Bool.eq_iff_iff,ycd,ycd]
 constructor
 ·rintro ⟨s,hs,q⟩
  refine ⟨s,hs,?_⟩
  have:=h s hs
  simp only[Bool.and_eq_true,decide_eq_true_eq] at q ⊢
  ac_rfl
 ·rintro ⟨s,hs,q⟩
  refine ⟨s,hs,?_⟩
  have:=h s hs
  simp only[Bool.and_eq_true,decide_eq_true_eq] at q ⊢
  ac_rfl
theorem zr4 {t l:List (Int × Int)} {ns:List Int} (hd:∀ d,d∈ns↔(0<d/\d<1000000)/\((∃ s∈t,d=s.1)\/∃ s∈l,d=s.1\/d=s.2)) {d:Int} (d0:0<=d) (d1:d<=999999) :
  valOf (((0:Int)::ns).map fun k=>(k,chv t l k)) d=chv t l d:=by
 obtain ⟨m,hm,top⟩:=zl6 ((0::ns).filter fun k=>decide (k<=d)) (by
  intro z
  have:=ycg.mp z 0 yal
  simp at this
  ac_rfl)
 obtain ⟨hm1,hm2⟩:=yaq.mp hm
 have md:m<=d:=by simpa using hm2
 have top':∀ k∈(0:Int)::ns,k<=d->k<=m:=fun k hk z=>top k (yaq.mpr ⟨hk,by simpa using z⟩)
 have k0:∀ k∈(0:Int)::ns,0<=k:=fun k hk=>by
  rcases yaj.mp hk with rfl | hk
  ·exact ydx _
  ·have:=((hd k).mp hk).1
   ac_rfl
 have m0:=k0 m hm1
 rw[zqV k0 hm1 md top']
 have key:∀ x:Int,((∃ s∈t,x=s.1)\/∃ s∈l,x=s.1\/x=s.2)->(x<=d↔x<=m):=fun x hx=>⟨fun z=>by
  by_cases x0:0<x
  ·exact top' x (yak _ ((hd x).mpr ⟨⟨x0,by ac_rfl⟩,hx⟩)) z
  ·ac_rfl,fun z=>by ac_rfl⟩
 unfold chv
 rw[zpM (d:=d) (m:=m) fun s hs=>⟨key s.1 (.inr ⟨s,hs,.inl rfl⟩),key s.2 (.inr ⟨s,hs,.inr rfl⟩)⟩,zdx (d:=d) (m:=m) fun s hs=>key s.1 (.inl ⟨s,hs,rfl⟩)]
noncomputable def kdN (n:Int):Kd:=(fun c:Int=>if c=0 then .plain else if c=1 then .bank else if c=2 then .thirty else .exact) (n % 4)
structure Kinder (b c:BkT):Prop where
 kd:b.kd=c.kd
 outs:b.outs=c.outs
 turns:∀ d∈b.turns,d∈c.turns
 pays:∀ d:Int,0<=d->d<=999999->upto c.pays d<=upto b.pays d
 fees:∀ d:Int,0<=d->d<=999999->upto b.fees d<=upto c.fees d
 dues:∀ d:Int,0<=d->d<=999999->upto b.dues (d-b.g)<=upto c.dues (d-c.g)
 rates:∀ d:Int,0<=d->d<=999999->chv b.rates b.spans d<=chv c.rates c.spans d
 lates:∀ d:Int,0<=d->d<=999999->chv b.lates b.spans d<=chv c.lates c.spans d
theorem zkS:∀ l r:List (Int × Int),PyData.eqvAll (l.map zfS) (r.map zfS)=decide (l=r)
 | [],[]=>rfl
 | [],_::_=>rfl
 | _::_,[]=>rfl
 | s::l,u::r=>by
  rw[ybf,ybf]
  unfold PyData.eqvAll
  rw[zkS l r]
  obtain ⟨a,b⟩:=s
  obtain ⟨c,d⟩:=u
  show (PyData.eqv (.tuple [.int a,.int b]) (.tuple [.int c,.int d]) && decide (l=r))=_
  rw[Bool.eq_iff_iff]
  simp[PyData.eqv,PyData.eqvAll]
theorem zpf (l r:List (Int × Int)):PyData.eqv (.list (l.map zfS)) (.list (r.map zfS))=decide (l=r):=by
 show PyData.eqvAll _ _=_
 exact zkS l r
end L2
namespace L2
open PySem Sums
noncomputable def tb {α:Type} (f:Nat->α):List α:=(yar 130).map f
theorem zaU {α:Type} (f:Nat->α):(tb f).length=130:=by rw[tb,yab,ybu]
theorem zck {α:Type} {f:Nat->α} {k:Nat} (h:k<130):(tb f)[k]?=some (f k):=by rw[tb,yag,ycf h];rfl
theorem zlE {α:Type} {f g:Nat->α} (h:∀ k,k<130->f k=g k):tb f=tb g:=ybm fun k hk=>h k (yci.mp hk)
theorem zgy {α:Type} {f:Nat->α} {j:Nat} {v:α}:(tb f).set j v=tb fun k=>if k=j then v else f k:=by
 apply ybt
 intro k
 rw[List.getElem?_set]
 by_cases hk:k<130
 ·rw[zck hk,zck hk,zaU]
  by_cases e:j=k
  ·rw[if_pos e,if_pos (by ac_rfl),if_pos e.symm]
  ·rw[if_neg e,if_neg fun z=>e z.symm]
 ·rw[yap (by rw[zaU];ac_rfl),yap (by rw[zaU];ac_rfl),zaU]
  split
  ·rw[if_neg (by ac_rfl)]
  ·rfl
theorem zjC {α:Type} (v:α):yax 130 v=tb fun _=>v:=by
 apply ybt
 intro k
 by_cases hk:k<130
 ·rw[zck hk,List.getElem?_replicate,if_pos hk]
 ·rw[yap (by rw[List.length_replicate];ac_rfl),yap (by rw[zaU];ac_rfl)]
theorem zsz {α:Type} {f g:Nat->α} (h:tb f=tb g) {k:Nat} (hk:k<130):f k=g k:=by
 have:=congrArg (fun l=>l[k]?) h
 rw[zck hk,zck hk] at this
 exact Option.some.inj this
def Th (n b:Int) (k:Ek) (d x:Int):Prop:=match k with
 | .out=>1<=x
 | .pay=>1<=x
 | .due=>1<=x
 | .rate=>0<=x/\x<=1000000
 | .late=>0<=x/\x<=1000000
 | .still=>d<x/\x<=b+79+n/\x<=1000000
 | .fee=>True
 | .turn=>True
 | .base=>False
structure Sp1 (n b:Int) (e:Er):Prop where
 lo:b<=e.2.1
 hi:e.2.1<=b+59
 top:e.2.1<=999999
 th:Th n b e.1 e.2.1 e.2.2
def Sps (n b:Int) (es:List Er):Prop:=∀ e∈es,Sp1 n b e
noncomputable def outF (b:Int) (es:List Er) (k:Nat):Int:=upto (prs "out" es) (b+k)
def stF (b:Int) (es:List Er) (k:Nat):Bool:=Spans.isIn (prs "still" es) (b+k)
noncomputable def zeZ (g:Int) (es:List Er):List (Int × Int):=shf g (mvp (mvd (prs "still" es)) (prs "due" es))
noncomputable def rwF (b g:Int) (es:List Er):Nat->Nat->Int
 | 0=>fun k=>0-upto (prs "pay" es) (b+k)
 | 1=>fun k=>upto (prs "fee" es) (b+k)
 | 2=>fun k=>upto (zeZ g es) (b+k)
 | 3=>fun k=>if b+k∈dys "turn" es then 1 else 0
 | 4=>fun k=>chv (prs "rate" es) (prs "still" es) (b+k)
 | _=>fun k=>chv (prs "late" es) (prs "still" es) (b+k)
noncomputable def TL (b g:Int) (es:List Er):List (List Int):=[tb (rwF b g es 0),tb (rwF b g es 1),tb (rwF b g es 2),tb (rwF b g es 3),tb (rwF b g es 4),tb (rwF b g es 5)]
def IL (H:Hp) (v:V) (l:List Int):Prop:=∃ p,v=.ref p/\H p=some (.lst (l.map V.int))
structure zd2 (H:Hp) (t:Addr) (b g:Int) (es:List Er):Prop where
 is_:∃ (o r:Addr) (rs:List V),H t=some (.tup [.ref o,.ref r])/\H o=some (.lst ((tb (outF b es)).map V.int))/\H r=some (.lst rs)/\LL (IL H) rs (TL b g es)
theorem IL.same {H H':Hp} {v:V} {l:List Int} (h:IL H v l) (s:Same H H'):IL H' v l:=by
 obtain ⟨p,e,h⟩:=h
 exact ⟨p,e,s _ _ h⟩
theorem zd2.same {H H':Hp} {t:Addr} {b g:Int} {es:List Er} (h:zd2 H t b g es) (s:Same H H'):zd2 H' t b g es:=by
 obtain ⟨o,r,rs,h1,h2,h3,h4⟩:=h.is_
 exact ⟨o,r,rs,s _ _ h1,s _ _ h2,s _ _ h3,LL.imp (fun v l h=>h.same s) h4⟩
def zsQ (b g g':Int) (es es':List Er) (m:Int):Prop:=(∀ k,k<130->outF b es k=outF b es' k)/\∀ i,i<6->∀ k:Nat,(k:Int)<m->rwF b g es i k<=rwF b g' es' i k
theorem ze8 (w:Str) (es:List Er) (e:Er):prs w (es++[e])=prs w es++if isW w e=true then [e.2] else []:=by
 unfold prs
 rw[ybk,yat]
 by_cases c:isW w e=true
 ·rw[yau c,if_pos c];rfl
 ·rw[yav c,if_neg c];rfl
theorem zqr {l:List (Int × Int)} {b:Int} {j:Nat}:upto l (b+(j+1:Nat))=Sby.sm l (b+(j+1:Nat))+upto l (b+j):=by
 rw[zd3,show b+((j+1:Nat):Int)-1=b+j by ac_rfl,Int.add_comm]
theorem zmR {l:List (Int × Int)} {b:Int} (h:∀ s∈l,b<=s.1):upto l (b+(0:Nat))=Sby.sm l (b+(0:Nat)):=by
 rw[zd3,zd1 (fun s hs=>by have:=h s hs;ac_rfl),yea]
theorem zn2 {l:List (Int × Int)} {b:Int} {j:Nat}:(tb fun k=>if k=j+1 then (if j+1<=j then upto l (b+(j+1:Nat)) else Sby.sm l (b+(j+1:Nat)))+(if j<=j then upto l (b+j) else Sby.sm l (b+j)) else if k<=j then upto l (b+k) else Sby.sm l (b+k))=tb fun k=>if k<=j+1 then upto l (b+k) else Sby.sm l (b+k):=zlE fun k _=>by
 by_cases q:k=j+1
 ·rw[if_pos q,if_neg (by ac_rfl),if_pos (ycz _),if_pos (by ac_rfl),q,zqr]
 ·rw[if_neg q]
  by_cases r:k<=j
  ·rw[if_pos r,if_pos (by ac_rfl)]
  ·rw[if_neg r,if_neg (by ac_rfl)]
theorem zcm {f:Nat->Int} {i:Int} {k:Nat} (e:i=k) (h:k<130):atI ((tb f).map V.int) i=some (.int (f k)):=by
 rw[e]
 exact zay (by rw[yag,zck h];rfl)
theorem zp1 {f:Nat->Bool} {i:Int} {k:Nat} (e:i=k) (h:k<130):atI ((tb f).map V.bl) i=some (.bl (f k)):=by
 rw[e]
 exact zay (by rw[yag,zck h];rfl)
theorem zeT {f g:Nat->Int} (h:∀ k,k<130->f k=g k):some (HO.lst ((tb f).map V.int))=some (HO.lst ((tb g).map V.int)):=by rw[zlE h]
theorem zim {f g:Nat->Bool} (h:∀ k,k<130->f k=g k):some (HO.lst ((tb f).map V.bl))=some (HO.lst ((tb g).map V.bl)):=by rw[zlE h]
theorem zg8:∀ k c:Ek,V.str k.word=V.str c.word->k=c:=by
 intro k c
 cases k <;> cases c <;> first | exact fun _=>rfl | (intro h;exact absurd h (by decide))
theorem zeY {k:Ek} {e:Er} (h:isW k.word e=true):e.1=k:=zg8 _ _ (of_decide_eq_true h)
theorem Sp1.still {n b:Int} {e:Er} (h:Sp1 n b e) (c:isW "still" e=true):e.2.1<e.2.2/\e.2.2<=b+79+n/\e.2.2<=1000000:=by
 have:=h.th
 rw[zeY (k:=.still) c] at this
 exact this
theorem Sp1.rate {n b:Int} {e:Er} (h:Sp1 n b e) {w:Str} (hw:w = "rate" \/ w = "late") (c:isW w e=true):0<=e.2.2/\e.2.2<=1000000:=by
 have:=h.th
 rcases hw with rfl | rfl
 ·rw[zeY (k:=.rate) c] at this
  exact this
 ·rw[zeY (k:=.late) c] at this
  exact this
theorem Sp1.out {n b:Int} {e:Er} (h:Sp1 n b e) (c:isW "out" e=true):1<=e.2.2:=by
 have:=h.th
 rw[zeY (k:=.out) c] at this
 exact this
theorem Sp1.nb {n b:Int} {e:Er} (h:Sp1 n b e):e.1≠.base:=fun z=>by
 have:=h.th
 rw[z] at this
 exact this
theorem Th.more {n m b d x:Int} {k:Ek} (h:Th n b k d x) (l:n<=m):Th m b k d x:=by
 cases k <;> first | exact h | exact ⟨h.1,by have:=h.2.1;ac_rfl,h.2.2⟩
theorem Sp1.more {n m b:Int} {e:Er} (h:Sp1 n b e) (l:n<=m):Sp1 m b e:=⟨h.lo,h.hi,h.top,h.th.more l⟩
theorem Sps.more {n m b:Int} {es:List Er} (h:Sps n b es) (l:n<=m):Sps m b es:=fun e he=>(h e he).more l
noncomputable def zlF (g:Int) (es pre:List Er):List (Int × Int):=shf g (mvp (mvd (prs "still" es)) (prs "due" pre))
theorem zjV (g:Int) (es pre:List Er) (e:Er):zlF g es (pre++[e])=zlF g es pre++if isW "due" e=true then [(mvd (prs "still" es) e.2.1+g,e.2.2)] else []:=by
 unfold zlF shf mvp
 rw[ze8,yat,yat]
 split <;> rfl
theorem zlW {n b g:Int} {es:List Er} (ok:Sps n b es) (g0:0<=g):∀ s∈zeZ g es,b<=s.1:=fun s hs=>by
 obtain ⟨u,hu,rfl⟩:=yae.mp hs
 obtain ⟨v,hv,rfl⟩:=yae.mp hu
 obtain ⟨e,he,rfl⟩:=yae.mp hv
 have:=(zhZ (prs "still" es) e.2.1).from_
 have:=(ok e (yaq.mp he).1).lo
 show b<=mvd _ _+g
 ac_rfl
theorem zot {t:List (Int × Int)} {b:Int} (b0:0<=b) (h:∀ s∈t,b<=s.1) (k:Int):valOf (shf (-b) t) k=valOf t (b+k):=by
 have h0:∀ s∈shf (-b) t,0<=s.1:=fun s hs=>by
  obtain ⟨u,hu,rfl⟩:=yae.mp hs
  have:=h u hu
  show 0<=u.1 + -b
  ac_rfl
 refine Val.one (zaZ h0 k) ?_
 rcases zaZ (fun s hs=>Int.le_trans b0 (h s hs)) (b+k) with ⟨e,q⟩ | ⟨i,x,e,le,q⟩
 ·refine .inl ⟨e,fun s hs=>?_⟩
  obtain ⟨u,hu,rfl⟩:=yae.mp hs
  have:=q u hu
  show k<u.1 + -b
  ac_rfl
 ·refine .inr ⟨i,x + -b,by unfold shf;rw[yag,e];rfl,by ac_rfl,fun j r hr hk=>?_⟩
  unfold shf at hr
  rw[yag] at hr
  cases c:t[j]? with
  | none=>rw[c] at hr;cases hr
  | some u =>
   rw[c] at hr
   obtain rfl:=Option.some.inj hr
   have:=q j u c (by have:u.1 + -b<=k:=hk;ac_rfl)
   show u.1 + -b<x + -b\/(u.1 + -b=x + -b/\j<=i)
   ac_rfl
theorem zqf (g:Int) (l:List (Int × Int)) (s:Int × Int):shf g (l++[s])=shf g l++[(s.1+g,s.2)]:=by
 unfold shf
 rw[yat]
 rfl
theorem zqJ {t:List (Int × Int)} {b:Int} (b0:0<=b) (h:∀ s∈t,b<=s.1) (k:Int):((lkI (zcg (shf (-b) t)) k).map V.int).getD (.int (valOf t (b+k-1)))=.int (valOf t (b+k)):=by
 have h0:∀ s∈shf (-b) t,0<=s.1:=fun s hs=>by
  obtain ⟨u,hu,rfl⟩:=yae.mp hs
  have:=h u hu
  show 0<=u.1 + -b
  ac_rfl
 have:=zrq h0 k
 rwa [zot b0 h,zot b0 h,show b+(k-1)=b+k-1 by ac_rfl] at this
theorem zqH {α:Type} (f:Nat->α) (j:Nat):(yar (j+1)).map f=(yar j).map f++[f j]:=by
 rw[ycq,yat]
 rfl
theorem LL.ziu {α:Type} {R:V->α->Prop} {vs:List V} {es:List α} (h:LL R vs es):∀ n,LL R (vs.drop n) (es.drop n):=by
 induction h with
 | nil=>intro n;rw[List.drop_nil,List.drop_nil];exact .nil
 | cons h k ih =>
  intro n
  cases n with
  | zero=>exact .cons h k
  | succ n=>exact ih n
theorem Sps.app {n b:Int} {es fs:List Er} (h:Sps n b es) (k:Sps n b fs):Sps n b (es++fs):=fun e he=>(yam.mp he).elim (h e) (k e)
theorem Sps.take {n b:Int} {es:List Er} (h:Sps n b es) (m:Nat):Sps n b (es.take m):=fun e he=>h e (List.mem_of_mem_take he)
theorem Sps.drop {n b:Int} {es:List Er} (h:Sps n b es) (m:Nat):Sps n b (es.drop m):=fun e he=>h e (List.mem_of_mem_drop he)
theorem Sps.one {n b:Int} {e:Er} (h:Sp1 n b e):Sps n b [e]:=fun x hx=>by rw[ybc.mp hx];exact h
theorem zpN {b g:Int} {es:List Er}:∀ {i:Nat} {l:List Int},(TL b g es)[i]?=some l->i<6/\l=tb (rwF b g es i)
 | 0,l,h=>⟨by decide,(Option.some.inj h).symm⟩
 | 1,l,h=>⟨by decide,(Option.some.inj h).symm⟩
 | 2,l,h=>⟨by decide,(Option.some.inj h).symm⟩
 | 3,l,h=>⟨by decide,(Option.some.inj h).symm⟩
 | 4,l,h=>⟨by decide,(Option.some.inj h).symm⟩
 | 5,l,h=>⟨by decide,(Option.some.inj h).symm⟩
 | n+6,l,h=>by cases h
def zq9 (n b:Int) (k:Ek) (d x:Int):Prop:=match k with
 | .rate=>0<=x
 | .late=>0<=x
 | .still=>d<x/\x<=b+79+n/\x<=1000000
 | .base=>False
 | _=>True
def ztM (n b:Int) (k:Ek) (d x:Int):Prop:=match k with
 | .out=>1<=x
 | .pay=>1<=x
 | .due=>1<=x
 | .rate=>0<=x
 | .late=>0<=x
 | .still=>d<x/\x<=b+79+n/\x<=1000000
 | .base=>False
 | _=>True
theorem zpu {lo:Int} {n:Nat} {ix:List Nat} {tt:TT} {te:TE} {σ:St} {l:Addr} {H:Hp} {R:Hp->Prop} (hl:H l=none) (hz:n<=sizeLine) (f:Nat->Bool)
  (ht:∀ (i:Nat) H' Q',i<n->Same H H'->Q' (f i) H'->tt (some (.int (lo+i))::capts σ ix) H' Q')
  (he:∀ (i:Nat) H' Q',i<n->f i=true->Same H H'->Q' (.int (lo+i)) H'->te (some (.int (lo+i))::capts σ ix) H' Q')
  (fin:R (upd H l (.lst (((yar n).filter f).map fun i:Nat=>V.int (lo+i))))) :
  ∃ W:Nat->Nat->List V->Hp->Prop,(∃ m,W 0 m [] (upd H l (.lst [])))/\zgn ix tt te σ (Itr lo n) l R W:=by
 refine ⟨fun i m ys H'=>m=n-i/\i<=n/\ys=((yar i).filter f).map (fun i:Nat=>V.int (lo+i))/\H'=upd H l (.lst ys),⟨n,by simp,ydc _,rfl,rfl⟩,?_⟩
 rintro i m ys H' ⟨rfl,hi,hy,rfl⟩
 refine ⟨zf,?_⟩
 by_cases hlt:i<n
 ·have yl:ys.length<=i:=by
   rw[hy,yab]
   exact yde (ybb _ _) (by rw[ybu];exact ycz _)
  refine .inr ⟨hlt,by ac_rfl,fun x H2 y=>?_⟩
  obtain ⟨rfl,rfl⟩:=y
  have sH:=zb hl (.lst ys)
  refine ht i _ _ hlt sH ?_
  cases b:f i with
  | true =>
   rw[if_pos rfl]
   refine he i _ _ hlt b sH ⟨zf,n-(i+1),by ac_rfl,rfl,hlt,?_,by rw[zaA]⟩
   rw[hy,ycq,ybk,yat,yau b]
   rfl
  | false =>
   rw[if_neg Bool.false_ne_true]
   refine ⟨n-(i+1),by ac_rfl,rfl,hlt,?_,rfl⟩
   rw[hy,ycq,ybk,yat,yav (by rw[b];decide)]
   simp
 ·obtain rfl:i=n:=by ac_rfl
  exact .inl ⟨by show i<=i;ac_rfl,by rw[hy];exact fin⟩
theorem zk0:∀ a b:List Int,PyData.eqvAll (a.map PyData.int) (b.map PyData.int)=decide (a=b)
 | [],[]=>rfl
 | [],_::_=>rfl
 | _::_,[]=>rfl
 | x::a,y::b=>by
  rw[ybf,ybf]
  unfold PyData.eqvAll
  rw[zk0 a b,Bool.eq_iff_iff]
  simp[PyData.eqv]
theorem zi6 (a b:List Int):PyData.eqv (.list (a.map PyData.int)) (.list (b.map PyData.int))=decide (a=b):=by
 show PyData.eqvAll _ _=_
 exact zk0 a b
end L2
namespace L2
open PySem Sums
theorem lift {f f':Int->Int} {b m:Int} (b0:0<=b) (hm:m=if 1000000-b<130 then 1000000-b else 130) (lo:∀ d,d<b->f d<=f' d) (hf:∀ d,b+129<=d->f d=f (b+129)) (hf':∀ d,b+129<=d->f' d=f' (b+129)) :
  (∀ d:Int,0<=d->d<=999999->f d<=f' d)↔∀ k:Nat,(k:Int)<m->f (b+k)<=f' (b+k):=by
 constructor
 ·intro h k hk
  refine h (b+k) (by ac_rfl) ?_
  rw[hm] at hk
  split at hk <;> ac_rfl
 ·intro h d d0 d1
  rcases yeb d b with q | q
  ·exact lo d q
  ·rcases yeb d (b+130) with p | p
   ·have:=h (d-b).toNat (by rw[hm];split <;> ac_rfl)
    rwa [show b+((d-b).toNat:Int)=d by ac_rfl] at this
   ·rw[hf d (by ac_rfl),hf' d (by ac_rfl)]
    exact h 129 (by rw[hm];split <;> ac_rfl)
theorem zgp {n b:Int} {es:List Er} (ok:Sps n b es) (w:Str):∀ s∈prs w es,b<=s.1/\s.1<=b+59/\s.1<=999999:=fun s hs=>by
 obtain ⟨e,he,rfl⟩:=yae.mp hs
 have:=ok e (yaq.mp he).1
 exact ⟨this.lo,this.hi,this.top⟩
theorem zcH {l:List (Int × Int)} {b d:Int} (h:∀ s∈l,b<=s.1) (hd:d<b):upto l d=0:=zd1 fun s hs=>by have:=h s hs;ac_rfl
theorem zgk {l:List (Int × Int)} {b d:Int} (h:∀ s∈l,s.1<=b+129) (hd:b+129<=d):upto l d=upto l (b+129):=zom fun s hs=>by have:=h s hs;ac_rfl
theorem zp2 {b g:Int} {es:List Er} (ok:Sps 3 b es) (g1:g<=40):∀ s∈zeZ g es,s.1<=b+129:=fun s hs=>by
 obtain ⟨u,hu,rfl⟩:=yae.mp hs
 obtain ⟨v,hv,rfl⟩:=yae.mp hu
 obtain ⟨e,he,rfl⟩:=yae.mp hv
 have F:=zhZ (prs "still" es) e.2.1
 have o:=(ok e (yaq.mp he).1).hi
 show mvd (prs "still" es) e.2.1+g<=b+129
 rcases yeb (b+82) (mvd (prs "still" es) e.2.1) with q | q
 ·obtain ⟨s,hs,h1,h2⟩:=F.all (b+82) (by ac_rfl) q
  obtain ⟨x,hx,rfl⟩:=yae.mp hs
  obtain ⟨x1,x2⟩:=yaq.mp hx
  have:=((ok x x1).still x2).2.1
  ac_rfl
 ·ac_rfl
theorem zpU {n b d:Int} {es:List Er} (b0:0<=b) (ok:Sps n b es) (w:Str) (hd:d<b):chv (prs w es) (prs "still" es) d=0:=by
 unfold chv
 rw[Sums.zdq (fun s hs=>by have:=(zgp ok w s hs).1;ac_rfl) fun s hs=>by have:=(zgp ok w s hs).1;ac_rfl]
 split <;> rfl
theorem zok {b d:Int} {es:List Er} (ok:Sps 3 b es) (w:Str) (hd:b+129<=d):chv (prs w es) (prs "still" es) d=chv (prs w es) (prs "still" es) (b+129):=by
 have no:∀ x,b+129<=x->Spans.isIn (prs "still" es) x=false:=fun x hx=>by
  cases c:Spans.isIn (prs "still" es) x with
  | false=>rfl
  | true =>
   obtain ⟨s,hs,h1,h2⟩:=Spans.zcE.mp c
   obtain ⟨e,he,rfl⟩:=yae.mp hs
   obtain ⟨x1,x2⟩:=yaq.mp he
   have:=((ok e x1).still x2).2.1
   ac_rfl
 unfold chv
 rw[no d hd,no (b+129) (ydx _),Sums.zdx (d:=d) (m:=b+129) fun s hs=>by have:=(zgp ok w s hs).2.1;ac_rfl]
theorem zhi {c:BkT} (I:zbp c) {w:Str} {t:List (Int × Int)} (T:Stills.TabOf (prs w c.es) t) (d:Int):chv t c.spans d=chv (prs w c.es) (prs "still" c.es) d:=by
 have e:Spans.isIn c.spans d=Spans.isIn (prs "still" c.es) d:=by
  rw[Bool.eq_iff_iff,Spans.zcE,Spans.zcE]
  exact I.spans.2 d
 unfold chv
 rw[e,T.val]
theorem zpi {l:List (Int × Int)} (h:∀ s∈l,1<=s.2) {k:Int} (hk:k∈l.map (·.1)):1<=Sby.sm l k:=by
 have nn:∀ l:List (Int × Int),(∀ s∈l,1<=s.2)->0<=Sby.sm l k:=fun l h=>by
  unfold Sby.sm
  induction l with
  | nil=>exact ydx _
  | cons s l ih =>
   have:=ih fun x hx=>h x (yak _ hx)
   have:=h s yal
   by_cases c:s.1=k
   ·rw[yau (by simpa using c),ybf,List.sum_cons];ac_rfl
   ·rw[yav (by simpa using c)];ac_rfl
 induction l with
 | nil=>cases hk
 | cons s l ih =>
  have h1:=h s yal
  have ht:=fun x hx=>h x (yak s hx)
  by_cases c:s.1=k
  ·have:=nn l ht
   unfold Sby.sm at this ⊢
   rw[yau (by simpa using c),ybf,List.sum_cons];ac_rfl
  ·have:=ih ht (by
    rcases yaj.mp hk with e | e
    ·exact absurd e.symm c
    ·exact e)
   unfold Sby.sm at this ⊢
   rw[yav (by simpa using c)];exact this
theorem zqz {r r' l l':List (Int × Int)} (T:Sby.Tab r l) (T':Sby.Tab r' l') {b:Int} (h:∀ s∈l,b<=s.1/\s.1<=b+59) (h':∀ s∈l',b<=s.1/\s.1<=b+59) (p:∀ s∈l,1<=s.2) (p':∀ s∈l',1<=s.2) :
  r=r'↔∀ k:Nat,k<130->upto l (b+k)=upto l' (b+k):=by
 constructor
 ·intro e k _
  rw[<-zah T,<-zah T',e]
 ·intro e
  have sm_:∀ d,Sby.sm l d=Sby.sm l' d:=fun d=>by
   by_cases q:b<=d/\d<=b+59
   ·have e1:=zd3 l d
    have e2:=zd3 l' d
    have a1:=e (d-b).toNat (by ac_rfl)
    rw[show b+((d-b).toNat:Int)=d by ac_rfl] at a1
    have a2:upto l (d-1)=upto l' (d-1):=by
     by_cases z:d=b
     ·rw[zcH (fun s hs=>(h s hs).1) (show d-1<b by ac_rfl),zcH (fun s hs=>(h' s hs).1) (show d-1<b by ac_rfl)]
     ·have:=e (d-1-b).toNat (by ac_rfl)
      rwa [show b+((d-1-b).toNat:Int)=d-1 by ac_rfl] at this
    ac_rfl
   ·rw[Sby.zgj fun z=>by obtain ⟨s,hs,e⟩:=yae.mp z;have:=h s hs;ac_rfl,Sby.zgj fun z=>by obtain ⟨s,hs,e⟩:=yae.mp z;have:=h' s hs;ac_rfl]
  have kk:r.map (·.1)=r'.map (·.1):=Sby.zsk T.up T'.up fun d=>by
   rw[T.mem,T'.mem]
   constructor
   ·intro z
    apply Classical.byContradiction
    intro q
    have:=zpi p z
    rw[sm_ d,Sby.zgj q] at this
    ac_rfl
   ·intro z
    apply Classical.byContradiction
    intro q
    have:=zpi p' z
    rw[<-sm_ d,Sby.zgj q] at this
    ac_rfl
  have rr:∀ {r l:List (Int × Int)},Sby.Tab r l->r=(r.map (·.1)).map fun d=>(d,Sby.sm l d):=fun {r l} T=>by
   rw[ybv]
   conv=>lhs;rw[<-List.map_id r]
   exact ybm fun s hs=>by
    show s=(s.1,Sby.sm l s.1)
    rw[<-T.val s hs]
  rw[rr T,rr T',kk]
  exact ybm fun d _=>by rw[sm_ d]
theorem zsj {P:Nat->Prop}:(∀ i,i<6->P i)↔P 0/\P 1/\P 2/\P 3/\P 4/\P 5 :=
 ⟨fun h=>⟨h 0 (by decide),h 1 (by decide),h 2 (by decide),h 3 (by decide),h 4 (by decide),h 5 (by decide)⟩,fun ⟨a,b,c,d,e,f⟩ i hi=>by
  match i,hi with
  | 0,_=>exact a
  | 1,_=>exact b
  | 2,_=>exact c
  | 3,_=>exact d
  | 4,_=>exact e
  | 5,_=>exact f⟩
theorem zoq {al:Bool} {te:TE} {σ:St} {R:V->Hp->Prop} {H:Hp} (p:Bool->Prop) (h1:al=true->(∀ v,p v->R (.bl v) H)->te σ H R) (h2:al=false->p false) (h3:∀ v,p v->R (.bl v) H):if al=true then te σ H R else R (.bl false) H:=by
 by_cases c:al=true
 ·rw[if_pos c];exact h1 c h3
 ·rw[if_neg c];exact h3 false (h2 (by cases al <;> first | rfl | exact absurd rfl c))
theorem zsC (n:Int):kdN n≠kdN (n+1):=by
 unfold kdN
 rcases (show n % 4=0\/n % 4=1\/n % 4=2\/n % 4=3 by ac_rfl) with e | e | e | e
 ·rw[e,show (n+1) % 4=1 by ac_rfl];show Kd.plain≠Kd.bank;intro z;cases z
 ·rw[e,show (n+1) % 4=2 by ac_rfl];show Kd.bank≠Kd.thirty;intro z;cases z
 ·rw[e,show (n+1) % 4=3 by ac_rfl];show Kd.thirty≠Kd.exact;intro z;cases z
 ·rw[e,show (n+1) % 4=0 by ac_rfl];show Kd.exact≠Kd.plain;intro z;cases z
theorem zgG {c c':BkT} (I:zbp c) (I':zbp c') {b m:Int} (b0:0<=b) (hm:m=if 1000000-b<130 then 1000000-b else 130) (ok:Sps 3 b c.es) (ok':Sps 3 b c'.es) (g0:0<=c.g/\c.g<=40) (g0':0<=c'.g/\c'.g<=40) :
  Kinder c c'↔c.kd=c'.kd/\zsQ b c.g c'.g c.es c'.es m:=by
 have plo:=fun w s hs=>zgp ok w s hs
 have plo':=fun w s hs=>zgp ok' w s hs
 have po:∀ {es:List Er},Sps 3 b es->∀ s∈prs "out" es,1<=s.2:=fun {es} ok s hs=>by
  obtain ⟨e,he,rfl⟩:=yae.mp hs
  obtain ⟨x1,x2⟩:=yaq.mp he
  exact (ok e x1).out x2
 have ou:=zqz I.outs I'.outs (b:=b) (fun s hs=>⟨(plo _ s hs).1,(plo _ s hs).2.1⟩) (fun s hs=>⟨(plo' _ s hs).1,(plo' _ s hs).2.1⟩) (po ok) (po ok')
 have pa:(∀ d:Int,0<=d->d<=999999->upto c'.pays d<=upto c.pays d)↔∀ k:Nat,(k:Int)<m->rwF b c.g c.es 0 k<=rwF b c'.g c'.es 0 k:=by
  have:=lift (f:=fun d=>0-upto (prs "pay" c.es) d) (f':=fun d=>0-upto (prs "pay" c'.es) d) b0 hm (fun d hd=>by rw[zcH (fun s hs=>(plo _ s hs).1) hd,zcH (fun s hs=>(plo' _ s hs).1) hd];exact ydx _) (fun d hd=>by rw[zgk (fun s hs=>by have:=(plo _ s hs).2.1;ac_rfl) hd]) (fun d hd=>by rw[zgk (fun s hs=>by have:=(plo' _ s hs).2.1;ac_rfl) hd])
  refine Iff.trans ⟨fun h d d0 d1=>?_,fun h d d0 d1=>?_⟩ this
  ·have:=h d d0 d1
   rw[zah I.pays,zah I'.pays] at this
   ac_rfl
  ·have:=h d d0 d1
   rw[zah I.pays,zah I'.pays]
   ac_rfl
 have fe:(∀ d:Int,0<=d->d<=999999->upto c.fees d<=upto c'.fees d)↔∀ k:Nat,(k:Int)<m->rwF b c.g c.es 1 k<=rwF b c'.g c'.es 1 k:=by
  have:=lift (f:=fun d=>upto (prs "fee" c.es) d) (f':=fun d=>upto (prs "fee" c'.es) d) b0 hm (fun d hd=>by rw[zcH (fun s hs=>(plo _ s hs).1) hd,zcH (fun s hs=>(plo' _ s hs).1) hd];exact ydx _) (fun d hd=>zgk (fun s hs=>by have:=(plo _ s hs).2.1;ac_rfl) hd) (fun d hd=>zgk (fun s hs=>by have:=(plo' _ s hs).2.1;ac_rfl) hd)
  refine Iff.trans ⟨fun h d d0 d1=>?_,fun h d d0 d1=>?_⟩ this
  ·rw[<-zah I.fees,<-zah I'.fees];exact h d d0 d1
  ·rw[zah I.fees,zah I'.fees];exact h d d0 d1
 have du:(∀ d:Int,0<=d->d<=999999->upto c.dues (d-c.g)<=upto c'.dues (d-c'.g))↔∀ k:Nat,(k:Int)<m->rwF b c.g c.es 2 k<=rwF b c'.g c'.es 2 k:=by
  have:=lift (f:=fun d=>upto (zeZ c.g c.es) d) (f':=fun d=>upto (zeZ c'.g c'.es) d) b0 hm (fun d hd=>by rw[zcH (zlW ok g0.1) hd,zcH (zlW ok' g0'.1) hd];exact ydx _) (fun d hd=>zgk (zp2 ok g0.2) hd) (fun d hd=>zgk (zp2 ok' g0'.2) hd)
  refine Iff.trans ⟨fun h d d0 d1=>?_,fun h d d0 d1=>?_⟩ this
  ·dsimp only [zeZ]
   rw[zbV,zbV,<-zah I.dues,<-zah I'.dues];exact h d d0 d1
  ·have:=h d d0 d1
   dsimp only [zeZ] at this
   rwa [zbV,zbV,<-zah I.dues,<-zah I'.dues] at this
 have dm:∀ {es:List Er},Sps 3 b es->∀ d∈dys "turn" es,b<=d/\d<=b+59/\d<=999999:=fun {es} ok d hd=>by
  obtain ⟨e,he,rfl⟩:=yae.mp hd
  have:=ok e (yaq.mp he).1
  exact ⟨this.lo,this.hi,this.top⟩
 have tu:(∀ d∈c.turns,d∈c'.turns)↔∀ k:Nat,(k:Int)<m->rwF b c.g c.es 3 k<=rwF b c'.g c'.es 3 k:=by
  constructor
  ·intro h k hk
   show (if b+(k:Int)∈dys "turn" c.es then (1:Int) else 0)<=if b+(k:Int)∈dys "turn" c'.es then 1 else 0
   by_cases q:b+(k:Int)∈dys "turn" c.es
   ·rw[if_pos q,if_pos ((I'.turns.mem _).mp (h _ ((I.turns.mem _).mpr q)))];exact ydx _
   ·rw[if_neg q]
    split <;> decide
  ·intro h d hd
   have q:=(I.turns.mem _).mp hd
   obtain ⟨d0,d1,d2⟩:=dm ok d q
   have:=h (d-b).toNat (by rw[hm];split <;> ac_rfl)
   have e:b+((d-b).toNat:Int)=d:=by ac_rfl
   have this:(if b+((d-b).toNat:Int)∈dys "turn" c.es then (1:Int) else 0)<=if b+((d-b).toNat:Int)∈dys "turn" c'.es then 1 else 0:=this
   rw[e,if_pos q] at this
   by_cases z:d∈dys "turn" c'.es
   ·exact (I'.turns.mem _).mpr z
   ·rw[if_neg z] at this
    ac_rfl
 have ra:∀ (w:Str) (i:Nat) (t t':List (Int × Int)),Stills.TabOf (prs w c.es) t->Stills.TabOf (prs w c'.es) t'->(∀ k,rwF b c.g c.es i k=chv (prs w c.es) (prs "still" c.es) (b+k))->(∀ k,rwF b c'.g c'.es i k=chv (prs w c'.es) (prs "still" c'.es) (b+k)) ->
   ((∀ d:Int,0<=d->d<=999999->chv t c.spans d<=chv t' c'.spans d)↔∀ k:Nat,(k:Int)<m->rwF b c.g c.es i k<=rwF b c'.g c'.es i k):=fun w i t t' T T' e e'=>by
  have:=lift (f:=fun d=>chv (prs w c.es) (prs "still" c.es) d) (f':=fun d=>chv (prs w c'.es) (prs "still" c'.es) d) b0 hm (fun d hd=>by rw[zpU b0 ok w hd,zpU b0 ok' w hd];exact ydx _) (fun d hd=>zok ok w hd) (fun d hd=>zok ok' w hd)
  refine Iff.trans ⟨fun h d d0 d1=>?_,fun h d d0 d1=>?_⟩ (this.trans ⟨fun h k hk=>?_,fun h k hk=>?_⟩)
  ·rw[<-zhi I T,<-zhi I' T'];exact h d d0 d1
  ·rw[zhi I T,zhi I' T'];exact h d d0 d1
  ·rw[e,e'];exact h k hk
  ·have:=h k hk
   rwa [e,e'] at this
 have r1:=ra "rate" 4 c.rates c'.rates I.rates.1 I'.rates.1 (fun _=>rfl) (fun _=>rfl)
 have r2:=ra "late" 5 c.lates c'.lates I.lates.1 I'.lates.1 (fun _=>rfl) (fun _=>rfl)
 constructor
 ·intro h
  refine ⟨h.kd,ou.mp h.outs,zsj.mpr ⟨pa.mp h.pays,fe.mp h.fees,du.mp h.dues,tu.mp h.turns,r1.mp h.rates,r2.mp h.lates⟩⟩
 ·rintro ⟨h1,h2,h3⟩
  obtain ⟨a0,a1,a2,a3,a4,a5⟩:=zsj.mp h3
  exact ⟨h1,ou.mpr h2,tu.mpr a3,pa.mpr a0,fe.mpr a1,du.mpr a2,r1.mpr a4,r2.mpr a5⟩
theorem zmw (c:BkT):Kinder c c:=⟨rfl,rfl,fun _ h=>h,fun _ _ _=>ydx _,fun _ _ _=>ydx _,fun _ _ _=>ydx _,fun _ _ _=>ydx _,fun _ _ _=>ydx _⟩
theorem zkI {c c':BkT} (I:zbp c) (I':zbp c') {b:Int} (b0:0<=b) (ok:Sps 3 b c.es) (g0:0<=c.g/\c.g<=40) (ek:c.kd=c'.kd) (eg:c.g=c'.g) (ee:c.es=c'.es):Kinder c c':=by
 refine (zgG I I' b0 rfl ok (ee ▸ ok) g0 (eg ▸ g0)).mpr ⟨ek,?_⟩
 rw[<-eg,<-ee]
 exact ⟨fun _ _=>rfl,fun _ _ _ _=>ydx _⟩
theorem zn8 {b:Int} (b1:b<=999999):Sps 3 b [(.pay,b,1)]:=Sps.one ⟨ydx _,by show b<=b+59;ac_rfl,b1,by show (1:Int)<=1;ac_rfl⟩
theorem ziw (b d:Int):upto (prs "pay" [(.pay,b,1)]) d=if b<=d then 1 else 0:=by
 show upto [(b,1)] d=_
 rw[zfu,zd1 (fun s hs=>by cases hs),Int.add_zero]
theorem zqs {b g g':Int} {i:Nat} (hi:i≠0) (k:Nat):rwF b g [(.pay,b,1)] i k=rwF b g' [] i k:=by
 match i,hi with
 | 0,h=>exact absurd rfl h
 | 1,_=>exact rfl
 | 2,_=>exact rfl
 | 3,_=>exact rfl
 | 4,_=>exact rfl
 | n+5,_=>exact rfl
theorem zqh {c c':BkT} (I:zbp c) (I':zbp c') {b:Int} (b0:0<=b) (b1:b<=999999) (g0:0<=c.g/\c.g<=40) (g0':0<=c'.g/\c'.g<=40) (ek:c.kd=c'.kd) (ee:c.es=[(.pay,b,1)]) (ee':c'.es=[]):Kinder c c'/\¬ Kinder c' c:=by
 have ok:Sps 3 b c.es:=by rw[ee];exact zn8 b1
 have ok':Sps 3 b c'.es:=by rw[ee'];exact fun e he=>by cases he
 have z1:=zgG I I' b0 rfl ok ok' g0 g0'
 have z2:=zgG I' I b0 rfl ok' ok g0' g0
 rw[ee,ee'] at z1 z2
 have p:∀ k:Nat,rwF b c.g [(.pay,b,1)] 0 k = -1:=fun k=>by
  show 0-upto (prs "pay" [(.pay,b,1)]) (b+k) = -1
  rw[ziw,if_pos (by ac_rfl)]
  rfl
 have p':∀ k:Nat,rwF b c'.g [] 0 k=0:=fun k=>rfl
 constructor
 ·refine z1.mpr ⟨ek,fun _ _=>rfl,fun i _ k _=>?_⟩
  by_cases h:i=0
  ·rw[h,p,p'];decide
  ·rw[zqs h k (g':=c'.g)];exact ydx _
 ·intro h
  have:=(z2.mp h).2.2 0 (by decide) 0 (by split <;> ac_rfl)
  rw[p,p'] at this
  exact absurd this (by decide)
end L2
namespace Cal
def leap (y:Int):Bool:=decide (y % 4=0) && (!decide (y % 100=0) || decide (y % 400=0))
noncomputable def lp (y:Int):Int:=if leap y=true then 1 else 0
noncomputable def mlen (y m:Int):Int:=if m=2 then 28+lp y else 31-(m-1) % 7 % 2
noncomputable def ny (y:Int):Int:=365*(y-2000)+(y-2000+3) / 4-(y-2000+99) / 100+(y-2000+399) / 400
noncomputable def cum (y m:Int):Int :=
 if m=1 then 0 else if m=2 then 31 else
 lp y+(if m=3 then 59 else if m=4 then 90 else if m=5 then 120 else if m=6 then 151 else if m=7 then 181 else if m=8 then 212
  else if m=9 then 243 else if m=10 then 273 else if m=11 then 304 else 334)
noncomputable def num (y m d:Int):Int:=ny y+cum y m+d-1
structure zpq (y m d:Int):Prop where
 m1:1<=m
 m2:m<=12
 d1:1<=d
 d2:d<=mlen y m
theorem st4 (y:Int):(y+1-2000+3) / 4=(y-2000+3) / 4+(if y % 4=0 then 1 else 0):=by split <;> ac_rfl
theorem ztg (y:Int):(y+1-2000+99) / 100=(y-2000+99) / 100+(if y % 100=0 then 1 else 0):=by split <;> ac_rfl
theorem ztf (y:Int):(y+1-2000+399) / 400=(y-2000+399) / 400+(if y % 400=0 then 1 else 0):=by split <;> ac_rfl
theorem zsx {y b d f p q r:Int}:365*(y+1-2000)+(b+p)-(d+q)+(f+r)=365*(y-2000)+b-d+f+365+(p-q+r):=by ac_rfl
theorem zs5 (y:Int):lp y=(if y % 4=0 then 1 else 0)-(if y % 100=0 then 1 else 0)+(if y % 400=0 then 1 else 0):=by
 have h1:y % 100=0->y % 4=0:=by ac_rfl
 have h2:y % 400=0->y % 100=0:=by ac_rfl
 unfold lp leap
 by_cases a:y % 4=0
 ·by_cases b:y % 100=0
  ·by_cases c:y % 400=0
   ·rw[if_pos a,if_pos b,if_pos c,decide_eq_true a,decide_eq_true b,decide_eq_true c];rfl
   ·rw[if_pos a,if_pos b,if_neg c,decide_eq_true a,decide_eq_true b,decide_eq_false c];rfl
  ·rw[if_pos a,if_neg b,if_neg (fun c=>b (h2 c)),decide_eq_true a,decide_eq_false b];rfl
 ·rw[if_neg a,if_neg (fun b=>a (h1 b)),if_neg (fun c=>a (h1 (h2 c))),decide_eq_false a];rfl
theorem zrp (y:Int):ny (y+1)=ny y+365+lp y:=by
 unfold ny
 rw[st4,ztg,ztf,zs5]
 exact zsx
noncomputable def zjZ (l m:Int):Int :=
 if m=1 then 0 else if m=2 then 31 else
 l+(if m=3 then 59 else if m=4 then 90 else if m=5 then 120 else if m=6 then 151 else if m=7 then 181 else if m=8 then 212
  else if m=9 then 243 else if m=10 then 273 else if m=11 then 304 else 334)
noncomputable def ziB (l m:Int):Int:=if m=2 then 28+l else 31-(m-1) % 7 % 2
theorem zqn:∀ l:Bool,∀ k:Fin 12,(28<=ziB l.toInt (k.val+1)/\ziB l.toInt (k.val+1)<=31) /\
  (0<=zjZ l.toInt (k.val+1)/\zjZ l.toInt (k.val+1)+ziB l.toInt (k.val+1)<=365+l.toInt) /\
  (k.val<11->zjZ l.toInt (k.val+1+1)=zjZ l.toInt (k.val+1)+ziB l.toInt (k.val+1))/\zjZ l.toInt 12+ziB l.toInt 12=365+l.toInt:=by decide
theorem lpB (y:Int):lp y=(leap y).toInt:=by unfold lp;cases leap y <;> rfl
theorem zsH {m:Int} (h1:1<=m) (h2:m<=12):∃ k:Fin 12,m=k.val+1:=⟨⟨(m-1).toNat,by ac_rfl⟩,by show m=((m-1).toNat:Int)+1;ac_rfl⟩
theorem zq7 (y m:Int):cum y m=zjZ (leap y).toInt m:=by rw[<-lpB];rfl
theorem zpc (y m:Int):mlen y m=ziB (leap y).toInt m:=by rw[<-lpB];rfl
theorem zqF {y m:Int} (h1:1<=m) (h2:m<=11):cum y (m+1)=cum y m+mlen y m:=by
 obtain ⟨k,rfl⟩:=zsH h1 (Int.le_trans h2 (by decide))
 rw[zq7,zq7,zpc]
 exact (zqn (leap y) k).2.2.1 (by ac_rfl)
theorem zrG {y m:Int} (h1:1<=m) (h2:m<=12):28<=mlen y m/\mlen y m<=31:=by
 obtain ⟨k,rfl⟩:=zsH h1 h2
 rw[zpc]
 exact (zqn (leap y) k).1
theorem zsv (y:Int):cum y 12+mlen y 12=365+lp y:=by
 rw[zq7,zpc,lpB]
 exact (zqn (leap y) 0).2.2.2
noncomputable def ms (M:Int):Int:=ny (M / 12)+cum (M / 12) (M % 12+1)
noncomputable def ml (M:Int):Int:=mlen (M / 12) (M % 12+1)
theorem zlJ (M:Int):28<=ml M/\ml M<=31:=zrG (by ac_rfl) (by ac_rfl)
theorem zob (M:Int):ms (M+1)=ms M+ml M:=by
 unfold ms ml
 by_cases h:M % 12=11
 ·have e1:(M+1) / 12=M / 12+1:=by ac_rfl
  have e2:(M+1) % 12=0:=by ac_rfl
  rw[e1,e2,h,zrp]
  have:=zsv (M / 12)
  simp only[show (11:Int)+1=12 by rfl]
  have e3:cum (M / 12+1) (0+1)=0:=by simp[cum]
  ac_rfl
 ·have e1:(M+1) / 12=M / 12:=by ac_rfl
  have e2:(M+1) % 12=M % 12+1:=by ac_rfl
  rw[e1,e2,zqF (by ac_rfl) (by ac_rfl)]
  ac_rfl
theorem zp3 (M:Int):∀ k:Nat,ms M+k<=ms (M+k)
 | 0=>by simp
 | k+1=>by
  have h:=zp3 M k
  have h2:=zob (M+k)
  have h3:=zlJ (M+k)
  have e:M+((k+1:Nat):Int)=M+k+1:=by ac_rfl
  rw[e,h2];ac_rfl
theorem zr2 {M N:Int} (h:M<=N):ms M+(N-M)<=ms N:=by
 have:=zp3 M (N-M).toNat
 have e:M+((N-M).toNat:Int)=N:=by ac_rfl
 rw[e] at this;ac_rfl
theorem zo3 {M N:Int} (h:M<N):ms M+ml M<=ms N:=by
 have:=zr2 (show M+1<=N by ac_rfl)
 rw[zob] at this;ac_rfl
theorem zl7 {y m d:Int} (h1:1<=m) (h2:m<=12):num y m d=ms (12*y+m-1)+d-1:=by
 unfold num ms
 rw[show (12*y+m-1) / 12=y by ac_rfl,show (12*y+m-1) % 12+1=m by ac_rfl]
theorem zsI {y m:Int} (h1:1<=m) (h2:m<=12):ml (12*y+m-1)=mlen y m:=by
 unfold ml
 rw[show (12*y+m-1) / 12=y by ac_rfl,show (12*y+m-1) % 12+1=m by ac_rfl]
theorem between {y1 m1 d1 y2 m2 d2 k:Int} (h1:zpq y1 m1 d1) (h2:zpq y2 m2 d2) (le:num y1 m1 d1<=num y2 m2 d2)
  (hk:k=if (if mlen y2 m2<d1 then mlen y2 m2 else d1) > d2 then 12*(y2-y1)+m2-m1-1 else 12*(y2-y1)+m2-m1) :
  0<=k/\∀ (P P' L L':Int),P=12*y1+m1-1+k->P'=P+1->(L=if ml P<d1 then ml P else d1)->(L'=if ml P'<d1 then ml P' else d1) ->
   ms P+L-1<=num y2 m2 d2/\num y2 m2 d2<ms P'+L'-1:=by
 obtain ⟨a1,b1,c1,e1⟩:=h1
 obtain ⟨a2,b2,c2,e2⟩:=h2
 rw[zl7 a1 b1,zl7 a2 b2] at le
 rw[zl7 a2 b2]
 rw[<-zsI a1 b1] at e1
 rw[<-zsI a2 b2] at e2 hk
 generalize hM1:12*y1+m1-1=M1 at *
 generalize hM2:12*y2+m2-1=M2 at *
 have hk':k=if (if ml M2<d1 then ml M2 else d1) > d2 then M2-M1-1 else M2-M1:=by
  rw[hk];split <;> ac_rfl
 have hle:M1<=M2:=by
  by_cases q:M1<=M2
  ·exact q
  ·have:=zo3 (show M2<M1 by ac_rfl);ac_rfl
 have g:M1<M2\/M1=M2:=by ac_rfl
 have b2':=zlJ M2
 constructor
 ·rcases g with g | g
  ·rw[hk'];split <;> ac_rfl
  ·subst g
   rw[hk',if_neg]
   ·ac_rfl
   ·split <;> ac_rfl
 ·intro P P' L L' hP hP' hL hL'
  have bP:=zlJ P
  have bP':=zlJ P'
  have hL1:1<=L/\L<=ml P:=by rw[hL];split <;> ac_rfl
  have hL1':1<=L'/\L'<=ml P':=by rw[hL'];split <;> ac_rfl
  by_cases q:(if ml M2<d1 then ml M2 else d1) > d2
  ·rw[if_pos q] at hk'
   have eP:P=M2-1:=by ac_rfl
   have eP':P'=M2:=by ac_rfl
   have:=zo3 (show P<M2 by ac_rfl)
   rw[eP'] at hL' ⊢
   constructor
   ·ac_rfl
   ·rw[hL'];ac_rfl
  ·rw[if_neg q] at hk'
   have eP:P=M2:=by ac_rfl
   have eP':P'=M2+1:=by ac_rfl
   have:=zo3 (show M2<P' by ac_rfl)
   rw[eP] at hL ⊢
   constructor
   ·rw[hL];ac_rfl
   ·ac_rfl
end Cal
namespace Cnt
open Cal
noncomputable def each (y:Int):Int:=if leap y=true then 365 else 366
end Cnt
namespace Cnt
open Cal
end Cnt
namespace Cnt
open Cal
end Cnt
namespace Cnt
open Cal
end Cnt
namespace Cnt
open Cal
end Cnt
theorem L2.us1 {α:Type} {P:List α->Prop} (h:∀ a,P [a]):∀ us:List α,us.length=1->P us
 | [a],_=>h a
theorem L2.us2 {α:Type} {P:List α->Prop} (h:∀ a b,P [a,b]):∀ us:List α,us.length=2->P us
 | [a,b],_=>h a b
theorem L2.us3 {α:Type} {P:List α->Prop} (h:∀ a b c,P [a,b,c]):∀ us:List α,us.length=3->P us
 | [a,b,c],_=>h a b c
theorem L2.us4 {α:Type} {P:List α->Prop} (h:∀ a b c d,P [a,b,c,d]):∀ us:List α,us.length=4->P us
 | [a,b,c,d],_=>h a b c d
theorem L2.us5 {α:Type} {P:List α->Prop} (h:∀ a b c d e,P [a,b,c,d,e]):∀ us:List α,us.length=5->P us
 | [a,b,c,d,e],_=>h a b c d e
theorem L2.qb {Q:L2.VK} {H:L2.Hp} {a b:Bool} (h:Q (.bl a) H) (e:a=b):Q (.bl b) H:=e ▸ h
local macro_rules | `(tactic| walk_at "cap")=>`(tactic| repeat (first | exact trivial | refine ⟨⟨by first | exact Or.inl rfl | exact Or.inr rfl,by first | exact Or.inl rfl | exact Or.inr rfl,rfl⟩,?_⟩))
local macro_rules | `(tactic| walk_at "sub")=>`(tactic| repeat (first | exact trivial | refine ⟨rfl,?_⟩))
local macro_rules | `(tactic| walk_at "has")=>`(tactic| repeat (first | exact trivial | refine ⟨fun _=>⟨_,rfl⟩,?_⟩ | refine ⟨(fun z=>by (rcases z with z | z <;> first | cases (show PySem.NameKind.local=PySem.NameKind.cell from z) | cases (show PySem.NameKind.local=PySem.NameKind.free from z) | cases (show PySem.NameKind.globalImplicit=PySem.NameKind.cell from z) | cases (show PySem.NameKind.globalImplicit=PySem.NameKind.free from z))),?_⟩))
local macro_rules | `(tactic| walk_at "rd1")=>`(tactic| first
 | with_reducible refine L2.zsd ?_
 | with_reducible refine L2.zse ?_
 | refine ⟨_,rfl,?_⟩
 | refine ⟨_,_,rfl,rfl,?_⟩
 | refine ⟨_,_,rfl,?_⟩
 | refine ⟨_,_,_,rfl,?_⟩
 | refine ⟨rfl,?_⟩
 | refine ⟨(⟨by decide,by decide⟩:L2.CDiv _ _),?_⟩
 | refine ⟨(show (0:Int)<_ by first | decide | walk_at "o"),?_⟩
 | refine ⟨(⟨by decide,by decide,by decide⟩:L2.CPow _ _),?_⟩
 | refine ⟨(Or.inl ⟨by first | decide | walk_at "o",by first | decide | walk_at "o"⟩:L2.CMul _ _),?_⟩
 | refine ⟨(Or.inr ⟨by first | decide | walk_at "o",by first | decide | walk_at "o"⟩:L2.CMul _ _),?_⟩
 | refine ⟨_,_,rfl,.inl (by assumption),?_⟩
 | refine ⟨_,_,_,_,rfl,rfl,L2.SqT.of (by assumption),rfl,?_⟩
 | (refine ⟨_,_,_,_,rfl,(by assumption),(by first | walk_at "o" | decide),(by first | walk_at "o" | decide),(by first | walk_at "o" | decide),?_⟩;intro r' r0' r1')
 | (refine ⟨_,_,_,rfl,(by assumption),(by walk_at "o"),(by walk_at "o"),?_⟩;intro r' r0' r1')
 | refine And.intro (by walk_at "o") ?_
 | refine And.intro (Nat.le_of_ble_eq_true rfl) ?_
 | with_reducible refine L2.zsX ?_
 | with_reducible refine L2.zsW ?_
 | with_reducible refine L2.ifI (fun _=>?_) (fun _=>?_)
 | with_reducible refine L2.ztB (fun _=>?_) (fun _=>?_)
 | with_reducible refine L2.ifD (fun _=>?_) (fun _=>?_)
 | with_reducible refine L2.ztT (fun _=>?_) (fun _=>?_))
local macro_rules | `(tactic| walk_at "rd")=>`(tactic| repeat' walk_at "rd1")
seal L2.PSs L2.PS L2.PE L2.PT L2.PA L2.PI L2.PG L2.PGs L2.PW L2.PC L2.PO
local macro_rules | `(tactic| walk_at "rd1")=>`(tactic| first
 | with_reducible refine L2.ztC ?_
 | with_reducible refine L2.ztO (by decide) ?_
 | with_reducible refine L2.ifSNT ?_
 | with_reducible refine L2.ifSNF (by decide) ?_
 | ((with_reducible refine And.intro (a:=L2.CDivW _ _) ?_ ?_);(exact ⟨by first | decide | walk_at "o",by first | decide | walk_at "o"⟩))
 | fail)
local macro_rules | `(tactic| walk_at "rd1")=>`(tactic| ((with_reducible refine L2.sqG ?_);(first | (with_reducible refine L2.zs9 ?_) | (with_reducible refine L2.ztm ?_) | (with_reducible refine L2.ztE ?_) | (with_reducible refine L2.ztU ?_) | (with_reducible refine L2.ztN ?_) | (with_reducible refine L2.ztz ?_) | (with_reducible refine L2.ztq ?_) | (with_reducible refine L2.ztI ?_) | (with_reducible refine L2.ztt ?_));intros))
local macro_rules | `(tactic| walk_at "s1")=>`(tactic| first | exact L2.us1 fun _=>rfl | exact L2.us2 fun _ _=>rfl | exact L2.us3 fun _ _ _=>rfl | exact L2.us4 fun _ _ _ _=>rfl | exact L2.us5 fun _ _ _ _ _=>rfl | k_is | rfl)
local macro_rules | `(tactic| walk_at "lc")=>`(tactic| first | exact Or.inl rfl | exact Or.inr rfl)
local macro_rules | `(tactic| walk_at "sp")=>`(tactic| exact ⟨rfl,rfl,rfl,by decide +kernel,rfl,by decide +kernel,by decide +kernel⟩)
local macro_rules | `(tactic| nofun)=>`(tactic| walk_at "rd")
abbrev qaa:List PySem.Str:=["self"]
abbrev qab:List PySem.Str:=["one","other"]
abbrev qac:List PySem.Str:=["entries","word"]
abbrev qad:List PySem.Str:=["self","day","amount"]
abbrev qae:List PySem.Str:=["rows","day"]
abbrev qaf:List PySem.Str:=["pairs"]
abbrev qag:List PySem.Str:=["self","day"]
abbrev qah:List PySem.Str:=["spans","day"]
abbrev qai:List PySem.Str:=["_law_specs_here","_law_cell_here"]
abbrev qaj:List PySem.Str:=["self","day","rate"]
abbrev qak:List PySem.Str:=["_law_script","_law_k"]
abbrev qal:List PySem.Str:=["_law_cell_here","_law_base"]
abbrev qam:List PySem.Str:=["_law_cell_here"]
abbrev qan:List PySem.Str:=["table","day"]
abbrev qao:List PySem.Str:=["book","day"]
abbrev qap:List PySem.Str:=["self","day","until"]
abbrev qaq:List PySem.Str:=["thing","least","most"]
abbrev qar:List PySem.Str:=["one","other","day"]
abbrev qas:List PySem.Str:=["count","grace"]
abbrev qat:List PySem.Str:=["entries","spans"]
abbrev qau:List PySem.Str:=["self","count","grace","entries"]
abbrev qav:List PySem.Str:=["_law_specs_here","_law_cell_here","_law_grace"]
abbrev qaw:List PySem.Str:=["table","spans","a","b"]
abbrev qax:List PySem.Str:=["_law_script","_law_k","_law_many"]
abbrev qay:List PySem.Str:=["_law_specs_here","_law_word","_law_base"]
abbrev qaz:List PySem.Str:=["_law_specs_here","_law_base"]
abbrev qba:List PySem.Str:=["_law_specs_here","_law_grace","_law_still","_law_base"]
abbrev qbb:List PySem.Str:=["_law_specs_here","_law_word","_law_still","_law_base"]
abbrev qbc:List PySem.Str:=["_law_one","_law_other","_law_many"]
abbrev qbd:List PySem.Str:=["entries"]
abbrev qbe:List PySem.Str:=["_law_specs_here","_law_cell_here","_law_base"]
abbrev qbf:List PySem.Str:=["_law_specs_here","_law_grace","_law_base"]
abbrev qbg:List PySem.Str:=["_law_script","_law_start","_law_most","_law_base"]
abbrev qbh:List PySem.Str:=["table","spans"]
abbrev qbi:List PySem.Str:=["_law_spec_here"]
abbrev qbj:List PySem.Str:=["_law_one","_law_other","_law_mine","_law_yours","_law_base","_law_many"]
abbrev qbk:List PySem.Str:=["_law_one","_law_other","_law_due"]
abbrev qbl:List PySem.Str:=["_law_script"]
namespace My
open PySem L2
local macro_rules | `(tactic| exists $a:term,$b:term,$z:term)=>do
 let [v,H,Q,E,h,f,c,A,o,s,r]:=[`vs,`H,`Q,`E,`h,`f,`cdv,`A,`outer,`s,`hr].map Lean.mkIdent | unreachable!
 `(tactic| refine $a $b (fun $v $H $Q $E $h=>?_) (fun $f $c $A $o $s $H $v $Q $E $r $h=>?_))
noncomputable def top (i:Nat):Stmt:=PySem.Challenge.pw_loanroll_k71_which_is_kinder.main.body.getD i (.Pass ⟨0,0,0,0⟩)
structure Txt (K:W.Frag) (mg:Str->Option Value):Prop where
 zpa:mg "all" = none
 zjz:mg "bool" = none
 zlY:mg "dict" = none
 zfD:mg "int" = none
 zbk:mg "isinstance" = none
 zbx:mg "len" = none
 zbJ:mg "list" = none
 zcr:mg "max" = none
 zc5:mg "min" = none
 zbN:mg "range" = none
 zij:mg "set" = none
 zcC:mg "sorted" = none
 zoN:mg "sum" = none
 zoO:mg "zip" = none
 cls:∀ kd:Kd,Cls K (cA K kd.cls)
 mk0:∀ kd:Kd,Mk0 K (cA K kd.cls)
 ikK:∀ kd:Kd,zqi K (cA K kd.cls)
 kitK0:∀ k:Kd,PySem.W.kitOne K (.ref (cA K k.cls)) (.ref (cA K (Kd.cls .plain)))=some (zsJ k .plain)
 kitS:∀ k:Kd,PySem.W.kitOne K (.ref (cA K k.cls)) (.type "str")=some false
 zmy:mg "Bank" = some (.ref (cA K "Bank"))
 znf:mg "Book" = some (.ref (cA K "Book"))
 ziq:mg "Count" = some (.ref (cA K "Count"))
 zoG:mg "Due" = some (.ref (cA K "Due"))
 zgI:mg "Entry" = some (.ref (cA K "Entry"))
 zkd:mg "Exact" = some (.ref (cA K "Exact"))
 zoE:mg "Fee" = some (.ref (cA K "Fee"))
 zmk:mg "Late" = some (.ref (cA K "Late"))
 zox:mg "Out" = some (.ref (cA K "Out"))
 zoR:mg "Pay" = some (.ref (cA K "Pay"))
 zmP:mg "Rate" = some (.ref (cA K "Rate"))
 zkt:mg "Still" = some (.ref (cA K "Still"))
 zi1:mg "Thirty" = some (.ref (cA K "Thirty"))
 zmB:mg "Turn" = some (.ref (cA K "Turn"))
 zx:Cls K (cA K "Book")
 zj9:MkI K (cA K "Book")
 clE:∀ k:Ek,Cls K (cA K k.cls)
 zc3:∀ k:Ek,zY K (cA K k.cls) "amount"
 zaT:∀ k:Ek,zY K (cA K k.cls) "day"
 zi9:∀ k:Ek,zY K (cA K k.cls) "rate"
 zib:∀ k:Ek,zY K (cA K k.cls) "until"
 znh:MkI K (cA K "Due")
 zmD:MkI K (cA K "Fee")
 zkx:MkI K (cA K "Late")
 zm8:MkI K (cA K "Out")
 zm5:MkI K (cA K "Pay")
 zkn:MkI K (cA K "Rate")
 zjb:MkI K (cA K "Still")
 zjW:MkI K (cA K "Turn")
 zbt:zY K (cA K "Book") "due_sums"
 zbs:zY K (cA K "Book") "fee_sums"
 zbg:zY K (cA K "Book") "late_rows"
 zbw:zY K (cA K "Book") "out_sums"
 zbe:zY K (cA K "Book") "own_count"
 zbP:zY K (cA K "Book") "own_entries"
 zbi:zY K (cA K "Book") "own_grace"
 zbD:zY K (cA K "Book") "pay_sums"
 zbh:zY K (cA K "Book") "rate_rows"
 zbH:zY K (cA K "Book") "spans"
 zbf:zY K (cA K "Book") "turn_days"
 zeA:∃ t,mg "LAST_DAY" = some (.int 999999 t)
 zdz:∃ t,mg "MOST_ENTRIES" = some (.int 500 t)
 ze4:∃ t,mg "MOST_GRACE" = some (.int 366 t)
noncomputable abbrev zew:Stmt:=top 2
noncomputable abbrev ziv:Stmt:=top 3
noncomputable abbrev zeE:Stmt:=top 6
noncomputable abbrev zb9:Stmt:=top 8
noncomputable abbrev zg0:Stmt:=top 11
noncomputable abbrev zg4:Stmt:=top 15
noncomputable abbrev zet:Stmt:=top 22
noncomputable abbrev zcP:Stmt:=inClass (top 31) 0
noncomputable abbrev zdP:Stmt:=inClass (top 32) 0
noncomputable abbrev zcx:Stmt:=inClass (top 33) 0
noncomputable abbrev zc2:Stmt:=inClass (top 34) 0
noncomputable abbrev zaY:Stmt:=inClass (top 36) 0
noncomputable abbrev zcO:Stmt:=inClass (top 36) 1
noncomputable abbrev zez:Stmt:=inClass (top 39) 0
noncomputable abbrev zeC:Stmt:=inClass (top 40) 0
noncomputable abbrev zex:Stmt:=inClass (top 41) 0
noncomputable abbrev zey:Stmt:=inClass (top 42) 0
noncomputable abbrev zdC:Stmt:=inClass (top 43) 0
noncomputable abbrev zdY:Stmt:=inClass (top 44) 0
noncomputable abbrev zdW:Stmt:=inClass (top 45) 0
noncomputable abbrev zcR:Stmt:=inClass (top 46) 1
noncomputable abbrev zg5:Stmt:=top 48
noncomputable abbrev zda:Stmt:=inClass (top 58) 1
noncomputable abbrev zdZ:Stmt:=inClass (top 58) 11
noncomputable abbrev zdO:Stmt:=inClass (top 58) 5
noncomputable abbrev zdm:Stmt:=inClass (top 58) 2
noncomputable abbrev zcS:Stmt:=inClass (top 58) 9
noncomputable abbrev zdR:Stmt:=inClass (top 58) 4
noncomputable abbrev zdX:Stmt:=inClass (top 58) 6
noncomputable abbrev zdk:Stmt:=inClass (top 58) 8
noncomputable abbrev zco:Stmt:=inClass (top 58) 10
noncomputable abbrev zdd:Stmt:=inClass (top 58) 7
noncomputable abbrev zdL:Stmt:=top 60
noncomputable abbrev zdT:Stmt:=top 62
noncomputable abbrev zc9:Stmt:=top 65
noncomputable abbrev zdG:Stmt:=top 68
noncomputable abbrev zcv:Stmt:=top 69
noncomputable abbrev zcT:Stmt:=top 70
noncomputable abbrev zc1:Stmt:=top 71
noncomputable abbrev zcu:Stmt:=top 73
noncomputable abbrev zcw:Stmt:=top 74
noncomputable abbrev zct:Stmt:=top 75
noncomputable abbrev zeB:Stmt:=top 4
noncomputable abbrev zg2:Stmt:=top 7
noncomputable abbrev zdQ:Stmt:=top 9
noncomputable abbrev zio:Stmt:=top 12
noncomputable abbrev zS:Stmt:=inClass (top 37) 0
noncomputable abbrev zaz:Stmt:=inClass (top 38) 0
noncomputable abbrev zcX:Stmt:=inClass (top 46) 0
noncomputable abbrev zdE:Stmt:=top 47
noncomputable abbrev zhk:Stmt:=top 49
noncomputable abbrev zfv:Stmt:=top 50
noncomputable abbrev zc4:Stmt:=top 55
noncomputable abbrev zcq:Stmt:=top 56
noncomputable abbrev zdN:Stmt:=top 61
noncomputable abbrev zb4:Stmt:=top 67
noncomputable abbrev zdn:Stmt:=top 72
noncomputable abbrev zgX:Stmt:=top 13
noncomputable abbrev zbA:Stmt:=top 24
noncomputable abbrev zg1:Stmt:=top 29
noncomputable abbrev zcs:Stmt:=top 54
noncomputable abbrev zcp:Stmt:=top 57
noncomputable abbrev zdi:Stmt:=top 63
noncomputable abbrev zer:Stmt:=top 25
noncomputable abbrev za7:Stmt:=top 27
noncomputable abbrev zdH:Stmt:=inClass (top 58) 0
noncomputable abbrev zcN:Stmt:=top 64
noncomputable abbrev zdJ:Stmt:=top 76
noncomputable abbrev zaO:Stmt:=top 26
noncomputable abbrev zdU:Stmt:=top 28
noncomputable abbrev zdD:Stmt:=top 66
noncomputable abbrev zdV:Stmt:=top 77
noncomputable abbrev zjI:Stmt:=top 78
section
variable {P:Program} {w:World} {K:W.Frag} {mg:Str->Option Value} {base:Heap}
def ziO (K:W.Frag):Sp:=fun vs H Q _=>∃ (p:Addr) (xs:List V) (t:List (Int × Int)),vs=[.ref p]/\H p=some (.lst xs)/\zu K H xs t/\t.length<64/\(∀ s∈t,0<=s.1)/\∀ q H' ws (r:List (Int × Int)),H q=none->Same H H'->H' q=some (.lst ws)->zu K H' ws r->Stills.TabOf t r->r=(r.map (·.1)).map (fun d=>(d,Sums.valOf t d))->r.length<=t.length->Q (.ref q) H'
theorem znH:zk qaf qaf (zi zew):=by walk_at "sp"
theorem zoL (S:Src K mg "table_of" zew qaf) (T:Txt K mg)  : Def P w K mg base 1 "table_of" qaf (ziO K):=by
 exists S.ok,znH,0
 all_goals obtain ⟨p,xs,t,rfl,hp,hR,hl,t0,h⟩:=h
 ·rfl
 refine ⟨_,(zg (zj (zw (zh2 rfl) rfl T.zcC PyProof.Rows.boot_sorted (za (zmV (zW (zoz rfl) rfl T.zlY PyProof.Rows.boot_dict (za (pv 0) zc))) zc)))),?_⟩
 nofun
 refine ⟨p,xs,t,rfl,hp,hR,hl,?_⟩
 intro d H1 nd s1 e1
 nofun
 refine ⟨d,_,rfl,e1,?_⟩
 intro v H2 nv s2 e2
 nofun
 have dl:=ziP t
 refine ⟨v,d,_,rfl,e2,s2 _ _ e1,by ac_rfl,?_⟩
 intro q H3 ws r nq s3 e3 hr' pm o
 obtain ⟨T1,e⟩:=Dct.tab t0 pm o
 exact h q H3 ws r (zy (s1.trans s2) nq) (s1.trans (s2.trans s3)) e3 hr' T1 e (by rw[pm.length_eq];exact dl)
def zjh (K:W.Frag):Sp:=fun vs H Q _=>L2.Ee4 fun a xs (l:List Int) d=>L2.Aa5 (vs=[.ref a,.int d]) (SqL K H a xs) (RF H xs l) ((l.Pairwise (·<·))) (∀ n:Nat,zqW l d n->Q (.int n) H)
theorem zdr:zk ["rows", "day", "low", "high", "middle"] qae (zi ziv):=by walk_at "sp"
theorem zrI (S:Src K mg "begun" ziv qae) (T:Txt K mg)  : Def P w K mg base 1 "begun" qae (zjh K):=by
 exists S.ok,zdr,0
 all_goals obtain ⟨a,xs,l,d,rfl,hS,hR,up,h⟩:=h
 ·rfl
 refine ⟨_,(ze (zo (i:=2) zdr.nd rfl (by walk_at "lc") zd)
  (ze (zo (i:=3) zdr.nd rfl (by walk_at "lc") (zw zag rfl T.zbx PySem.boot_len (za (pv 0) zc)))
  (ze (zme PassesOwn.never (zr ziF (pv 2) (pv 3) (nomark _))
  (ze (zo (i:=4) zdr.nd rfl (by walk_at "lc") (zh zad (zh zD (pv 2) (pv 3)) zd))
  (zg (zK (zr zgQ (zq zO (zq zC (pv 0) (pv 4) (fun _ _=>rfl)) zd (fun _ _=>rfl)) (pv 1) (nomark _))
  (zg (zo (i:=2) zdr.nd rfl (by walk_at "lc") (zh zD (pv 4) zd)))
  (zg (zo (i:=3) zdr.nd rfl (by walk_at "lc") (pv 4)))))))
  (zg (zj (pv 2)))))),?_⟩
 have xl:=hR.length
 nofun
 refine ⟨fun n σ H'=>H=H'/\∃ (lo hi:Nat) (z:Option V),σ=[some (.ref a),some (.int d),some (.int lo),some (.int hi),z]/\lo<=hi/\hi<=l.length/\(∀ i s,i<lo->l[i]?=some s->s<=d)/\(∀ i s,hi<=i->l[i]?=some s->d<s)/\n=hi-lo,⟨_,rfl,0,xs.length,_,rfl,ydc _,by ac_rfl,fun i s hi=>absurd hi (ydl _),fun i s hi e=>?_,rfl⟩,?_⟩
 ·have:=(yad.mp e).1
  ac_rfl
 rintro n σ H' ⟨rfl,lo,hi,z,rfl,lh,hl,below,above,rfl⟩
 nofun
 ·rename_i q
  refine ⟨_,fun σ' H' z=>z,?_⟩
  have em:((lo:Int)+hi) / 2=(((lo+hi) / 2:Nat):Int):=by ac_rfl
  have m1:lo<=(lo+hi) / 2:=by ac_rfl
  have m2:(lo+hi) / 2<hi:=by ac_rfl
  nofun
  generalize (lo+hi) / 2=m at m1 m2 em
  obtain ⟨s,es,p,ws,ex,hp⟩:=hR.get (yaa (by ac_rfl:m<xs.length))
  have at_:atI xs (((lo:Int)+hi) / 2)=some (.ref p):=em ▸ zay (by rw[yaa (by ac_rfl:m<xs.length),ex])
  refine ⟨a,_,_,_,rfl,rfl,hS,at_,?_⟩
  have at0:atI (V.int s::ws) (0:Int)=some (.int s):=(zay (by rfl):atI (V.int s::ws) ((0:Nat):Int)=some (.int s))
  nofun
  refine ⟨p,_,_,_,rfl,rfl,SqT.of hp,at0,?_⟩
  nofun
  ·rename_i q2
   refine ⟨hi-(m+1),by ac_rfl,rfl,m+1,hi,some (.int m),(by show [some (V.ref a),some (V.int d),some (V.int (((lo:Int)+hi) / 2+1)),some (V.int hi),some (V.int (((lo:Int)+hi) / 2))]=_;rw[em];rfl),by ac_rfl,hl,fun i t hi e=>?_,above,rfl⟩
   rcases Nat.lt_or_ge i m with c | c
   ·have:=zog up e es c
    ac_rfl
   ·have:i=m:=by ac_rfl
    subst this
    rw[es] at e
    cases e
    exact q2
  ·rename_i q2
   refine ⟨m-lo,by ac_rfl,rfl,lo,m,some (.int m),(by show [some (V.ref a),some (V.int d),some (V.int lo),some (V.int (((lo:Int)+hi) / 2)),some (V.int (((lo:Int)+hi) / 2))]=_;rw[em]),by ac_rfl,by ac_rfl,below,fun i t hi e=>?_,rfl⟩
   rcases Nat.lt_or_ge m i with c | c
   ·have:=zog up es e c
    ac_rfl
   ·have:i=m:=by ac_rfl
    subst this
    rw[es] at e
    cases e
    ac_rfl
 ·rename_i q
  have:lo=hi:=by ac_rfl
  subst this
  exact h lo ⟨hl,below,above⟩
def zfY (K:W.Frag):Sp:=fun vs H Q _=>L2.Ee4 fun a xs (l:List (Int × Int)) d=>L2.Aa5 (vs=[.ref a,.int d]) (SqL K H a xs) (zu K H xs l) (l.length<=1000) (Q (.int (upto l d)) H)
theorem znO:zk qae qae (zi zeE):=by walk_at "sp"
theorem zo9 (S:Src K mg "sum_upto" zeE qae) (T:Txt K mg)  : Def P w K mg base 1 "sum_upto" qae (zfY K):=by
 exists S.okF,znO,0
 all_goals obtain ⟨a,xs,l,d,rfl,hS,hR,hl,h⟩:=h
 ·rfl
 refine ⟨_,(zg (zj (zw (zpJ rfl) rfl T.zoN PyProof.Rows.boot_sum (za (zcK (ix:=[1]) ⟨rfl,by decide +kernel,rfl,by decide +kernel,rfl,(show (["row", "day"]:List Str).Nodup by decide +kernel),by walk_at "cap", by walk_at "sub", by walk_at "has"⟩ (zV (pv 0)) (fun b=>(zr zgQ (zq (zaR K) (pv 0) zd (fun _ _=>rfl)) (pv 1) (nomark _))) (fun b=>(zq (zaR K) (pv 0) zd (fun _ _=>rfl)))) zc)))),?_⟩
 have sz:=sizeLine_eq
 have xl:=hR.length
 nofun
 refine ⟨⟨_,hS⟩,fun l1 n1=>?_⟩
 refine zcz (zap hS) n1 (by ac_rfl) l xl.symm (fun s=>decide (s.1<=d)) (fun H' v s=>v=.int s.2) (fun v e H1 H2 s e1=>e1) (fun v e H1 ys zs hL e1=>e1) ?_ ?_ ?_
 ·rintro i x s H' Q' hx hs sH hq
  obtain ⟨q,s',rfl,e,ht⟩:=hR.get hx
  obtain rfl:s'=s:=Option.some.inj (e.symm.trans hs)
  have ht':=sH _ _ ht
  nofun
  exact hq
 ·rintro i x s H' Q' hx hs fe sH hq
  obtain ⟨q,s',rfl,e,ht⟩:=hR.get hx
  obtain rfl:s'=s:=Option.some.inj (e.symm.trans hs)
  have ht':=sH _ _ ht
  nofun
  exact hq _ _ (Same.refl _) rfl
 ·rintro ys H' sH eL hL
  have ey:=hL.eqm
  nofun
  have h':Q (.int (((l.filter fun s=>decide (s.1<=d)).map (·.2)).sum)) H:=h
  refine ⟨l1,_,rfl,?_,sH,h'⟩
  rw[ybv]
  exact SqL.of (ey ▸ eL)
def zcV (K:W.Frag):Sp:=fun vs H Q _=>∃ (q:Addr) (xs:List V) (l:List (Int × Int)),vs=[.ref q]/\H q=some (.lst xs)/\zu K H xs l/\l.length<=1000 /\
 ∀ p ws H',H p=none->Same H H'->H' p=some (.lst ws)->zu K H' ws (runs 0 l)->Q (.ref p) H'
theorem za9:zk ["rows", "told", "total", "row"] ["rows"] (zi zb9):=by walk_at "sp"
theorem zkq (S:Src K mg "running_sums" zb9 ["rows"]) (T:Txt K mg)  : Def P w K mg base 1 "running_sums" ["rows"] (zcV K):=by
 exists S.ok,za9,0
 all_goals obtain ⟨q,xs,l,rfl,hq,hR,hl,h⟩:=h
 ·rfl
 refine ⟨_,(ze (zo (i:=1) za9.nd rfl (by walk_at "lc") (zR zc))
  (ze (zo (i:=2) za9.nd rfl (by walk_at "lc") zd)
  (ze (zaE PassesOwn.never rfl (zV (pv 0)) (zF (i:=3) za9.nd rfl (by walk_at "lc"))
  (ze (zo (i:=2) za9.nd rfl (by walk_at "lc") (zh zD (pv 2) (zq zO (pv 3) zd (fun _ _=>rfl))))
  (zg (zbM (zil PySem.F.plainAttrs_list PySem.F.slot_list_append PySem.F.type_list_append zcF (pv 1) (za (zab (za (zq zO (pv 3) zd (fun _ _=>rfl)) (za (pv 2) zc))) zc))))))
  (zg (zj (pv 1)))))),?_⟩
 have sz:=sizeLine_eq
 have xl:=hR.length
 nofun
 intro p np
 have s1:=zb np (.lst [])
 have eP:=zp (.lst []) np
 generalize upd H p (.lst [])=H1 at s1 eP ⊢
 nofun
 refine ⟨⟨_,SqL.of (s1 _ _ hq)⟩,zbz (xs:=xs) (fun i σ H'=>∃ (ws:List V) (z1:Option V),(Same H H'/\H' p=some (.lst ws))/\zu K H' ws (runs 0 (l.take i))/\σ=[some (.ref q),some (.ref p),some (.int (sum2 (l.take i))),z1])
  ⟨[],_,⟨s1,eP⟩,.nil,rfl⟩ ?_ ?_ ?_⟩
 ·rintro i σ H' _ ⟨ws,z1,⟨sH,_⟩,_⟩
  exact SqL.of (sH _ _ hq)
 ·rintro i x σ H' hx ⟨ws,z1,⟨sH,eP'⟩,hW,rfl⟩
  obtain ⟨u,s,rfl,hs,hu⟩:=(hR.same sH).get hx
  have il:i<l.length:=(yad.mp hs).1
  have wl:=hW.length
  rw[zcA,yao] at wl
  have tk:l.take (i+1)=l.take i++[s]:=by rw[ybi,hs];rfl
  rw[tk,zkV,zpo,yea]
  generalize sum2 (l.take i)=t at *
  nofun
  refine ⟨.inl ⟨rfl,_,SqL.of eP'⟩,?_⟩
  nofun
  intro v nv
  have s5:=zb nv (.tup [.int s.1,.int (t+s.2)])
  have ev:=zp (.tup [.int s.1,.int (t+s.2)]) nv
  have eP5:=s5 _ _ eP'
  refine ⟨p,_,_,rfl,rfl,eP5,by ac_rfl,?_⟩
  have ev6:(upd (upd H' v (.tup [.int s.1,.int (t+s.2)])) p (.lst (ws++[.ref v]))) v=some (.tup [.int s.1,.int (t+s.2)]):=by
   rw[zt (za6 ev eP5 (by intro z;cases z))]
   exact ev
  exact ⟨ws++[.ref v],_,⟨zM (sH.trans s5) np,zf⟩,((hW.same s5).put eP5).push (s:=(s.1,t+s.2)) ev6,rfl⟩
 ·rintro σ H' ⟨ws,z1,⟨sH,eP'⟩,hW,rfl⟩
  rw[xl,List.take_length] at hW
  nofun
  exact h p ws H' np sH eP' hW
def zkT (K:W.Frag):Sp:=fun vs H Q _=>∃ (a:Addr) (xs:List V) (l:List (Int × Int)),vs=[.ref a]/\SqL K H a xs/\zu K H xs l/\l.length<64/\(∀ s∈l,s.1<s.2) /\
 ∀ p ys r H',Same H H'->H p=none->H' p=some (.lst ys)->zu K H' ys r->Spans.Joined r->(∀ d,Spans.Cov r d↔Spans.Cov l d)->r.length<=l.length->Q (.ref p) H'
theorem zoT {K:W.Frag} {H:Hp} {ys:List V} {acc:List (Int × Int)} (r:zu K H ys acc) (h:0<ys.length):∃ ys' b acc' t,ys=ys'++[.ref b]/\acc=acc'++[t]/\H b=some (.tup [.int t.1,.int t.2])/\zu K H ys' acc':=by
 induction r with
 | nil=>simp at h
 | @cons p s xs l hp rr ih =>
  cases rr with
  | nil=>exact ⟨[],p,[],s,rfl,rfl,hp,.nil⟩
  | cons h2 rr2 =>
   obtain ⟨ys',b,acc',t,e1,e2,e3,e4⟩:=ih (by simp)
   exact ⟨.ref p::ys',b,s::acc',t,by rw[e1];rfl,by rw[e2];rfl,e3,.cons hp e4⟩
theorem zhD:zk ["spans", "told", "span"] ["spans"] (zi zg0):=by walk_at "sp"
theorem zp9 (S:Src K mg "joined" zg0 ["spans"]) (T:Txt K mg)  : Def P w K mg base 1 "joined" ["spans"] (zkT K):=by
 exists S.ok,zhD,0
 all_goals obtain ⟨a,xs,l,rfl,hS,hR,hl,ok,h⟩:=h
 ·rfl
 refine ⟨_,(ze (zo (i:=1) zhD.nd rfl (by walk_at "lc") (zR zc))
  (ze (zaE PassesOwn.never rfl (zV (zw zl1 rfl T.zcC PyProof.Rows.boot_sorted (za (pv 0) zc))) (zF (i:=2) zhD.nd rfl (by walk_at "lc"))
  (zg (zK (PW.pt (ze7 (zr zdK (zw zag rfl T.zbx PySem.boot_len (za (pv 1) zc)) zd (nomark _)) (zgw (zr zgQ (zq zO (pv 2) zd (fun _ _=>rfl)) (zq zO (zq zC (pv 1) (ziA zgh zd) (fun _ _=>rfl)) zd (fun _ _=>rfl)) (nomark _)))))
  (zg (zcl (zab (za (zq zO (zq zC (pv 1) (ziA zgh zd) (fun _ _=>rfl)) zd (fun _ _=>rfl)) (za (zw (zaP rfl) rfl T.zcr PyProof.Rows.boot_max (za (zq zO (zq zC (pv 1) (ziA zgh zd) (fun _ _=>rfl)) zd (fun _ _=>rfl)) (za (zq zO (pv 2) zd (fun _ _=>rfl)) zc))) zc))) (zfa (pv 1) (ziA zgh zd) set_list)))
  (zg (zbM (zil PySem.F.plainAttrs_list PySem.F.slot_list_append PySem.F.type_list_append zcF (pv 1) (za (pv 2) zc)))))))
  (zg (zj (pv 1))))),?_⟩
 have sz:=sizeLine_eq
 have xl:=hR.length
 nofun
 intro p np
 have sp:=zb np (.lst [])
 nofun
 refine ⟨a,xs,l,rfl,sp.seq hS,hR.same sp,hl,?_⟩
 intro q H2 ws r nq sq eq rR pm srt
 have wl:=rR.length
 have rl:=pm.length_eq
 have s2:=sp.trans sq
 have eP2:=sq _ _ (zf (H:=H) (a:=p) (o:=.lst []))
 have npq:q≠p:=(zai (zf (H:=H) (a:=p) (o:=.lst [])) nq).symm
 refine ⟨q,rfl,⟨_,SqL.of eq⟩,zbz (xs:=ws) (fun i σ H'=>∃ (ys:List V) (acc:List (Int × Int)) (z:Option V),(Same H H'/\H' q=some (.lst ws)/\H' p=some (.lst ys))/\(zu K H' ys acc/\zu K H' ws r)/\Stills.JInv (r.take i) acc/\acc.length<=i/\σ=[some (.ref a),some (.ref p),z])
  ⟨[],[],_,⟨s2,eq,eP2⟩,⟨.nil,rR⟩,Stills.JInv.nil,ycz _,rfl⟩ ?_ ?_ ?_⟩
 ·rintro i σ H' _ ⟨ys,acc,z,⟨_,e,_⟩,_⟩
  exact SqL.of e
 ·rintro i x σ H' hx ⟨ys,acc,z,⟨sH,eQ,eP⟩,⟨rA,rW⟩,J,al,rfl⟩
  obtain ⟨u,s,rfl,hs,ht⟩:=rW.get hx
  have il:i<r.length:=(yad.mp hs).1
  have yl:=rA.length
  have up:=ok s (pm.mem_iff.mp (yah hs))
  have tk:r.take (i+1)=r.take i++[s]:=by rw[ybi,hs];rfl
  have hP:SqL K H' p ys:=SqL.of eP
  rw[tk]
  have t1':∀ t∈acc,t.1<=s.1:=fun t htt=>by
   obtain ⟨s',hs',e⟩:=J.f t htt
   obtain ⟨j,hj,ej⟩:=yaw.mp hs'
   rw[yao] at hj
   rw[List.getElem_take] at ej
   have:=ybd.mp srt j i (by ac_rfl) il (by ac_rfl)
   rw[ej] at this
   have es:r[i]=s:=by
    have:=yaa il
    rw[hs] at this
    exact (Option.some.inj this).symm
   rw[es] at this
   ac_rfl
  nofun
  ·rename_i pos
   obtain ⟨ys',b,acc',t,e1,e2,hb,rA'⟩:=zoT rA (by ac_rfl)
   subst e1 e2
   have yl':=rA'.length
   have atl:atI (ys'++[.ref b]) (-1)=some (.ref b):=zrD (by simp) (by simp)
   have le1:=t1' t (by simp)
   refine ⟨p,_,_,_,rfl,rfl,hP,atl,?_⟩
   nofun
   ·rename_i le2
    refine ⟨p,_,_,_,rfl,rfl,hP,atl,?_⟩
    nofun
    refine ⟨p,_,_,_,rfl,rfl,hP,atl,?_⟩
    nofun
    intro u2 nu2
    obtain ⟨m,hm⟩:∃ m:Int,m=if s.2 > t.2 then s.2 else t.2:=⟨_,rfl⟩
    rw[<-hm]
    have s5:=zb nu2 (.tup [.int t.1,.int m])
    have eP':=s5 _ _ eP
    have eQ':=s5 _ _ eQ
    nofun
    have ixe:ixN (ys'++[V.ref b]).length (-1)=some (ys'.length):=by
     unfold ixN
     rw[if_neg (by decide),if_pos (by rw[yac,ybs];ac_rfl),yac]
     show some ((-1:Int)+((ys'.length+1:Nat):Int)).toNat=_
     rw[show ((-1:Int)+((ys'.length+1:Nat):Int)).toNat=ys'.length by ac_rfl]
    refine ⟨p,_,_,_,rfl,rfl,eP',ixe,?_⟩
    have es:(ys'++[V.ref b]).set ys'.length (.ref u2)=ys'++[.ref u2]:=by
     rw[List.set_append_right _ _ (ycz _),ydo]
     rfl
    rw[es]
    have st2:(upd (upd H' u2 (.tup [.int t.1,.int m])) p (.lst (ys'++[.ref u2]))) u2=some (.tup [.int t.1,.int m]):=by
     rw[zt (zai eP nu2).symm]
     exact zf
    exact ⟨ys'++[.ref u2],acc'++[(t.1,m)],_,⟨zM (sH.trans s5) np,by rw[zt npq];exact eQ',zf⟩,⟨((rA'.same s5).put eP').push (s:=(t.1,m)) st2,(rW.same s5).put eP'⟩,J.grow up le1 le2 hm,by rw[yac] at al ⊢;exact Nat.le_succ_of_le al,rfl⟩
   ·rename_i gt
    refine ⟨.inl ⟨rfl,_,SqL.of eP⟩,?_⟩
    nofun
    refine ⟨p,_,_,rfl,rfl,eP,by ac_rfl,?_⟩
    have st2:(upd H' p (.lst (ys'++[.ref b]++[.ref u]))) u=some (.tup [.int s.1,.int s.2]):=by
     rw[zt (za6 ht eP (by intro z;cases z))]
     exact ht
    exact ⟨ys'++[.ref b]++[.ref u],acc'++[t]++[s],_,⟨zM sH np,by rw[zt npq];exact eQ,zf⟩,⟨(rA.put eP).push (s:=s) st2,rW.put eP⟩,J.add up (by ac_rfl),by rw[yac];exact Nat.succ_le_succ al,rfl⟩
  ·rename_i no
   have y0:ys=[]:=by cases ys with | nil=>rfl | cons _ _=>exact absurd (by simp) no
   subst y0
   have a0:acc=[]:=by cases acc with | nil=>rfl | cons _ _=>simp at yl
   subst a0
   refine ⟨.inl ⟨rfl,_,SqL.of eP⟩,?_⟩
   nofun
   refine ⟨p,_,_,rfl,rfl,eP,by simp;ac_rfl,?_⟩
   have st2:(upd H' p (.lst ([]++[.ref u]))) u=some (.tup [.int s.1,.int s.2]):=by
    rw[zt (za6 ht eP (by intro z;cases z))]
    exact ht
   exact ⟨[]++[.ref u],[]++[s],_,⟨zM sH np,by rw[zt npq];exact eQ,zf⟩,⟨(zu.put .nil eP).push (s:=s) st2,rW.put eP⟩,J.begin_ up,by simp,rfl⟩
 ·rintro σ H' ⟨ys,acc,z,⟨sH,eQ,eP⟩,⟨rA,rW⟩,J,al,rfl⟩
  rw[wl,yas (ycz _)] at J
  nofun
  refine h p ys acc H' sH np eP rA J.j (fun d=>?_) (by ac_rfl)
  rw[J.c]
  exact Stills.zrL (fun s=>pm.mem_iff) d
def zk3 (K:W.Frag):Sp:=fun vs H Q _=>L2.Ee8 fun pt ps xs ys (t l:List (Int × Int)) a b=>L2.Aa7 (vs=[.ref pt,.ref ps,.int a,.int b]) (SqL K H pt xs) (zu K H xs t) (SqL K H ps ys) (zu K H ys l) (t.length+2*l.length<64) (∀ (p:Addr) (ns:List Int) H',Same H H'->H p=none->H' p=some (.lst (ns.map V.int))->ns.length<64->ns.Pairwise (·<·)->(∀ d,d∈ns↔(a<d/\d<b)/\((∃ s∈t,d=s.1)\/∃ s∈l,d=s.1\/d=s.2))->Q (.ref p) H')
theorem zkJ:zk ["table", "spans", "a", "b", "days"] qaw (zi zg4):=by walk_at "sp"
theorem zqA (S:Src K mg "breaks" zg4 qaw) (T:Txt K mg)  : Def P w K mg base 1 "breaks" qaw (zk3 K):=by
 exists S.ok,zkJ,0
 all_goals obtain ⟨pt,ps,xs,ys,t,l,a,b,rfl,hS,hR,hS2,hR2,hl,h⟩:=h
 ·rfl
 refine ⟨_,(ze (zrs (i:=4) zkJ.nd rfl rfl (ix:=[]) ⟨rfl,by decide +kernel,rfl,by decide +kernel,rfl,(show (["row"]:List Str).Nodup by decide +kernel),by walk_at "cap", by walk_at "sub", by walk_at "has"⟩ (zV (pv 0)) (fun b=>(zq (zaR K) (pv 0) zd (fun _ _=>rfl))))
  (ze (zbM (zil PySem.F.plainAttrs_list PySem.F.slot_list_extend PySem.F.type_list_extend zkM (pv 4) (za (zcG (ix:=[]) ⟨rfl,by decide +kernel,rfl,by decide +kernel,rfl,(show (["span"]:List Str).Nodup by decide +kernel),by walk_at "cap", by walk_at "sub", by walk_at "has"⟩ (zV (pv 1)) (fun b=>(zq (zaR K) (pv 0) zd (fun _ _=>rfl)))) zc)))
  (ze (zbM (zil PySem.F.plainAttrs_list PySem.F.slot_list_extend PySem.F.type_list_extend zkM (pv 4) (za (zcG (ix:=[]) ⟨rfl,by decide +kernel,rfl,by decide +kernel,rfl,(show (["span"]:List Str).Nodup by decide +kernel),by walk_at "cap", by walk_at "sub", by walk_at "has"⟩ (zV (pv 1)) (fun b=>(zq (zaR K) (pv 0) zd (fun _ _=>rfl)))) zc)))
  (zg (zj (zw (zia rfl) rfl T.zcC PyProof.Rows.boot_sorted (za (zW (zfz rfl) rfl T.zij PyProof.Rows.boot_set (za (zcK (ix:=[2,3]) ⟨rfl,by decide +kernel,rfl,by decide +kernel,rfl,(show (["day", "a", "b"]:List Str).Nodup by decide +kernel),by walk_at "cap", by walk_at "sub", by walk_at "has"⟩ (zV (pv 4)) (fun b=>(zqa ziF ziF (pv 1) (pv 0) (pv 2))) (fun b=>(pv 0))) zc)) zc))))))),?_⟩
 have sz:=sizeLine_eq
 have xl:=hR.length
 have yl:=hR2.length
 have gd:∀ (u:List (Int × Int)) (f:Int × Int->Int) (i:Nat) (s:Int × Int),u[i]?=some s->(u.map f).getD i 0=f s:=fun u f i s e=>by
  rw[yaf,yag,e];rfl
 nofun
 refine ⟨⟨_,hS⟩,?_⟩
 intro l1 n1
 refine zhY (fun i v=>v=.int ((t.map (·.1)).getD i 0)) hS n1 (by ac_rfl) ?_ ?_
 ·intro i x H' Q' hx sH hq
  obtain ⟨p,s,rfl,e,ht⟩:=hR.get hx
  nofun
  exact ⟨p,_,_,_,rfl,rfl,SqT.of (sH _ _ ht),rfl,hq _ (by rw[gd t _ i s e])⟩
 intro ys1 len1 hp1
 obtain rfl:=zj8 (ns:=t.map (·.1)) (by rw[len1,yab,xl]) hp1
 have s1:=zb n1 (.lst ((t.map (·.1)).map V.int))
 have e1:(upd H l1 (.lst ((t.map (·.1)).map V.int))) l1=some (.lst ((t.map (·.1)).map V.int)):=zf
 generalize upd H l1 (.lst ((t.map (·.1)).map V.int))=H1 at s1 e1 ⊢
 nofun
 refine ⟨.inl ⟨rfl,_,SqL.of e1⟩,?_⟩
 nofun
 refine ⟨⟨_,s1.seq hS2⟩,?_⟩
 intro l2 n2
 refine zhY (fun i v=>v=.int ((l.map (·.1)).getD i 0)) (s1.seq hS2) n2 (by ac_rfl) ?_ ?_
 ·intro i x H' Q' hx sH hq
  obtain ⟨p,s,rfl,e,ht⟩:=hR2.get hx
  nofun
  exact ⟨p,_,_,_,rfl,rfl,SqT.of (sH _ _ (s1 _ _ ht)),rfl,hq _ (by rw[gd l _ i s e])⟩
 intro ys2 len2 hp2
 obtain rfl:=zj8 (ns:=l.map (·.1)) (by rw[len2,yab,yl]) hp2
 have s2:=zb n2 (.lst ((l.map (·.1)).map V.int))
 refine ⟨l1,l2,_,_,rfl,rfl,s2 _ _ e1,zf,by simp;ac_rfl,?_⟩
 rw[<-yat]
 have s3:Same H (upd (upd H1 l2 (.lst ((l.map (·.1)).map V.int))) l1 (.lst ((t.map (·.1)++l.map (·.1)).map V.int))):=zM (s1.trans s2) n1
 have e3:(upd (upd H1 l2 (.lst ((l.map (·.1)).map V.int))) l1 (.lst ((t.map (·.1)++l.map (·.1)).map V.int))) l1=some (.lst ((t.map (·.1)++l.map (·.1)).map V.int)):=zf
 generalize upd (upd H1 l2 (.lst ((l.map (·.1)).map V.int))) l1 (.lst ((t.map (·.1)++l.map (·.1)).map V.int))=H3 at s3 e3 ⊢
 nofun
 refine ⟨.inl ⟨rfl,_,SqL.of e3⟩,?_⟩
 nofun
 refine ⟨⟨_,s3.seq hS2⟩,?_⟩
 intro l4 n4
 refine zhY (fun i v=>v=.int ((l.map (·.2)).getD i 0)) (s3.seq hS2) n4 (by ac_rfl) ?_ ?_
 ·intro i x H' Q' hx sH hq
  obtain ⟨p,s,rfl,e,ht⟩:=hR2.get hx
  nofun
  exact ⟨p,_,_,_,rfl,rfl,SqT.of (sH _ _ (s3 _ _ ht)),rfl,hq _ (by rw[gd l _ i s e])⟩
 intro ys4 len4 hp4
 obtain rfl:=zj8 (ns:=l.map (·.2)) (by rw[len4,yab,yl]) hp4
 have s4:=zb n4 (.lst ((l.map (·.2)).map V.int))
 refine ⟨l1,l4,_,_,rfl,rfl,s4 _ _ e3,zf,by simp;ac_rfl,?_⟩
 rw[<-yat]
 have s5:Same H (upd (upd H3 l4 (.lst ((l.map (·.2)).map V.int))) l1 (.lst ((t.map (·.1)++l.map (·.1)++l.map (·.2)).map V.int))):=zM (s3.trans s4) n1
 have e5:(upd (upd H3 l4 (.lst ((l.map (·.2)).map V.int))) l1 (.lst ((t.map (·.1)++l.map (·.1)++l.map (·.2)).map V.int))) l1=some (.lst ((t.map (·.1)++l.map (·.1)++l.map (·.2)).map V.int)):=zf
 generalize upd (upd H3 l4 (.lst ((l.map (·.2)).map V.int))) l1 (.lst ((t.map (·.1)++l.map (·.1)++l.map (·.2)).map V.int))=H5 at s5 e5 ⊢
 obtain ⟨es,hes⟩:∃ es,es=t.map (·.1)++l.map (·.1)++l.map (·.2):=⟨_,rfl⟩
 have el:es.length=t.length+2*l.length:=by rw[hes];simp;ac_rfl
 rw[<-hes] at e5
 nofun
 refine ⟨⟨_,SqL.of e5⟩,?_⟩
 intro l6 n6
 refine zpK (zap (SqL.of e5)) n6 (by rw[yab];ac_rfl) (es.map fun d=>(decide (a<d) && decide (d<b),V.int d)) (by simp) ?_ ?_ ?_
 ·intro i x bb v H' Q' hx hpk sH hq
  rw[yag] at hx hpk
  obtain ⟨d,hd,rfl⟩:=Option.map_eq_some_iff.mp hx
  rw[hd] at hpk
  cases hpk
  nofun
  ·rename_i q1
   rw[decide_eq_true q1,Bool.true_and] at hq
   exact hq
  ·rename_i q1
   rw[decide_eq_false q1,Bool.false_and] at hq
   exact hq
 ·intro i x bb v H' Q' hx hpk sH hq
  rw[yag] at hx hpk
  obtain ⟨d,hd,rfl⟩:=Option.map_eq_some_iff.mp hx
  rw[hd] at hpk
  cases hpk
  nofun
  exact hq
 rw[zp0 es (fun d=>decide (a<d) && decide (d<b)) (fun d=>d),List.map_id']
 obtain ⟨fs,hfs⟩:∃ fs,fs=es.filter fun d=>decide (a<d) && decide (d<b):=⟨_,rfl⟩
 have fl:fs.length<=es.length:=by rw[hfs];exact ybb _ _
 rw[<-hfs]
 have s6:=zb n6 (.lst (fs.map V.int))
 nofun
 refine ⟨l6,fs,rfl,SqL.of zf,by ac_rfl,?_⟩
 intro ps' Hs ms ps0 ss es' nd mm lm
 refine ⟨ps',ms,rfl,es',by ac_rfl,?_⟩
 intro lq Hq ns lq0 sq eq pm srt
 refine h lq ns Hq (s5.trans (s6.trans (ss.trans sq))) (zy (s5.trans (s6.trans ss)) lq0) eq (by rw[pm.length_eq];ac_rfl) (zp8 pm nd srt) fun d=>?_
 rw[pm.mem_iff,mm,hfs,yaq,hes,yam,yam,yae,yae,yae,Bool.and_eq_true,decide_eq_true_eq,decide_eq_true_eq]
 constructor
 ·rintro ⟨(⟨s,hs,e⟩ | ⟨s,hs,e⟩) | ⟨s,hs,e⟩,q⟩
  ·exact ⟨q,.inl ⟨s,hs,e.symm⟩⟩
  ·exact ⟨q,.inr ⟨s,hs,.inl e.symm⟩⟩
  ·exact ⟨q,.inr ⟨s,hs,.inr e.symm⟩⟩
 ·rintro ⟨q,⟨s,hs,e⟩ | ⟨s,hs,e | e⟩⟩
  ·exact ⟨.inl (.inl ⟨s,hs,e.symm⟩),q⟩
  ·exact ⟨.inl (.inr ⟨s,hs,e.symm⟩),q⟩
  ·exact ⟨.inr ⟨s,hs,e.symm⟩,q⟩
def ziS (K:W.Frag):Sp:=fun vs H Q _=>∃ x T,vs=[x]/\zsu K H x T/\Q (.bl (decide (T = "int"))) H
theorem znU:zk ["thing"] ["thing"] (zi zet):=by walk_at "sp"
theorem zoK (S:Src K mg "is_whole" zet ["thing"]) (T:Txt K mg)  : Def P w K mg base 1 "is_whole" ["thing"] (ziS K):=by
 exists S.ok,znU,0
 all_goals obtain ⟨x,Tk,rfl,hk,h⟩:=h
 ·rfl
 refine ⟨_,(zg (zj (zbR (zw zfR rfl T.zbk PyProof.Rows.boot_isinstance (za (pv 0) (za (zj1 (v:=.ty "int") rfl T.zfD PyProof.Rows.boot_int rfl) zc))) (zdl (zmm (zw zfR rfl T.zbk PyProof.Rows.boot_isinstance (za (pv 0) (za (zj1 (v:=.ty "bool") rfl T.zjz PyProof.Rows.boot_bool rfl) zc)))))))),?_⟩
 nofun
 refine ⟨_,_,_,_,rfl,hk.1,zrA hk.2,?_⟩
 nofun
 ·refine ⟨_,_,_,_,rfl,hk.1,zqU hk.2,?_⟩
  nofun
  rename_i z
  exact qb h (by rcases z with rfl | rfl <;> decide)
 ·rename_i z
  exact qb h (decide_eq_false fun q=>z (.inl q))
noncomputable def nm:Kd->Str
 | .plain => "plain"
 | .bank => "bank"
 | .thirty => "thirty"
 | .exact => "exact"
def zcL (kd:Kd) (K:W.Frag):Sp:=fun vs H Q _=>∃ a,vs=[.ref a]/\Q (.str (nm kd)) H
theorem zlh:zk qaa qaa (zi zcP):=by walk_at "sp"
theorem zlP (kd:Kd) (hk:kd=.plain) (S:zB K (cA K kd.cls) "name" "Count.name" zcP qaa) (T:Txt K mg)  : zG P w K mg base 1 (cA K kd.cls) "name" qaa (zcL kd K):=by
 subst hk
 exists S.ok,zlh,0
 all_goals obtain ⟨a,rfl,h⟩:=h
 ·rfl
 refine ⟨_,(zg (zj zv)),?_⟩
 nofun
 exact h
theorem zl8:zk qaa qaa (zi zdP):=by walk_at "sp"
theorem znR (kd:Kd) (hk:kd=.bank) (S:zB K (cA K kd.cls) "name" "Bank.name" zdP qaa) (T:Txt K mg)  : zG P w K mg base 1 (cA K kd.cls) "name" qaa (zcL kd K):=by
 subst hk
 exists S.ok,zl8,0
 all_goals obtain ⟨a,rfl,h⟩:=h
 ·rfl
 refine ⟨_,(zg (zj zv)),?_⟩
 nofun
 exact h
theorem zkg:zk qaa qaa (zi zcx):=by walk_at "sp"
theorem zlx (kd:Kd) (hk:kd=.thirty) (S:zB K (cA K kd.cls) "name" "Thirty.name" zcx qaa) (T:Txt K mg)  : zG P w K mg base 1 (cA K kd.cls) "name" qaa (zcL kd K):=by
 subst hk
 exists S.ok,zkg,0
 all_goals obtain ⟨a,rfl,h⟩:=h
 ·rfl
 refine ⟨_,(zg (zj zv)),?_⟩
 nofun
 exact h
theorem zla:zk qaa qaa (zi zc2):=by walk_at "sp"
theorem zlO (kd:Kd) (hk:kd=.exact) (S:zB K (cA K kd.cls) "name" "Exact.name" zc2 qaa) (T:Txt K mg)  : zG P w K mg base 1 (cA K kd.cls) "name" qaa (zcL kd K):=by
 subst hk
 exists S.ok,zla,0
 all_goals obtain ⟨a,rfl,h⟩:=h
 ·rfl
 refine ⟨_,(zg (zj zv)),?_⟩
 nofun
 exact h
def za2 (K:W.Frag):Sp:=fun vs H Q _=>L2.Ee5 fun p C dx (fs:List (Str × V)) d=>L2.Aa6 (vs=[.ref p,.int d]) (H p=some (.ins C dx fs)) (Cls K C) (zY K C "day") (fs.length<1000) (Q .non (upd H p (.ins C dx (zat "day" (.int d) fs))))
theorem zhw:zk qag qag (zi zaY):=by walk_at "sp"
theorem zmu (x:Str) (S:zB K (cA K x) "__init__" "Entry.__init__" zaY qag) (T:Txt K mg)  : zG P w K mg base 1 (cA K x) "__init__" qag (za2 K):=by
 exists S.ok,zhw,0
 all_goals obtain ⟨p,C,dx,fs,d,rfl,e,hc,hn,hl,h⟩:=h
 ·rfl
 refine ⟨_,(zg (zhU (pv 0) (pv 1) rfl)),?_⟩
 nofun
 refine ⟨p,C,dx,fs,rfl,e,hc,hn,hl,?_⟩
 exact h
theorem zlp (S:zmz K (cA K "Entry") "__init__" "Entry.__init__" zaY qag) (T:Txt K mg)  : zj2 P w K mg base 1 (cA K "Entry") "__init__" qag (za2 K):=by
 exists S.ok,zhw,0
 all_goals obtain ⟨p,C,dx,fs,d,rfl,e,hc,hn,hl,h⟩:=h
 ·rfl
 refine ⟨_,(zg (zhU (pv 0) (pv 1) rfl)),?_⟩
 nofun
 refine ⟨p,C,dx,fs,rfl,e,hc,hn,hl,?_⟩
 exact h
def zao (k:Ek) (K:W.Frag):Sp:=fun vs H Q _=>∃ a,vs=[.ref a]/\Q (.str k.word) H
theorem zk9:zk qaa qaa (zi zcO):=by walk_at "sp"
theorem zmJ (kd:Ek) (hk:kd=.base) (S:zB K (cA K kd.cls) "word" "Entry.word" zcO qaa) (T:Txt K mg)  : zG P w K mg base 1 (cA K kd.cls) "word" qaa (zao kd K):=by
 subst hk
 exists S.ok,zk9,0
 all_goals obtain ⟨a,rfl,h⟩:=h
 ·rfl
 refine ⟨_,(zg (zj zv)),?_⟩
 nofun
 exact h
theorem znw:zk qaa qaa (zi zez):=by walk_at "sp"
theorem zoI (kd:Ek) (hk:kd=.out) (S:zB K (cA K kd.cls) "word" "Out.word" zez qaa) (T:Txt K mg)  : zG P w K mg base 1 (cA K kd.cls) "word" qaa (zao kd K):=by
 subst hk
 exists S.ok,znw,0
 all_goals obtain ⟨a,rfl,h⟩:=h
 ·rfl
 refine ⟨_,(zg (zj zv)),?_⟩
 nofun
 exact h
theorem znC:zk qaa qaa (zi zeC):=by walk_at "sp"
theorem zoA (kd:Ek) (hk:kd=.fee) (S:zB K (cA K kd.cls) "word" "Fee.word" zeC qaa) (T:Txt K mg)  : zG P w K mg base 1 (cA K kd.cls) "word" qaa (zao kd K):=by
 subst hk
 exists S.ok,znC,0
 all_goals obtain ⟨a,rfl,h⟩:=h
 ·rfl
 refine ⟨_,(zg (zj zv)),?_⟩
 nofun
 exact h
theorem znM:zk qaa qaa (zi zex):=by walk_at "sp"
theorem zpd (kd:Ek) (hk:kd=.pay) (S:zB K (cA K kd.cls) "word" "Pay.word" zex qaa) (T:Txt K mg)  : zG P w K mg base 1 (cA K kd.cls) "word" qaa (zao kd K):=by
 subst hk
 exists S.ok,znM,0
 all_goals obtain ⟨a,rfl,h⟩:=h
 ·rfl
 refine ⟨_,(zg (zj zv)),?_⟩
 nofun
 exact h
theorem znD:zk qaa qaa (zi zey):=by walk_at "sp"
theorem zoJ (kd:Ek) (hk:kd=.due) (S:zB K (cA K kd.cls) "word" "Due.word" zey qaa) (T:Txt K mg)  : zG P w K mg base 1 (cA K kd.cls) "word" qaa (zao kd K):=by
 subst hk
 exists S.ok,znD,0
 all_goals obtain ⟨a,rfl,h⟩:=h
 ·rfl
 refine ⟨_,(zg (zj zv)),?_⟩
 nofun
 exact h
theorem znc:zk qaa qaa (zi zdC):=by walk_at "sp"
theorem znP (kd:Ek) (hk:kd=.turn) (S:zB K (cA K kd.cls) "word" "Turn.word" zdC qaa) (T:Txt K mg)  : zG P w K mg base 1 (cA K kd.cls) "word" qaa (zao kd K):=by
 subst hk
 exists S.ok,znc,0
 all_goals obtain ⟨a,rfl,h⟩:=h
 ·rfl
 refine ⟨_,(zg (zj zv)),?_⟩
 nofun
 exact h
theorem zm4:zk qaa qaa (zi zdY):=by walk_at "sp"
theorem znj (kd:Ek) (hk:kd=.rate) (S:zB K (cA K kd.cls) "word" "Rate.word" zdY qaa) (T:Txt K mg)  : zG P w K mg base 1 (cA K kd.cls) "word" qaa (zao kd K):=by
 subst hk
 exists S.ok,zm4,0
 all_goals obtain ⟨a,rfl,h⟩:=h
 ·rfl
 refine ⟨_,(zg (zj zv)),?_⟩
 nofun
 exact h
theorem zng:zk qaa qaa (zi zdW):=by walk_at "sp"
theorem znK (kd:Ek) (hk:kd=.late) (S:zB K (cA K kd.cls) "word" "Late.word" zdW qaa) (T:Txt K mg)  : zG P w K mg base 1 (cA K kd.cls) "word" qaa (zao kd K):=by
 subst hk
 exists S.ok,zng,0
 all_goals obtain ⟨a,rfl,h⟩:=h
 ·rfl
 refine ⟨_,(zg (zj zv)),?_⟩
 nofun
 exact h
theorem zlq:zk qaa qaa (zi zcR):=by walk_at "sp"
theorem zmW (kd:Ek) (hk:kd=.still) (S:zB K (cA K kd.cls) "word" "Still.word" zcR qaa) (T:Txt K mg)  : zG P w K mg base 1 (cA K kd.cls) "word" qaa (zao kd K):=by
 subst hk
 exists S.ok,zlq,0
 all_goals obtain ⟨a,rfl,h⟩:=h
 ·rfl
 refine ⟨_,(zg (zj zv)),?_⟩
 nofun
 exact h
theorem zfb:∀ {xs ys:List Int},xs.Nodup->(∀ x∈xs,x∈ys)->xs.length<=ys.length
 | [],_,_,_=>ydc _
 | x::xs,ys,nd,h=>by
  have hx:=h x yal
  obtain ⟨nx,nd'⟩:=ybn.mp nd
  have:=zfb (ys:=ys.erase x) nd' fun z hz=>(ycs (fun (q:z=x)=>nx (by rw[<-q];exact hz))).mpr (h z (yak _ hz))
  rw[ycn hx] at this
  have:=ycp hx
  rw[yba]
  omega
def zhI (K:W.Frag):Sp:=fun vs H Q _=>∃ (p:Addr) (xs:List V) (l:List (Int × Int)),vs=[.ref p]/\H p=some (.lst xs)/\zu K H xs l/\l.length<=61 /\
 ∀ q H' ws r,H q=none->Same H H'->H' q=some (.lst ws)->zu K H' ws r->Sby.Tab r l->Q (.ref q) H'
theorem zie:zk ["pairs", "sums", "pair"] qaf (zi zg5):=by walk_at "sp"
theorem zqO (S:Src K mg "summed" zg5 qaf) (T:Txt K mg)  : Def P w K mg base 1 "summed" qaf (zhI K):=by
 exists S.ok,zie,0
 all_goals obtain ⟨p,xs,l,rfl,ep,hR,hl,h⟩:=h
 ·rfl
 refine ⟨_,(ze (zo (i:=1) zie.nd rfl (by walk_at "lc") zqQ)
  (ze (zaE PassesOwn.never rfl (zV (pv 0)) (zF (i:=2) zie.nd rfl (by walk_at "lc"))
  (zg (zrZ (pv 1) (zq zO (pv 2) zd (fun _ _=>rfl)) (zh zD (zrQ (pv 1) (zq zO (pv 2) zd (fun _ _=>rfl)) zd) (zq zO (pv 2) zd (fun _ _=>rfl))))))
  (zg (zj (zw (zh2 rfl) rfl T.zcC PyProof.Rows.boot_sorted (za (zmV (pv 1)) zc)))))),?_⟩
 nofun
 intro d nd
 have sd:=zb nd (zbB P w d [])
 have ed:=zp (zbB P w d []) nd
 have small:∀ {acc:List (Int × Int)} {n:Nat},Sby.Tot acc (l.take n)->acc.length<=61:=fun {acc n} t=>by
  have:=zfb t.nd fun k hk=>(t.mem k).mp hk
  rw[yab,yab,yao] at this
  ac_rfl
 nofun
 refine ⟨⟨_,SqL.of (sd _ _ ep)⟩,zbz (xs:=xs) (fun i σ H'=>∃ (acc:List (Int × Int)) (z:Option V),(Same H H'/\H' d=some (zbB P w d acc))/\Sby.Tot acc (l.take i)/\σ=[some (.ref p),some (.ref d),z]) ⟨[],_,⟨sd,ed⟩,by rw[List.take_zero];exact Sby.Tot.nil,rfl⟩ ?_ ?_ ?_⟩
 ·rintro i σ H' _ ⟨acc,z,⟨sH,_⟩,_⟩
  exact SqL.of (sH _ _ ep)
 ·rintro i x σ H' hx ⟨acc,z,⟨sH,eD⟩,tt,rfl⟩
  obtain ⟨t,s,rfl,hs,ht⟩:=(hR.same sH).get hx
  have al:=small tt
  nofun
  refine ⟨d,acc,rfl,eD,?_⟩
  nofun
  refine ⟨eD,?_⟩
  rw[tt.look]
  nofun
  refine ⟨d,acc,s.1,_,rfl,rfl,rfl,eD,yde al (by decide),?_⟩
  refine ⟨zak acc s.1 (Sby.sm (l.take i) s.1+s.2),_,⟨zM sH nd,zf⟩,?_,rfl⟩
  rw[ybi,hs]
  exact tt.step s.1 s.2
 ·rintro σ H' ⟨acc,z,⟨sH,eD⟩,tt,rfl⟩
  have al:=small tt
  rw[hR.length,List.take_length] at tt
  nofun
  refine ⟨d,acc,rfl,eD,fun v H2 nv s2 ev=>?_⟩
  nofun
  refine ⟨v,d,acc,rfl,ev,s2 _ _ eD,by ac_rfl,fun q H3 ws r nq s3 eq hr' pm up=>?_⟩
  exact h q H3 ws r (zy (sH.trans s2) nq) (sH.trans (s2.trans s3)) eq hr' (tt.tab pm up)
def zhv (K:W.Frag):Sp:=fun vs H Q _=>∃ (a:Addr) (A:BkA) (b:BkT),vs=[.ref a]/\zav K H a A b/\Q (.ref A.c) H
theorem zlj:zk qaa qaa (zi zda):=by walk_at "sp"
theorem zl2 (S:zB K (cA K "Book") "count" "Book.count" zda qaa) (T:Txt K mg)  : zG P w K mg base 1 (cA K "Book") "count" qaa (zhv K):=by
 exists S.ok,zlj,0
 all_goals obtain ⟨a,A,b,rfl,B,h⟩:=h
 ·rfl
 refine ⟨_,(zg (zj (zbn T.zx T.zbe (pv 0)))),?_⟩
 nofun
 refine ⟨a,A.dx,_,_,rfl,B.ins,rfl,?_⟩
 exact h
def zhP (K:W.Frag):Sp:=fun vs H Q _=>∃ (a:Addr) (A:BkA) (b:BkT),vs=[.ref a]/\zav K H a A b/\∀ q xs,H q=none->zu K H xs b.dues->b.dues.length<=1000->Q (.ref q) (upd H q (.lst xs))
theorem zmi:zk qaa qaa (zi zdZ):=by walk_at "sp"
theorem znA (S:zB K (cA K "Book") "dues" "Book.dues" zdZ qaa) (T:Txt K mg)  : zG P w K mg base 1 (cA K "Book") "dues" qaa (zhP K):=by
 exists S.ok,zmi,0
 all_goals obtain ⟨a,A,b,rfl,B,h⟩:=h
 ·rfl
 refine ⟨_,(zg (zj (zW zaq rfl T.zbJ PyProof.Rows.boot_list (za (zbn T.zx T.zbt (pv 0)) zc)))),?_⟩
 obtain ⟨xs,e,hR,hl⟩:=B.dues
 nofun
 refine ⟨a,A.dx,_,_,rfl,B.ins,rfl,?_⟩
 nofun
 exact ⟨A.d,xs,rfl,.inl (SqL.of e),fun q nq=>h q xs nq hR hl⟩
def zeS (K:W.Frag):Sp:=fun vs H Q _=>∃ (a:Addr) (A:BkA) (b:BkT),vs=[.ref a]/\zav K H a A b/\∀ q xs,H q=none->zu K H xs b.fees->b.fees.length<=1000->Q (.ref q) (upd H q (.lst xs))
theorem zl3:zk qaa qaa (zi zdO):=by walk_at "sp"
theorem znL (S:zB K (cA K "Book") "fees" "Book.fees" zdO qaa) (T:Txt K mg)  : zG P w K mg base 1 (cA K "Book") "fees" qaa (zeS K):=by
 exists S.ok,zl3,0
 all_goals obtain ⟨a,A,b,rfl,B,h⟩:=h
 ·rfl
 refine ⟨_,(zg (zj (zW zaq rfl T.zbJ PyProof.Rows.boot_list (za (zbn T.zx T.zbs (pv 0)) zc)))),?_⟩
 obtain ⟨xs,e,hR,hl⟩:=B.fees
 nofun
 refine ⟨a,A.dx,_,_,rfl,B.ins,rfl,?_⟩
 nofun
 exact ⟨A.f,xs,rfl,.inl (SqL.of e),fun q nq=>h q xs nq hR hl⟩
def zhy (K:W.Frag):Sp:=fun vs H Q _=>∃ (a:Addr) (A:BkA) (b:BkT),vs=[.ref a]/\zav K H a A b/\Q (.int b.g) H
theorem zlo:zk qaa qaa (zi zdm):=by walk_at "sp"
theorem zmf (S:zB K (cA K "Book") "grace" "Book.grace" zdm qaa) (T:Txt K mg)  : zG P w K mg base 1 (cA K "Book") "grace" qaa (zhy K):=by
 exists S.ok,zlo,0
 all_goals obtain ⟨a,A,b,rfl,B,h⟩:=h
 ·rfl
 refine ⟨_,(zg (zj (zbn T.zx T.zbi (pv 0)))),?_⟩
 nofun
 refine ⟨a,A.dx,_,_,rfl,B.ins,rfl,?_⟩
 exact h
def zhr (K:W.Frag):Sp:=fun vs H Q _=>∃ (a:Addr) (A:BkA) (b:BkT),vs=[.ref a]/\zav K H a A b/\∀ q xs,H q=none->zu K H xs b.lates->b.lates.length<=1000->Q (.ref q) (upd H q (.lst xs))
theorem zlw:zk qaa qaa (zi zcS):=by walk_at "sp"
theorem znd (S:zB K (cA K "Book") "lates" "Book.lates" zcS qaa) (T:Txt K mg)  : zG P w K mg base 1 (cA K "Book") "lates" qaa (zhr K):=by
 exists S.ok,zlw,0
 all_goals obtain ⟨a,A,b,rfl,B,h⟩:=h
 ·rfl
 refine ⟨_,(zg (zj (zW zaq rfl T.zbJ PyProof.Rows.boot_list (za (zbn T.zx T.zbg (pv 0)) zc)))),?_⟩
 obtain ⟨xs,e,hR,hl⟩:=B.lates
 nofun
 refine ⟨a,A.dx,_,_,rfl,B.ins,rfl,?_⟩
 nofun
 exact ⟨A.l,xs,rfl,.inl (SqL.of e),fun q nq=>h q xs nq hR hl⟩
def zhL (K:W.Frag):Sp:=fun vs H Q _=>∃ (a:Addr) (A:BkA) (b:BkT),vs=[.ref a]/\zav K H a A b/\∀ q xs,H q=none->zu K H xs b.outs->b.outs.length<=1000->Q (.ref q) (upd H q (.lst xs))
theorem zl9:zk qaa qaa (zi zdR):=by walk_at "sp"
theorem znq (S:zB K (cA K "Book") "outs" "Book.outs" zdR qaa) (T:Txt K mg)  : zG P w K mg base 1 (cA K "Book") "outs" qaa (zhL K):=by
 exists S.ok,zl9,0
 all_goals obtain ⟨a,A,b,rfl,B,h⟩:=h
 ·rfl
 refine ⟨_,(zg (zj (zW zaq rfl T.zbJ PyProof.Rows.boot_list (za (zbn T.zx T.zbw (pv 0)) zc)))),?_⟩
 obtain ⟨xs,e,hR,hl⟩:=B.outs
 nofun
 refine ⟨a,A.dx,_,_,rfl,B.ins,rfl,?_⟩
 nofun
 exact ⟨A.o,xs,rfl,.inl (SqL.of e),fun q nq=>h q xs nq hR hl⟩
def zff (K:W.Frag):Sp:=fun vs H Q _=>∃ (a:Addr) (A:BkA) (b:BkT),vs=[.ref a]/\zav K H a A b/\∀ q xs,H q=none->zu K H xs b.pays->b.pays.length<=1000->Q (.ref q) (upd H q (.lst xs))
theorem zmt:zk qaa qaa (zi zdX):=by walk_at "sp"
theorem znI (S:zB K (cA K "Book") "pays" "Book.pays" zdX qaa) (T:Txt K mg)  : zG P w K mg base 1 (cA K "Book") "pays" qaa (zff K):=by
 exists S.ok,zmt,0
 all_goals obtain ⟨a,A,b,rfl,B,h⟩:=h
 ·rfl
 refine ⟨_,(zg (zj (zW zaq rfl T.zbJ PyProof.Rows.boot_list (za (zbn T.zx T.zbD (pv 0)) zc)))),?_⟩
 obtain ⟨xs,e,hR,hl⟩:=B.pays
 nofun
 refine ⟨a,A.dx,_,_,rfl,B.ins,rfl,?_⟩
 nofun
 exact ⟨A.p,xs,rfl,.inl (SqL.of e),fun q nq=>h q xs nq hR hl⟩
def zhn (K:W.Frag):Sp:=fun vs H Q _=>∃ (a:Addr) (A:BkA) (b:BkT),vs=[.ref a]/\zav K H a A b/\∀ q xs,H q=none->zu K H xs b.rates->b.rates.length<=1000->Q (.ref q) (upd H q (.lst xs))
theorem zlC:zk qaa qaa (zi zdk):=by walk_at "sp"
theorem zne (S:zB K (cA K "Book") "rates" "Book.rates" zdk qaa) (T:Txt K mg)  : zG P w K mg base 1 (cA K "Book") "rates" qaa (zhn K):=by
 exists S.ok,zlC,0
 all_goals obtain ⟨a,A,b,rfl,B,h⟩:=h
 ·rfl
 refine ⟨_,(zg (zj (zW zaq rfl T.zbJ PyProof.Rows.boot_list (za (zbn T.zx T.zbh (pv 0)) zc)))),?_⟩
 obtain ⟨xs,e,hR,hl⟩:=B.rates
 nofun
 refine ⟨a,A.dx,_,_,rfl,B.ins,rfl,?_⟩
 nofun
 exact ⟨A.r,xs,rfl,.inl (SqL.of e),fun q nq=>h q xs nq hR hl⟩
def zgH (K:W.Frag):Sp:=fun vs H Q _=>∃ (a:Addr) (A:BkA) (b:BkT),vs=[.ref a]/\zav K H a A b/\∀ q xs,H q=none->zu K H xs b.spans->b.spans.length<=1000->Q (.ref q) (upd H q (.lst xs))
theorem zkj:zk qaa qaa (zi zco):=by walk_at "sp"
theorem zli (S:zB K (cA K "Book") "stills" "Book.stills" zco qaa) (T:Txt K mg)  : zG P w K mg base 1 (cA K "Book") "stills" qaa (zgH K):=by
 exists S.ok,zkj,0
 all_goals obtain ⟨a,A,b,rfl,B,h⟩:=h
 ·rfl
 refine ⟨_,(zg (zj (zW zaq rfl T.zbJ PyProof.Rows.boot_list (za (zbn T.zx T.zbH (pv 0)) zc)))),?_⟩
 obtain ⟨xs,e,hR,hl⟩:=B.spans
 nofun
 refine ⟨a,A.dx,_,_,rfl,B.ins,rfl,?_⟩
 nofun
 exact ⟨A.s,xs,rfl,.inl (SqL.of e),fun q nq=>h q xs nq hR hl⟩
def zhA (K:W.Frag):Sp:=fun vs H Q _=>∃ (a:Addr) (A:BkA) (b:BkT),vs=[.ref a]/\zav K H a A b/\∀ q,H q=none->Q (.ref q) (upd H q (.lst (b.turns.map V.int)))
theorem zlk:zk qaa qaa (zi zdd):=by walk_at "sp"
theorem zmT (S:zB K (cA K "Book") "turns" "Book.turns" zdd qaa) (T:Txt K mg)  : zG P w K mg base 1 (cA K "Book") "turns" qaa (zhA K):=by
 exists S.ok,zlk,0
 all_goals obtain ⟨a,A,b,rfl,B,h⟩:=h
 ·rfl
 refine ⟨_,(zg (zj (zW zaq rfl T.zbJ PyProof.Rows.boot_list (za (zbn T.zx T.zbf (pv 0)) zc)))),?_⟩
 nofun
 refine ⟨a,A.dx,_,_,rfl,B.ins,rfl,?_⟩
 nofun
 exact ⟨A.t,_,rfl,.inl (SqL.of B.turns),fun q nq=>h q nq⟩
def zih (K:W.Frag):Sp:=fun vs H Q _=>L2.Ee4 fun a (ns:List Int) k m=>L2.Aa6 (vs=[.ref a,.int k,.int m]) (SqL K H a (ns.map V.int)) (0<=k) (k<=1000000) (0<m) (∀ r,0<=r->r<m->Q (.int r) H)
theorem zbY:zk ["_law_script", "_law_k", "_law_many", "_law_cell_here", "_law_one", "_law_other"] qax (zi zdL):=by walk_at "sp"
theorem znN (S:Src K mg "_law_draw" zdL qax) (T:Txt K mg)  : Def P w K mg base 1 "_law_draw" qax (zih K):=by
 exists S.ok,zbY,0
 all_goals obtain ⟨a,ns,k,m,rfl,hS,h0,h1,hm,h⟩:=h
 ·rfl
 refine ⟨_,(ze (zo (i:=3) zbY.nd rfl (by walk_at "lc") zd)
  (ze (zcZ (zK (zr zdK (zw zag rfl T.zbx PySem.boot_len (za (pv 0) zc)) zd (nomark _))
  (zg (zo (i:=3) zbY.nd rfl (by walk_at "lc") (zq zC (pv 0) (zh zH (pv 1) (zw zag rfl T.zbx PySem.boot_len (za (pv 0) zc))) (fun _ _=>rfl))))
   zA))
  (ze (zcZ (zK (PW.pt (ze7 (zr zdK (pv 3) (zaB (v:=1000000000000000000) (by decide +kernel) ⟨by decide,by decide,by decide⟩) (nomark _)) (ze7 (zr zaa (zh zH (pv 3) zd) zd (nomark _)) (zgw (zr ziF (pv 1) (zw zag rfl T.zbx PySem.boot_len (za (pv 0) zc)) (nomark _))))))
  (zg (zj (zh zH (zh zad (pv 3) zd) (pv 2))))
   zA))
  (ze (zo (i:=4) zbY.nd rfl (by walk_at "lc") (zh zH (zh zbI (zh zD (zh zH (pv 3) zd) zd) (zh zD zd (zh zbI (zh zbI zd (pv 1)) (zh zD (pv 1) zd)))) zd))
  (ze (zo (i:=5) zbY.nd rfl (by walk_at "lc") (zh zH (zh zD (zh zbI (pv 4) (pv 4)) zd) zd))
  (zg (zj (zh zH (zh zad (zh zH (zh zD (pv 4) (zh zbI (pv 5) zd)) zd) zd) (pv 2))))))))),?_⟩
 have fin:∀ r:Int,Q (.int (r % m)) H:=fun r=>h _ (ydy r (by ac_rfl)) (ydz r hm)
 nofun
 refine ⟨fun σ' H'=>H=H'/\∃ c:Int,σ'=[some (.ref a),some (.int k),some (.int m),some (.int c),none,none],?_,?_⟩
 ·nofun
  ·have hl:0<(ns.length:Int):=by
    have e:=yab (f:=V.int) (as:=ns)
    ac_rfl
   have e:k % ((ns.map V.int).length:Int)=k % (ns.length:Int):=by rw[yab]
   refine ⟨a,_,_,_,rfl,rfl,hS,(by rw[e];exact zoo (ydy k (by ac_rfl)) (ydz k hl)),?_⟩
   nofun
   first | exact ⟨rfl,_,rfl⟩ | exact ⟨_,rfl⟩
  ·first | exact ⟨rfl,_,rfl⟩ | exact ⟨_,rfl⟩
 rintro σ' H' ⟨rfl,c,rfl⟩
 refine ⟨fun σ' H'=>H=H'/\σ'=[some (.ref a),some (.int k),some (.int m),some (.int c),none,none],?_,?_⟩
 ·nofun
  all_goals first | exact ⟨rfl,rfl⟩ | rfl | exact fin _
 rintro σ' H' ⟨rfl,rfl⟩
 nofun
 exact fin _
def zfh (K:W.Frag):Sp:=fun vs H Q _=>∃ c b,vs=[.int c,.int b]/\0<=c/\(0<=b/\b<=999999) /\
 ∀ t k d x H',H t=none->Same H H'->H' t=some (.tup (zaK k d x))->Sp1 0 b (k,d,x)->Q (.ref t) H'
theorem zaX:zk ["_law_cell_here", "_law_base", "_law_word", "_law_day", "_law_rest", "_law_size", "_law_amount"] qal (zi zdT):=by walk_at "sp"
theorem znT (S:Src K mg "_law_spec" zdT qal) (T:Txt K mg)  : Def P w K mg base 1 "_law_spec" qal (zfh K):=by
 exists S.ok,zaX,0
 all_goals obtain ⟨c,b,rfl,c0,⟨b0,b1⟩,h⟩:=h
 ·rfl
 refine ⟨_,(ze (zo (i:=2) zaX.nd rfl (by walk_at "lc") (zq zC (zR (za zv (za zv (za zv (za zv (za zv (za zv (za zv (za zv (za zv (za zv zc))))))))))) (zh zH (pv 0) zd) (fun _ _=>rfl)))
  (ze (zo (i:=3) zaX.nd rfl (by walk_at "lc") (zw (zbq rfl) rfl T.zc5 PyProof.Rows.boot_min (za zd (za (zh zD (pv 1) (zq zC (zR (za (zh zH (zh zad (pv 0) zd) zd) (za (zh zbI (zh zH (zh zad (pv 0) zd) zd) zd) zc))) (zh zH (zh zad (pv 0) zd) zd) (fun _ _=>rfl))) zc))))
  (ze (zo (i:=4) zaX.nd rfl (by walk_at "lc") (zh zad (pv 0) zd))
  (ze (zK (zr zif (pv 2) (zab (za zv (za zv zc))) (by with_unfolding_all rfl))
  (zg (zj (zab (za (pv 2) (za (pv 3) (za (zq zC (zR (za zd (za zd (za (zaB (v:=1000000) (by decide +kernel) ⟨by decide,by decide,by decide⟩) (za (zh zH (zh zad (pv 4) zd) (zh zD (zaB (v:=1000000) (by decide +kernel) ⟨by decide,by decide,by decide⟩) zd)) zc))))) (zh zH (pv 4) zd) (fun _ _=>rfl)) zc))))))
   zA)
  (ze (zK (zr zaa (pv 2) zv (nomark _))
  (zg (zj (zab (za (pv 2) (za (pv 3) (za (zw (zbq rfl) rfl T.zc5 PyProof.Rows.boot_min (za (zaB (v:=1000000) (by decide +kernel) ⟨by decide,by decide,by decide⟩) (za (zh zD (zh zD (pv 3) zd) (zh zH (pv 4) zd)) zc))) zc))))))
   zA)
  (ze (zK (zr zaa (pv 2) zv (nomark _))
  (zg (zj (zab (za (pv 2) (za (pv 3) (za zd zc))))))
   zA)
  (ze (zo (i:=5) zaX.nd rfl (by walk_at "lc") (zq zC (zR (za zd (za (zaB (v:=1000000000) (by decide +kernel) ⟨by decide,by decide,by decide⟩) (za (zaB (v:=1000000) (by decide +kernel) ⟨by decide,by decide,by decide⟩) (za (zaB (v:=10000) (by decide +kernel) ⟨by decide,by decide,by decide⟩) zc))))) (zh zH (pv 4) zd) (fun _ _=>rfl)))
  (ze (zo (i:=6) zaX.nd rfl (by walk_at "lc") (zh zD zd (zh zH (zh zad (pv 4) zd) (pv 5))))
  (ze (zK (PW.pt (ze7 (zr zaa (pv 2) zv (nomark _)) (zgw (zr zaa (zh zH (zh zad (pv 4) zd) zd) zd (nomark _)))))
  (zg (zo (i:=6) zaX.nd rfl (by walk_at "lc") (zh zaj zd (pv 6))))
   zA)
  (zg (zj (zab (za (pv 2) (za (pv 3) (za (pv 6) zc))))))))))))))),?_⟩
 nofun
 intro q1 nq1
 have s1:=zb nq1 (.lst [.str "out", .str "pay", .str "due", .str "pay", .str "fee", .str "due", .str "rate", .str "late", .str "turn", .str "still"])
 obtain ⟨v,hv,hm⟩:=zbG (xs:=[.str "out", .str "pay", .str "due", .str "pay", .str "fee", .str "due", .str "rate", .str "late", .str "turn", .str "still"]) (k:=c % 10) (by ac_rfl) (by simp;ac_rfl)
 obtain ⟨k,rfl,hk⟩:=((zQ ⟨.out,rfl,by simp⟩ (zQ ⟨.pay,rfl,by simp⟩ (zQ ⟨.due,rfl,by simp⟩ (zQ ⟨.pay,rfl,by simp⟩ (zQ ⟨.fee,rfl,by simp⟩ (zQ ⟨.due,rfl,by simp⟩ (zQ ⟨.rate,rfl,by simp⟩ (zQ ⟨.late,rfl,by simp⟩ (zQ ⟨.turn,rfl,by simp⟩ (zQ ⟨.still,rfl,by simp⟩ zen)))))))))):∀ v∈([.str "out", .str "pay", .str "due", .str "pay", .str "fee", .str "due", .str "rate", .str "late", .str "turn", .str "still"]:List V),∃ k:Ek,v=.str k.word/\k≠.base) v hm
 nofun
 refine ⟨q1,_,_,_,rfl,rfl,SqL.of zf,hv,?_⟩
 clear hv hm
 generalize upd H q1 _=H1 at s1 ⊢
 nofun
 intro q2 nq2
 have s2:=zb nq2 (.lst [.int (c / 10 % 60),.int (c / 10 % 12*5)])
 obtain ⟨v,hv,hm⟩:=zbG (xs:=[.int (c / 10 % 60),.int (c / 10 % 12*5)]) (k:=c / 600 % 2) (by ac_rfl) (by simp;ac_rfl)
 obtain ⟨e,rfl,e0,e1⟩:=(zQ ⟨_,rfl,by ac_rfl,by ac_rfl⟩ (zQ ⟨_,rfl,by ac_rfl,by ac_rfl⟩ zen):∀ v∈([.int (c / 10 % 60),.int (c / 10 % 12*5)]:List V),∃ w:Int,v=.int w/\0<=w/\w<=59) v hm
 nofun
 refine ⟨q2,_,_,_,rfl,rfl,SqL.of zf,hv,?_⟩
 clear hv hm
 generalize upd H1 q2 _=H2 at s2 ⊢
 have sA:=s1.trans s2
 nofun
 have d0:b<=(if b+e<999999 then b+e else 999999):=by split <;> ac_rfl
 have d1:(if b+e<999999 then b+e else 999999)<=b+59:=by split <;> ac_rfl
 have d2:(if b+e<999999 then b+e else 999999)<=999999:=by split <;> ac_rfl
 generalize (if b+e<999999 then b+e else 999999)=D at d0 d1 d2 ⊢
 clear s1 s2
 cases k
 all_goals first | exact absurd rfl hk | skip
 all_goals dsimp only [Ek.word]
 all_goals nofun
 case out =>
  intro t nt
  have st:=zb nt (.tup [.str "rate", .str "late"])
  nofun
  refine ⟨t,_,rfl,.inr (SqT.of zf),rfl,rfl,_,rfl,?_⟩
  generalize upd H2 t (.tup [.str "rate", .str "late"])=H3 at st ⊢
  have sB:=sA.trans st
  nofun
  intro q3 nq3
  have s3:=zb nq3 (.lst [.int 9,.int 1000000000,.int 1000000,.int 10000])
  obtain ⟨v,hv,hm⟩:=zbG (xs:=[.int 9,.int 1000000000,.int 1000000,.int 10000]) (k:=c / 1200 % 4) (by ac_rfl) (by simp;ac_rfl)
  obtain ⟨u,rfl,u0⟩:=(zQ ⟨_,rfl,by ac_rfl⟩ (zQ ⟨_,rfl,by ac_rfl⟩ (zQ ⟨_,rfl,by ac_rfl⟩ (zQ ⟨_,rfl,by ac_rfl⟩ zen))):∀ v∈([.int 9,.int 1000000000,.int 1000000,.int 10000]:List V),∃ w:Int,v=.int w/\0<w) v hm
  nofun
  refine ⟨q3,_,_,_,rfl,rfl,SqL.of zf,hv,?_⟩
  clear hv hm
  generalize upd H3 q3 _=H4 at s3 ⊢
  have sC:=sB.trans s3
  have m0:=ydy (c / 1200 / 4) (show u≠0 by ac_rfl)
  nofun
  intro t2 nt2
  exact h t2 .out D _ _ (zy sC nt2) (sC.trans (zb nt2 _)) zf ⟨d0,d1,d2,by show 1<=1+c / 1200 / 4 % u;ac_rfl⟩
 case pay =>
  intro t nt
  have st:=zb nt (.tup [.str "rate", .str "late"])
  nofun
  refine ⟨t,_,rfl,.inr (SqT.of zf),rfl,rfl,_,rfl,?_⟩
  generalize upd H2 t (.tup [.str "rate", .str "late"])=H3 at st ⊢
  have sB:=sA.trans st
  nofun
  intro q3 nq3
  have s3:=zb nq3 (.lst [.int 9,.int 1000000000,.int 1000000,.int 10000])
  obtain ⟨v,hv,hm⟩:=zbG (xs:=[.int 9,.int 1000000000,.int 1000000,.int 10000]) (k:=c / 1200 % 4) (by ac_rfl) (by simp;ac_rfl)
  obtain ⟨u,rfl,u0⟩:=(zQ ⟨_,rfl,by ac_rfl⟩ (zQ ⟨_,rfl,by ac_rfl⟩ (zQ ⟨_,rfl,by ac_rfl⟩ (zQ ⟨_,rfl,by ac_rfl⟩ zen))):∀ v∈([.int 9,.int 1000000000,.int 1000000,.int 10000]:List V),∃ w:Int,v=.int w/\0<w) v hm
  nofun
  refine ⟨q3,_,_,_,rfl,rfl,SqL.of zf,hv,?_⟩
  clear hv hm
  generalize upd H3 q3 _=H4 at s3 ⊢
  have sC:=sB.trans s3
  have m0:=ydy (c / 1200 / 4) (show u≠0 by ac_rfl)
  nofun
  intro t2 nt2
  exact h t2 .pay D _ _ (zy sC nt2) (sC.trans (zb nt2 _)) zf ⟨d0,d1,d2,by show 1<=1+c / 1200 / 4 % u;ac_rfl⟩
 case due =>
  intro t nt
  have st:=zb nt (.tup [.str "rate", .str "late"])
  nofun
  refine ⟨t,_,rfl,.inr (SqT.of zf),rfl,rfl,_,rfl,?_⟩
  generalize upd H2 t (.tup [.str "rate", .str "late"])=H3 at st ⊢
  have sB:=sA.trans st
  nofun
  intro q3 nq3
  have s3:=zb nq3 (.lst [.int 9,.int 1000000000,.int 1000000,.int 10000])
  obtain ⟨v,hv,hm⟩:=zbG (xs:=[.int 9,.int 1000000000,.int 1000000,.int 10000]) (k:=c / 1200 % 4) (by ac_rfl) (by simp;ac_rfl)
  obtain ⟨u,rfl,u0⟩:=(zQ ⟨_,rfl,by ac_rfl⟩ (zQ ⟨_,rfl,by ac_rfl⟩ (zQ ⟨_,rfl,by ac_rfl⟩ (zQ ⟨_,rfl,by ac_rfl⟩ zen))):∀ v∈([.int 9,.int 1000000000,.int 1000000,.int 10000]:List V),∃ w:Int,v=.int w/\0<w) v hm
  nofun
  refine ⟨q3,_,_,_,rfl,rfl,SqL.of zf,hv,?_⟩
  clear hv hm
  generalize upd H3 q3 _=H4 at s3 ⊢
  have sC:=sB.trans s3
  have m0:=ydy (c / 1200 / 4) (show u≠0 by ac_rfl)
  nofun
  intro t2 nt2
  exact h t2 .due D _ _ (zy sC nt2) (sC.trans (zb nt2 _)) zf ⟨d0,d1,d2,by show 1<=1+c / 1200 / 4 % u;ac_rfl⟩
 case rate =>
  intro t nt
  have st:=zb nt (.tup [.str "rate", .str "late"])
  nofun
  refine ⟨t,_,rfl,.inr (SqT.of zf),rfl,rfl,_,rfl,?_⟩
  generalize upd H2 t (.tup [.str "rate", .str "late"])=H3 at st ⊢
  have sB:=sA.trans st
  nofun
  intro q3 nq3
  have s3:=zb nq3 (.lst [.int 0,.int 500,.int 1000000,.int (c / 1200 / 4 % (1000000+1))])
  obtain ⟨v,hv,hm⟩:=zbG (xs:=[.int 0,.int 500,.int 1000000,.int (c / 1200 / 4 % (1000000+1))]) (k:=c / 1200 % 4) (by ac_rfl) (by simp;ac_rfl)
  obtain ⟨u,rfl,u0⟩:=(zQ ⟨_,rfl,by ac_rfl⟩ (zQ ⟨_,rfl,by ac_rfl⟩ (zQ ⟨_,rfl,by ac_rfl⟩ (zQ ⟨_,rfl,by ac_rfl⟩ zen))):∀ v∈([.int 0,.int 500,.int 1000000,.int (c / 1200 / 4 % (1000000+1))]:List V),∃ w:Int,v=.int w/\0<=w/\w<=1000000) v hm
  nofun
  refine ⟨q3,_,_,_,rfl,rfl,SqL.of zf,hv,?_⟩
  clear hv hm
  generalize upd H3 q3 _=H4 at s3 ⊢
  have sC:=sB.trans s3
  nofun
  intro t2 nt2
  exact h t2 .rate D _ _ (zy sC nt2) (sC.trans (zb nt2 _)) zf ⟨d0,d1,d2,u0⟩
 case late =>
  intro t nt
  have st:=zb nt (.tup [.str "rate", .str "late"])
  nofun
  refine ⟨t,_,rfl,.inr (SqT.of zf),rfl,rfl,_,rfl,?_⟩
  generalize upd H2 t (.tup [.str "rate", .str "late"])=H3 at st ⊢
  have sB:=sA.trans st
  nofun
  intro q3 nq3
  have s3:=zb nq3 (.lst [.int 0,.int 500,.int 1000000,.int (c / 1200 / 4 % (1000000+1))])
  obtain ⟨v,hv,hm⟩:=zbG (xs:=[.int 0,.int 500,.int 1000000,.int (c / 1200 / 4 % (1000000+1))]) (k:=c / 1200 % 4) (by ac_rfl) (by simp;ac_rfl)
  obtain ⟨u,rfl,u0⟩:=(zQ ⟨_,rfl,by ac_rfl⟩ (zQ ⟨_,rfl,by ac_rfl⟩ (zQ ⟨_,rfl,by ac_rfl⟩ (zQ ⟨_,rfl,by ac_rfl⟩ zen))):∀ v∈([.int 0,.int 500,.int 1000000,.int (c / 1200 / 4 % (1000000+1))]:List V),∃ w:Int,v=.int w/\0<=w/\w<=1000000) v hm
  nofun
  refine ⟨q3,_,_,_,rfl,rfl,SqL.of zf,hv,?_⟩
  clear hv hm
  generalize upd H3 q3 _=H4 at s3 ⊢
  have sC:=sB.trans s3
  nofun
  intro t2 nt2
  exact h t2 .late D _ _ (zy sC nt2) (sC.trans (zb nt2 _)) zf ⟨d0,d1,d2,u0⟩
 case turn =>
  intro t nt
  have st:=zb nt (.tup [.str "rate", .str "late"])
  nofun
  refine ⟨t,_,rfl,.inr (SqT.of zf),rfl,rfl,_,rfl,?_⟩
  generalize upd H2 t (.tup [.str "rate", .str "late"])=H3 at st ⊢
  have sB:=sA.trans st
  nofun
  intro t2 nt2
  exact h t2 .turn D _ _ (zy sB nt2) (sB.trans (zb nt2 _)) zf ⟨d0,d1,d2,trivial⟩
 case still =>
  intro t nt
  have st:=zb nt (.tup [.str "rate", .str "late"])
  nofun
  refine ⟨t,_,rfl,.inr (SqT.of zf),rfl,rfl,_,rfl,?_⟩
  generalize upd H2 t (.tup [.str "rate", .str "late"])=H3 at st ⊢
  have sB:=sA.trans st
  nofun
  intro t2 nt2
  exact h t2 .still D _ _ (zy sB nt2) (sB.trans (zb nt2 _)) zf ⟨d0,d1,d2,by show D<_/\_<=b+79+0/\_<=1000000;dsimp only;split <;> ac_rfl⟩
 case fee =>
  intro t nt
  have st:=zb nt (.tup [.str "rate", .str "late"])
  nofun
  refine ⟨t,_,rfl,.inr (SqT.of zf),rfl,rfl,_,rfl,?_⟩
  generalize upd H2 t (.tup [.str "rate", .str "late"])=H3 at st ⊢
  have sB:=sA.trans st
  nofun
  intro q3 nq3
  have s3:=zb nq3 (.lst [.int 9,.int 1000000000,.int 1000000,.int 10000])
  obtain ⟨v,hv,hm⟩:=zbG (xs:=[.int 9,.int 1000000000,.int 1000000,.int 10000]) (k:=c / 1200 % 4) (by ac_rfl) (by simp;ac_rfl)
  obtain ⟨u,rfl,u0⟩:=(zQ ⟨_,rfl,by ac_rfl⟩ (zQ ⟨_,rfl,by ac_rfl⟩ (zQ ⟨_,rfl,by ac_rfl⟩ (zQ ⟨_,rfl,by ac_rfl⟩ zen))):∀ v∈([.int 9,.int 1000000000,.int 1000000,.int 10000]:List V),∃ w:Int,v=.int w/\0<w) v hm
  nofun
  refine ⟨q3,_,_,_,rfl,rfl,SqL.of zf,hv,?_⟩
  clear hv hm
  generalize upd H3 q3 _=H4 at s3 ⊢
  have sC:=sB.trans s3
  have m0:=ydy (c / 1200 / 4) (show u≠0 by ac_rfl)
  nofun
  all_goals
   intro t2 nt2
   exact h t2 .fee D _ _ (zy sC nt2) (sC.trans (zb nt2 _)) zf ⟨d0,d1,d2,trivial⟩
def zhs (K:W.Frag):Sp:=fun vs H Q _=>∃ n:Int,vs=[.int n]/\∀ c H',H c=none->Same H H'->zc0 K H' c (kdN n)->Q (.ref c) H'
theorem zlg:zk qam qam (zi zc9):=by walk_at "sp"
theorem zmd (S:Src K mg "_law_count" zc9 qam) (T:Txt K mg)  : Def P w K mg base 1 "_law_count" qam (zhs K):=by
 exists S.ok,zlg,0
 all_goals obtain ⟨n,rfl,h⟩:=h
 ·rfl
 refine ⟨_,(zg (zj (zq zC (zR (za (ziE (T.mk0 .plain) T.ziq) (za (ziE (T.mk0 .bank) T.zmy) (za (ziE (T.mk0 .thirty) T.zi1) (za (ziE (T.mk0 .exact) T.zkd) zc))))) (zh zH (pv 0) zd) (fun _ _=>rfl)))),?_⟩
 have c0:=ydy (n) (show (4:Int)≠0 by decide)
 have c1:=ydz (n) (show (0:Int)<4 by decide)
 have new:∀ (kd:Kd) (H1:Hp) (x dx:Addr),H1 x=none->H1 dx=none->dx≠x->Same H1 (upd (upd H1 dx (.own x)) x (.ins (cA K kd.cls) dx []))/\zc0 K (upd (upd H1 dx (.own x)) x (.ins (cA K kd.cls) dx [])) x kd:=fun kd H1 x dx nx nd ne =>
  ⟨(zb nd _).trans (zb (by rw[zt ne.symm];exact nx) _),dx,zf⟩
 nofun
 intro x1 d1 nx1 nd1 ne1
 obtain ⟨s1,i1⟩:=new .plain _ x1 d1 nx1 nd1 ne1
 generalize upd (upd H d1 (.own x1)) x1 (.ins (cA K Kd.plain.cls) d1 [])=H1 at s1 i1 ⊢
 nofun
 intro x2 d2 nx2 nd2 ne2
 obtain ⟨s2,i2⟩:=new .bank _ x2 d2 nx2 nd2 ne2
 generalize upd (upd H1 d2 (.own x2)) x2 (.ins (cA K Kd.bank.cls) d2 [])=H2 at s2 i2 ⊢
 nofun
 intro x3 d3 nx3 nd3 ne3
 obtain ⟨s3,i3⟩:=new .thirty _ x3 d3 nx3 nd3 ne3
 generalize upd (upd H2 d3 (.own x3)) x3 (.ins (cA K Kd.thirty.cls) d3 [])=H3 at s3 i3 ⊢
 nofun
 intro x4 d4 nx4 nd4 ne4
 obtain ⟨s4,i4⟩:=new .exact _ x4 d4 nx4 nd4 ne4
 generalize upd (upd H3 d4 (.own x4)) x4 (.ins (cA K Kd.exact.cls) d4 [])=H4 at s4 i4 ⊢
 nofun
 intro q nq
 have s5:=zb nq (.lst [.ref x1,.ref x2,.ref x3,.ref x4])
 have sA:=s1.trans (s2.trans (s3.trans (s4.trans s5)))
 nofun
 have:∃ x,atI [V.ref x1,V.ref x2,V.ref x3,V.ref x4] (n % 4)=some (.ref x)/\zc0 K H4 x (kdN n)/\H x=none:=by
  unfold kdN
  dsimp only
  rcases (show n % 4=0\/n % 4=1\/n % 4=2\/n % 4=3 by ac_rfl) with e | e | e | e <;> rw[e]
  ·exact ⟨x1,rfl,i1.same (s2.trans (s3.trans s4)),nx1⟩
  ·exact ⟨x2,rfl,i2.same (s3.trans s4),zy s1 nx2⟩
  ·exact ⟨x3,rfl,i3.same s4,zy (s1.trans s2) nx3⟩
  ·exact ⟨x4,rfl,i4,zy (s1.trans (s2.trans s3)) nx4⟩
 obtain ⟨x,ax,ix,nx⟩:=this
 refine ⟨q,_,_,_,rfl,rfl,SqL.of zf,ax,?_⟩
 exact h x _ nx sA (ix.same s5)
def zid (K:W.Frag):Sp:=fun vs H Q _=>L2.Ee5 fun q rs (es:List Er) w b=>L2.Aa6 (vs=[.ref q,.str w,.int b]) (SqL K H q rs) (RL3 H rs es) ((∀ e∈es,b<=e.2.1/\e.2.1<=b+129)) (es.length<=60) (∀ p H',H p=none->Same H H'->H' p=some (.lst ((tb fun k=>upto (prs w es) (b+k)).map V.int))->Q (.ref p) H')
theorem zdh:zk ["_law_specs_here", "_law_word", "_law_base", "_law_found", "_law_spec_here", "_law_k"] qay (zi zdG):=by walk_at "sp"
theorem znz (S:Src K mg "_law_sums" zdG qay) (T:Txt K mg)  : Def P w K mg base 1 "_law_sums" qay (zid K):=by
 exists S.ok,zdh,0
 all_goals obtain ⟨q,rs,es,w,b,rfl,hq,hR,ok,hl,h⟩:=h
 ·rfl
 refine ⟨_,(ze (zo (i:=3) zdh.nd rfl (by walk_at "lc") (zh zjT (zR (za zd zc)) zd))
  (ze (zaE PassesOwn.never rfl (zV (pv 0)) (zF (i:=4) zdh.nd rfl (by walk_at "lc"))
  (zg (zK (zr zaa (zq zO (pv 4) zd (fun _ _=>rfl)) (pv 1) (nomark _))
  (zg (zcl (zh zD (zq zC (pv 3) (zh zaj (zq zO (pv 4) zd (fun _ _=>rfl)) (pv 2)) (fun _ _=>rfl)) (zq zO (pv 4) zd (fun _ _=>rfl))) (zfa (pv 3) (zh zaj (zq zO (pv 4) zd (fun _ _=>rfl)) (pv 2)) set_list)))
   zA)))
  (ze (zaE PassesOwn.never rfl (zfw rfl T.zbN (za zd (za zd zc))) (zF (i:=5) zdh.nd rfl (by walk_at "lc"))
  (zg (zcl (zh zD (zq zC (pv 3) (pv 5) (fun _ _=>rfl)) (zq zC (pv 3) (zh zaj (pv 5) zd) (fun _ _=>rfl))) (zfa (pv 3) (pv 5) set_list))))
  (zg (zj (pv 3)))))),?_⟩
 have sz:=sizeLine_eq
 have xl:=hR.length
 nofun
 intro p0 np0
 have s0:=zb np0 (.lst [.int 0])
 nofun
 refine ⟨p0,130,_,rfl,rfl,zf,by decide,by decide,by rw[sz];decide,fun p np=>?_⟩
 rw[zgP,show yax ((130:Int).toNat) (V.int 0)=(tb fun _=>(0:Int)).map V.int by rw[<-zjC,yco];rfl]
 have s1:=s0.trans (zb np (.lst ((tb fun _=>(0:Int)).map V.int)))
 have npH:=zy s0 np
 have eP0:=zp (.lst ((tb fun _=>(0:Int)).map V.int)) np
 generalize upd (upd H p0 (.lst [.int 0])) p (.lst ((tb fun _=>(0:Int)).map V.int))=H1 at s1 eP0 ⊢
 nofun
 refine ⟨⟨_,s1.seq hq⟩,zbz (xs:=rs) (fun i σ H'=>∃ y1:Option V,(Same H H'/\H' p=some (.lst ((tb fun k=>Sby.sm (prs w (es.take i)) (b+k)).map V.int)))/\σ=[some (.ref q),some (.str w),some (.int b),some (.ref p),y1,none])
  ⟨_,⟨s1,eP0⟩,rfl⟩ ?_ ?_ ?_⟩
 ·rintro i σ H' _ ⟨_,⟨sH,_⟩,_⟩
  exact sH.seq hq
 ·rintro i x σ H' hx ⟨y1,⟨sH,eP⟩,rfl⟩
  obtain ⟨e,he,t,rfl,ht⟩:=(hR.same sH).get hx
  have tk:es.take (i+1)=es.take i++[e]:=by rw[ybi,he];rfl
  obtain ⟨o1,o2⟩:=ok e (yah he)
  rw[tk,ze8]
  nofun
  ·rename_i c
   have kk:(e.2.1-b).toNat<130:=by ac_rfl
   refine ⟨p,_,_,_,rfl,rfl,SqL.of eP,zcm (k:=(e.2.1-b).toNat) (by ac_rfl) kk,?_⟩
   nofun
   refine ⟨p,_,_,_,rfl,rfl,eP,zgF (by ac_rfl) (by rw[yab,zaU];ac_rfl),?_⟩
   refine ⟨_,⟨zM sH npH,?_⟩,rfl⟩
   rw[zf,<-ycw,zgy,if_pos (show isW w e=true from decide_eq_true c)]
   refine zeT fun k hk=>?_
   rw[Sby.zik (prs w (es.take i)) e.2.1 e.2.2]
   by_cases q:k=(e.2.1-b).toNat
   ·rw[if_pos q,if_pos (by ac_rfl),q]
   ·rw[if_neg q,if_neg (by ac_rfl),Int.add_zero]
  ·rename_i c
   rw[if_neg (show ¬ isW w e=true from fun z=>c (of_decide_eq_true z)),ybw]
   exact ⟨_,⟨sH,eP⟩,rfl⟩
 ·rintro σ H' ⟨y1,⟨sH,eP⟩,rfl⟩
  rw[xl,yas (ycz _)] at eP
  have lo:∀ s∈prs w es,b<=s.1:=fun s hs=>by
   obtain ⟨e,he,rfl⟩:=yae.mp hs
   exact (ok e (yaq.mp he).1).1
  nofun
  refine zbW (fun j σ H'=>∃ z:Option V,(Same H H'/\H' p=some (.lst ((tb fun k=>if k<=j then upto (prs w es) (b+k) else Sby.sm (prs w es) (b+k)).map V.int)))/\σ=[some (.ref q),some (.str w),some (.int b),some (.ref p),y1,z]) ⟨_,⟨sH,?_⟩,rfl⟩ ?_ ?_
  ·rw[eP]
   refine zeT fun k hk=>?_
   by_cases q:k<=0
   ·obtain rfl:k=0:=by ac_rfl
    rw[if_pos q,zmR lo]
   ·rw[if_neg q]
  ·rintro j σ H2 hj ⟨z,⟨sH2,eP2⟩,rfl⟩
   have hj':j<129:=hj
   nofun
   refine ⟨p,_,_,_,rfl,rfl,SqL.of eP2,zcm (k:=j+1) (by ac_rfl) (by ac_rfl),?_⟩
   nofun
   refine ⟨p,_,_,_,rfl,rfl,SqL.of eP2,zcm (k:=j) (by ac_rfl) (by ac_rfl),?_⟩
   nofun
   refine ⟨p,_,_,_,rfl,rfl,eP2,zgF (by ac_rfl) (by rw[yab,zaU];ac_rfl),?_⟩
   refine ⟨_,⟨zM sH2 npH,?_⟩,rfl⟩
   rw[zf,<-ycw,zgy,show (1+(j:Int)).toNat=j+1 by ac_rfl]
   exact congrArg (fun l=>some (HO.lst (l.map V.int))) zn2
  ·rintro σ H2 ⟨z,⟨sH2,eP2⟩,rfl⟩
   nofun
   refine h p H2 npH sH2 ?_
   rw[eP2]
   exact zeT fun k hk=>if_pos (show k<=129 by ac_rfl)
def zgE (K:W.Frag):Sp:=fun vs H Q _=>L2.Ee4 fun q rs (es:List Er) b=>L2.Aa6 (vs=[.ref q,.int b]) (SqL K H q rs) (RL3 H rs es) (Sps 3 b es) (es.length<=60) (∀ p H',H p=none->Same H H'->H' p=some (.lst ((tb (stF b es)).map V.bl))->Q (.ref p) H')
theorem zaS:zk ["_law_specs_here", "_law_base", "_law_found", "_law_word", "_law_day", "_law_thing", "_law_k"] qaz (zi zcv):=by walk_at "sp"
theorem zls (S:Src K mg "_law_stills" zcv qaz) (T:Txt K mg)  : Def P w K mg base 1 "_law_stills" qaz (zgE K):=by
 exists S.ok,zaS,0
 all_goals obtain ⟨q,rs,es,b,rfl,hq,hR,ok,hl,h⟩:=h
 ·rfl
 refine ⟨_,(ze (zo (i:=2) zaS.nd rfl (by walk_at "lc") (zh zjT (zR (za zaG zc)) zd))
  (ze (zaE PassesOwn.never rfl (zV (pv 0)) (zgs rfl (zal (zF (i:=3) zaS.nd rfl (by walk_at "lc")) (zal (zF (i:=4) zaS.nd rfl (by walk_at "lc")) (zal (zF (i:=5) zaS.nd rfl (by walk_at "lc")) zeN))))
  (zg (zK (zr zaa (pv 3) zv (nomark _))
  (zg (zaE PassesOwn.never rfl (zfw rfl T.zbN (za (zh zaj (pv 4) (pv 1)) (za (zh zaj (pv 5) (pv 1)) zc))) (zF (i:=6) zaS.nd rfl (by walk_at "lc"))
  (zg (zcl zaG (zfa (pv 2) (pv 6) set_list)))))
   zA)))
  (zg (zj (pv 2))))),?_⟩
 have sz:=sizeLine_eq
 have xl:=hR.length
 nofun
 intro p0 np0
 have s0:=zb np0 (.lst [.bl false])
 nofun
 refine ⟨p0,130,_,rfl,rfl,zf,by decide,by decide,by rw[sz];decide,fun p np=>?_⟩
 rw[zgP,show yax ((130:Int).toNat) (V.bl false)=(tb fun _=>false).map V.bl by rw[<-zjC,yco];rfl]
 have s1:=s0.trans (zb np (.lst ((tb fun _=>false).map V.bl)))
 have npH:=zy s0 np
 have eP0:=zp (.lst ((tb fun _=>false).map V.bl)) np
 generalize upd (upd H p0 (.lst [.bl false])) p (.lst ((tb fun _=>false).map V.bl))=H1 at s1 eP0 ⊢
 nofun
 refine ⟨⟨_,s1.seq hq⟩,zbz (xs:=rs) (fun i σ H'=>L2.Ee4 fun (y1 y2 y3 y4:Option V)=>(Same H H'/\H' p=some (.lst ((tb (stF b (es.take i))).map V.bl)))/\σ=[some (.ref q),some (.int b),some (.ref p),y1,y2,y3,y4])
  ⟨_,_,_,_,⟨s1,eP0⟩,rfl⟩ ?_ ?_ ?_⟩
 ·rintro i σ H' _ ⟨_,_,_,_,⟨sH,_⟩,_⟩
  exact sH.seq hq
 ·rintro i x σ H' hx ⟨y1,y2,y3,y4,⟨sH,eP⟩,rfl⟩
  obtain ⟨e,he,t,rfl,ht⟩:=(hR.same sH).get hx
  have tk:es.take (i+1)=es.take i++[e]:=by rw[ybi,he];rfl
  have oe:=ok e (yah he)
  rw[tk]
  nofun
  refine ⟨t,_,rfl,SqT.of ht,rfl,?_⟩
  nofun
  ·rename_i c
   have isS:isW "still" e=true:=decide_eq_true c
   obtain ⟨o3,o4,_⟩:=oe.still isS
   have o1:=oe.lo
   refine ⟨⟨by ac_rfl,by ac_rfl,by ac_rfl,by ac_rfl⟩,zbW (fun j σ H2=>∃ z:Option V,(Same H H2/\H2 p=some (.lst ((tb fun k=>stF b (es.take i) k || (decide (e.2.1<=b+k) && decide (b+k<e.2.1+j))).map V.bl)))/\σ=[some (.ref q),some (.int b),some (.ref p),some (.str e.1.word),some (.int e.2.1),some (.int e.2.2),z])
    ⟨_,⟨sH,?_⟩,rfl⟩ ?_ ?_⟩
   ·rw[eP]
    refine zim fun k hk=>?_
    by_cases q1:e.2.1<=b+k
    ·rw[decide_eq_false (p:=b+(k:Int)<e.2.1+((0:Nat):Int)) (by ac_rfl),Bool.and_false,Bool.or_false]
    ·rw[decide_eq_false q1,Bool.false_and,Bool.or_false]
   ·rintro j σ H2 hj ⟨z,⟨sH2,eP2⟩,rfl⟩
    have hj':e.2.1+(j:Int)<e.2.2:=by ac_rfl
    nofun
    refine ⟨p,_,_,_,rfl,rfl,eP2,zgF (by ac_rfl) (by rw[yab,zaU];ac_rfl),?_⟩
    refine ⟨_,⟨zM sH2 npH,?_⟩,rfl⟩
    rw[zf,<-ycw,zgy]
    refine zim fun k hk=>?_
    by_cases q1:k=(e.2.1-b+(j:Int)).toNat
    ·rw[if_pos q1,decide_eq_true (p:=e.2.1<=b+(k:Int)) (by ac_rfl),decide_eq_true (p:=b+(k:Int)<e.2.1+((j+1:Nat):Int)) (by ac_rfl),Bool.and_true,Bool.or_true]
    ·rw[if_neg q1]
     by_cases q2:b+(k:Int)<e.2.1+(j:Int)
     ·rw[decide_eq_true q2,decide_eq_true (p:=b+(k:Int)<e.2.1+((j+1:Nat):Int)) (by ac_rfl)]
     ·rw[decide_eq_false q2,decide_eq_false (p:=b+(k:Int)<e.2.1+((j+1:Nat):Int)) (by ac_rfl)]
   ·rintro σ H2 ⟨z,⟨sH2,eP2⟩,rfl⟩
    refine ⟨_,_,_,_,⟨sH2,?_⟩,rfl⟩
    rw[eP2]
    refine zim fun k hk=>?_
    unfold stF
    rw[ze8,if_pos isS,zp5,show e.2.1+(((e.2.2-b-(e.2.1-b)).toNat:Nat):Int)=e.2.2 by ac_rfl]
  ·rename_i c
   have isS:¬ isW "still" e=true:=fun z=>c (of_decide_eq_true z)
   nofun
   refine ⟨_,_,_,_,⟨sH,?_⟩,rfl⟩
   rw[eP]
   refine zim fun k hk=>?_
   unfold stF
   rw[ze8,if_neg isS,ybw]
 ·rintro σ H' ⟨y1,y2,y3,y4,⟨sH,eP⟩,rfl⟩
  rw[xl,yas (ycz _)] at eP
  nofun
  exact h p H' npH sH eP
def zhp (K:W.Frag):Sp:=fun vs H Q _=>L2.Ee6 fun q rs (es:List Er) g s b=>L2.Aa8 (vs=[.ref q,.int g,.ref s,.int b]) (SqL K H q rs) (RL3 H rs es) (Sps 3 b es) (es.length<=60) ((0<=g/\g<=40)) (SqL K H s ((tb (stF b es)).map V.bl)) (∀ p H',H p=none->Same H H'->H' p=some (.lst ((tb fun k=>upto (zeZ g es) (b+k)).map V.int))->Q (.ref p) H')
theorem zaw:zk ["_law_specs_here", "_law_grace", "_law_still", "_law_base", "_law_found", "_law_word", "_law_day", "_law_thing", "_law_at", "_law_k"] qba (zi zcT):=by walk_at "sp"
theorem zmb (S:Src K mg "_law_lates" zcT qba) (T:Txt K mg)  : Def P w K mg base 1 "_law_lates" qba (zhp K):=by
 exists S.ok,zaw,0
 all_goals obtain ⟨q,rs,es,g,s,b,rfl,hq,hR,ok,hl,⟨g0,g1⟩,hs,h⟩:=h
 ·rfl
 refine ⟨_,(ze (zo (i:=4) zaw.nd rfl (by walk_at "lc") (zh zjT (zR (za zd zc)) zd))
  (ze (zaE PassesOwn.never rfl (zV (pv 0)) (zgs rfl (zal (zF (i:=5) zaw.nd rfl (by walk_at "lc")) (zal (zF (i:=6) zaw.nd rfl (by walk_at "lc")) (zal (zF (i:=7) zaw.nd rfl (by walk_at "lc")) zeN))))
  (zg (zK (zr zaa (pv 5) zv (nomark _))
  (ze (zo (i:=8) zaw.nd rfl (by walk_at "lc") (zh zaj (pv 6) (pv 3)))
  (ze (zme PassesOwn.never (zch (zq zC (pv 2) (pv 8) (fun _ _=>rfl)))
  (zg (zo (i:=8) zaw.nd rfl (by walk_at "lc") (zh zD (pv 8) zd))))
  (zg (zcl (zh zD (zq zC (pv 4) (zh zD (pv 8) (pv 1)) (fun _ _=>rfl)) (pv 7)) (zfa (pv 4) (zh zD (pv 8) (pv 1)) set_list)))))
   zA)))
  (ze (zaE PassesOwn.never rfl (zfw rfl T.zbN (za zd (za zd zc))) (zF (i:=9) zaw.nd rfl (by walk_at "lc"))
  (zg (zcl (zh zD (zq zC (pv 4) (pv 9) (fun _ _=>rfl)) (zq zC (pv 4) (zh zaj (pv 9) zd) (fun _ _=>rfl))) (zfa (pv 4) (pv 9) set_list))))
  (zg (zj (pv 4)))))),?_⟩
 have sz:=sizeLine_eq
 have xl:=hR.length
 nofun
 intro p0 np0
 have s0:=zb np0 (.lst [.int 0])
 nofun
 refine ⟨p0,130,_,rfl,rfl,zf,by decide,by decide,by rw[sz];decide,fun p np=>?_⟩
 rw[zgP,show yax ((130:Int).toNat) (V.int 0)=(tb fun _=>(0:Int)).map V.int by rw[<-zjC,yco];rfl]
 have s1:=s0.trans (zb np (.lst ((tb fun _=>(0:Int)).map V.int)))
 have npH:=zy s0 np
 have eP0:=zp (.lst ((tb fun _=>(0:Int)).map V.int)) np
 generalize upd (upd H p0 (.lst [.int 0])) p (.lst ((tb fun _=>(0:Int)).map V.int))=H1 at s1 eP0 ⊢
 nofun
 refine ⟨⟨_,s1.seq hq⟩,zbz (xs:=rs) (fun i σ H'=>L2.Ee4 fun (y1 y2 y3 y4:Option V)=>(Same H H'/\H' p=some (.lst ((tb fun k=>Sby.sm (zlF g es (es.take i)) (b+k)).map V.int)))/\σ=[some (.ref q),some (.int g),some (.ref s),some (.int b),some (.ref p),y1,y2,y3,y4,none])
  ⟨_,_,_,_,⟨s1,eP0⟩,rfl⟩ ?_ ?_ ?_⟩
 ·rintro i σ H' _ ⟨_,_,_,_,⟨sH,_⟩,_⟩
  exact sH.seq hq
 ·rintro i x σ H' hx ⟨y1,y2,y3,y4,⟨sH,eP⟩,rfl⟩
  obtain ⟨e,he,t,rfl,ht⟩:=(hR.same sH).get hx
  have tk:es.take (i+1)=es.take i++[e]:=by rw[ybi,he];rfl
  have oe:=ok e (yah he)
  rw[tk]
  nofun
  refine ⟨t,_,rfl,SqT.of ht,rfl,?_⟩
  nofun
  ·have isS:isW "due" e=true:=decide_eq_true (by assumption)
   have o1:=oe.lo
   have o2:=oe.hi
   refine ⟨fun n σ H2=>H'=H2/\∃ k:Nat,σ=[some (.ref q),some (.int g),some (.ref s),some (.int b),some (.ref p),some (.str e.1.word),some (.int e.2.1),some (.int e.2.2),some (.int k),none]/\e.2.1<=b+k/\k<=82/\(∀ x,e.2.1<=x->x<b+k->Spans.Cov (prs "still" es) x)/\n=130-k,⟨_,rfl,(e.2.1-b).toNat,?_,by ac_rfl,by ac_rfl,fun x h1 h2=>by ac_rfl,rfl⟩,?_⟩
   ·rw[show (((e.2.1-b).toNat:Nat):Int)=e.2.1-b by ac_rfl];rfl
   rintro n σ H2 ⟨rfl,k,rfl,k0,k1,cv,rfl⟩
   nofun
   refine ⟨s,_,_,_,rfl,rfl,sH.seq hs,zp1 (k:=k) rfl (by ac_rfl),?_⟩
   cases c2:stF b es k with
   | true =>
    have hc:=Spans.zcE.mp c2
    have kk:k+1<=82:=by
     obtain ⟨u,hu,h1,h2⟩:=hc
     obtain ⟨e2,he2,rfl⟩:=yae.mp hu
     obtain ⟨m1,m2⟩:=yaq.mp he2
     have:=((ok e2 m1).still m2).2.1
     ac_rfl
    nofun
    refine ⟨_,fun σ' H' z=>z,?_⟩
    nofun
    refine ⟨130-(k+1),by ac_rfl,rfl,k+1,rfl,by ac_rfl,kk,fun x h1 h2=>?_,rfl⟩
    rcases yeb x (b+k) with g | g
    ·exact cv x h1 g
    ·obtain rfl:x=b+k:=by ac_rfl
     exact hc
   | false =>
    have hc:¬ Spans.Cov (prs "still" es) (b+k):=fun z=>by
     have:=Spans.zcE.mpr z
     unfold stF at c2
     rw[this] at c2
     cases c2
    have em:b+k=mvd (prs "still" es) e.2.1:=zmg ⟨k0,hc,cv⟩
    nofun
    refine ⟨p,_,_,_,rfl,rfl,SqL.of eP,zcm (k:=k+g.toNat) (by ac_rfl) (by ac_rfl),?_⟩
    nofun
    refine ⟨p,_,_,_,rfl,rfl,eP,zgF (by ac_rfl) (by rw[yab,zaU];ac_rfl),?_⟩
    refine ⟨_,_,_,_,⟨zM sH npH,?_⟩,rfl⟩
    rw[zf,<-ycw,zgy]
    refine zeT fun j hj=>?_
    rw[zjV,if_pos isS,Sby.zik,<-em]
    by_cases q1:j=((k:Int)+g).toNat
    ·rw[if_pos q1,if_pos (by ac_rfl),show j=k+g.toNat by ac_rfl]
    ·rw[if_neg q1,if_neg (by ac_rfl),Int.add_zero]
  ·rename_i c
   have isS:¬ isW "due" e=true:=fun z=>c (of_decide_eq_true z)
   nofun
   refine ⟨_,_,_,_,⟨sH,?_⟩,rfl⟩
   rw[eP,zjV,if_neg isS,ybw]
 ·rintro σ H' ⟨y1,y2,y3,y4,⟨sH,eP⟩,rfl⟩
  rw[xl,yas (ycz _)] at eP
  have lo:=zlW ok g0
  nofun
  refine zbW (fun j σ H'=>∃ z:Option V,(Same H H'/\H' p=some (.lst ((tb fun k=>if k<=j then upto (zeZ g es) (b+k) else Sby.sm (zeZ g es) (b+k)).map V.int)))/\σ=[some (.ref q),some (.int g),some (.ref s),some (.int b),some (.ref p),y1,y2,y3,y4,z]) ⟨_,⟨sH,?_⟩,rfl⟩ ?_ ?_
  ·rw[eP]
   show some (HO.lst ((tb fun k=>Sby.sm (zeZ g es) (b+k)).map V.int))=_
   refine zeT fun k hk=>?_
   by_cases q:k<=0
   ·obtain rfl:k=0:=by ac_rfl
    rw[if_pos q,zmR lo]
   ·rw[if_neg q]
  ·rintro j σ H2 hj ⟨z,⟨sH2,eP2⟩,rfl⟩
   have hj':j<129:=hj
   nofun
   refine ⟨p,_,_,_,rfl,rfl,SqL.of eP2,zcm (k:=j+1) (by ac_rfl) (by ac_rfl),?_⟩
   nofun
   refine ⟨p,_,_,_,rfl,rfl,SqL.of eP2,zcm (k:=j) (by ac_rfl) (by ac_rfl),?_⟩
   nofun
   refine ⟨p,_,_,_,rfl,rfl,eP2,zgF (by ac_rfl) (by rw[yab,zaU];ac_rfl),?_⟩
   refine ⟨_,⟨zM sH2 npH,?_⟩,rfl⟩
   rw[zf,<-ycw,zgy,show (1+(j:Int)).toNat=j+1 by ac_rfl]
   exact congrArg (fun l=>some (HO.lst (l.map V.int))) zn2
  ·rintro σ H2 ⟨z,⟨sH2,eP2⟩,rfl⟩
   nofun
   refine h p H2 npH sH2 ?_
   rw[eP2]
   exact zeT fun k hk=>if_pos (show k<=129 by ac_rfl)
def zho (P:Program) (w:World) (K:W.Frag):Sp:=fun vs H Q _=>L2.Ee6 fun q rs (es:List Er) ww s b=>L2.Aa8 (vs=[.ref q,.str ww,.ref s,.int b]) (SqL K H q rs) (RL3 H rs es) ((∀ e∈es,b<=e.2.1)) (0<=b) (es.length<=60) (SqL K H s ((tb (stF b es)).map V.bl)) (∀ p H',H p=none->Same H H'->H' p=some (.lst ((tb fun k=>chv (prs ww es) (prs "still" es) (b+k)).map V.int))->Q (.ref p) H')
theorem zaH:zk ["_law_specs_here", "_law_word", "_law_still", "_law_base", "_law_starts", "_law_spec_here", "_law_found", "_law_now", "_law_k"] qbb (zi zc1):=by walk_at "sp"
theorem zlU (S:Src K mg "_law_rates" zc1 qbb) (T:Txt K mg)  : Def P w K mg base 1 "_law_rates" qbb (zho P w K):=by
 exists S.ok,zaH,0
 all_goals obtain ⟨q,rs,es,ww,s,b,rfl,hq,hR,ok,b0,hl,hs,h⟩:=h
 ·rfl
 refine ⟨_,(ze (zo (i:=4) zaH.nd rfl (by walk_at "lc") zql)
  (ze (zaE PassesOwn.never rfl (zV (pv 0)) (zF (i:=5) zaH.nd rfl (by walk_at "lc"))
  (zg (zK (zr zaa (zq zO (pv 5) zd (fun _ _=>rfl)) (pv 1) (nomark _))
  (zg (zrx (pv 4) (zh zaj (zq zO (pv 5) zd (fun _ _=>rfl)) (pv 3)) (zq zO (pv 5) zd (fun _ _=>rfl))))
   zA)))
  (ze (zo (i:=6) zaH.nd rfl (by walk_at "lc") (zR zc))
  (ze (zo (i:=7) zaH.nd rfl (by walk_at "lc") zd)
  (ze (zaE PassesOwn.never rfl (zfE rfl T.zbN (za zd zc)) (zF (i:=8) zaH.nd rfl (by walk_at "lc"))
  (ze (zo (i:=7) zaH.nd rfl (by walk_at "lc") (zrX (pv 4) (pv 8) (pv 7)))
  (zg (zbM (zil PySem.F.plainAttrs_list PySem.F.slot_list_append PySem.F.type_list_append zcF (pv 6) (za (zq zC (zR (za (pv 7) (za zd zc))) (zW zfA rfl T.zfD PyProof.Rows.boot_int (za (zq zC (pv 2) (pv 8) (fun _ _=>rfl)) zc)) (fun _ _=>rfl)) zc))))))
  (zg (zj (pv 6)))))))),?_⟩
 have sz:=sizeLine_eq
 have xl:=hR.length
 nofun
 intro d ep0 nd
 have sd:=zb nd (zb7 P w d [] ep0)
 have ed:=zp (zb7 P w d [] ep0) nd
 nofun
 refine ⟨⟨_,sd.seq hq⟩,zbz (xs:=rs) (fun i σ H'=>∃ (ep:Nat) (z1:Option V),(Same H H'/\H' d=some (zb7 P w d (zcg (shf (-b) (prs ww (es.take i)))) ep))/\σ=[some (.ref q),some (.str ww),some (.ref s),some (.int b),some (.ref d),z1,none,none,none])
  ⟨ep0,_,⟨sd,ed⟩,rfl⟩ ?_ ?_ ?_⟩
 ·rintro i σ H' _ ⟨ep,z1,⟨sH,_⟩,_⟩
  exact sH.seq hq
 ·rintro i x σ H' hx ⟨ep,z1,⟨sH,eD⟩,rfl⟩
  obtain ⟨e,he,t,rfl,ht⟩:=(hR.same sH).get hx
  have tk:es.take (i+1)=es.take i++[e]:=by rw[ybi,he];rfl
  have il:i<es.length:=(yad.mp he).1
  have al:=ziP (shf (-b) (prs ww (es.take i)))
  have pl:=zeO (w:=ww) (es:=es.take i)
  rw[yao] at pl
  rw[show (shf (-b) (prs ww (es.take i))).length=(prs ww (es.take i)).length from yab ..] at al
  rw[tk,ze8]
  nofun
  ·rename_i c
   rw[if_pos (show isW ww e=true from decide_eq_true c),zqf,Dct.zkU]
   refine ⟨d,_,e.2.1-b,_,ep,rfl,rfl,rfl,eD,by ac_rfl,fun ep'=>?_⟩
   exact ⟨ep',_,⟨zM sH nd,zf⟩,rfl⟩
  ·rename_i c
   rw[if_neg (show ¬ isW ww e=true from fun z=>c (of_decide_eq_true z)),ybw]
   exact ⟨ep,_,⟨sH,eD⟩,rfl⟩
 ·rintro σ H' ⟨ep,z1,⟨sH,eD⟩,rfl⟩
  rw[xl,yas (ycz _)] at eD
  have lo:∀ s∈prs ww es,b<=s.1:=fun s hs=>by
   obtain ⟨e,he,rfl⟩:=yae.mp hs
   exact ok e (yaq.mp he).1
  nofun
  intro p np
  have np':=zy sH np
  have s2:=sH.trans (zb np (.lst []))
  have eP:=zp (.lst []) np
  have eD2:=zb np (.lst []) _ _ eD
  nofun
  refine zbW (fun j σ H'=>∃ z:Option V,(Same H H'/\H' p=some (.lst (((yar j).map fun k:Nat=>chv (prs ww es) (prs "still" es) (b+k)).map V.int)))/\H' d=some (zb7 P w d (zcg (shf (-b) (prs ww es))) ep)/\σ=[some (.ref q),some (.str ww),some (.ref s),some (.int b),some (.ref d),z1,some (.ref p),some (.int (Sums.valOf (prs ww es) (b+j-1))),z]) ⟨none,⟨s2,eP⟩,eD2,?_⟩ ?_ ?_
  ·rw[Sums.zdq (fun s hs=>Int.le_trans b0 (lo s hs)) fun s hs=>by have:=lo s hs;ac_rfl]
   rfl
  ·rintro j σ H2 hj ⟨z,⟨sH2,eP2⟩,eD3,rfl⟩
   have hj':j<130:=hj
   have vs:=zqJ b0 lo (j:Int)
   nofun
   refine ⟨d,_,ep,rfl,eD3,?_⟩
   nofun
   refine ⟨eD3,?_⟩
   rw[yea,vs]
   clear vs
   nofun
   refine ⟨.inl ⟨rfl,_,SqL.of eP2⟩,?_⟩
   nofun
   intro l nl
   have sl:=zb nl (.lst [.int (Sums.valOf (prs ww es) (b+j)),.int 0])
   have el:=zp (.lst [.int (Sums.valOf (prs ww es) (b+j)),.int 0]) nl
   have eP3:=sl _ _ eP2
   have eD4:=sl _ _ eD3
   have sH3:=sH2.trans sl
   generalize upd H2 l (.lst [.int (Sums.valOf (prs ww es) (b+j)),.int 0])=H3 at el eP3 eD4 sH3 ⊢
   nofun
   refine ⟨s,_,_,_,rfl,rfl,sH3.seq hs,zp1 (k:=j) (by ac_rfl) hj',?_⟩
   refine .inr ⟨_,rfl,?_⟩
   refine ⟨l,_,_,.int (chv (prs ww es) (prs "still" es) (b+j)),rfl,rfl,SqL.of el,?_,?_⟩
   ·unfold chv stF
    cases Spans.isIn (prs "still" es) (b+j) <;> rfl
   nofun
   refine ⟨p,_,_,rfl,rfl,eP3,by rw[yab,yab,ybu];ac_rfl,?_⟩
   refine ⟨some (.int j),⟨zM sH3 np',?_⟩,?_,?_⟩
   ·rw[zf,zqH,yat]
    rfl
   ·rw[zt (za6 eD4 eP3 (by unfold zb7;intro z;cases z))]
    exact eD4
   ·rw[show b+((j+1:Nat):Int)-1=b+j by ac_rfl]
    rfl
  ·rintro σ H2 ⟨z,⟨sH2,eP2⟩,eD3,rfl⟩
   nofun
   exact h p H2 np' sH2 eP2
def zgJ (K:W.Frag):Sp:=fun vs H Q _=>L2.Ee8 fun t u m b g g' es es'=>L2.Aa5 (vs=[.ref t,.ref u,.int m]) (zd2 H t b g es) (zd2 H u b g' es') ((0<=m/\m<=130)) (∀ v:Bool,(v=true↔zsQ b g g' es es' m)->Q (.bl v) H)
theorem zca:zk ["_law_one", "_law_other", "_law_many", "_law_mine", "_law_yours", "_law_k"] qbc (zi zcu):=by walk_at "sp"
theorem zlm (S:Src K mg "_law_kinder" zcu qbc) (T:Txt K mg)  : Def P w K mg base 1 "_law_kinder" qbc (zgJ K):=by
 exists S.okF,zca,0
 all_goals obtain ⟨t,u,m,b,g,g',es,es',rfl,TA,UA,⟨m0,m1⟩,h⟩:=h
 ·rfl
 refine ⟨_,(ze (zK (zr (zmK hr.units) (zq zO (pv 0) zd (fun _ _=>rfl)) (zq zO (pv 1) zd (fun _ _=>rfl)) (nomark _))
  (zg (zj zaG))
   zA)
  (ze (zaE PassesOwn.never rfl (zr6 rfl T.zoO (za (zq zO (pv 0) zd (fun _ _=>rfl)) (za (zq zO (pv 1) zd (fun _ _=>rfl)) zc))) (zgs rfl (zal (zF (i:=3) zca.nd rfl (by walk_at "lc")) (zal (zF (i:=4) zca.nd rfl (by walk_at "lc")) zeN)))
  (zg (zaE PassesOwn.never rfl (zfE rfl T.zbN (za (pv 2) zc)) (zF (i:=5) zca.nd rfl (by walk_at "lc"))
  (zg (zK (zr zdK (zq zC (pv 3) (pv 5) (fun _ _=>rfl)) (zq zC (pv 4) (pv 5) (fun _ _=>rfl)) (nomark _))
  (zg (zj zaG))
   zA)))))
  (zg (zj zaG)))),?_⟩
 have sz:=sizeLine_eq
 obtain ⟨o1,r1,rs1,t1,t2,t3,t4⟩:=TA.is_
 obtain ⟨o2,r2,rs2,u1,u2,u3,u4⟩:=UA.is_
 nofun
 refine ⟨_,_,.lst (SqL.of t2) (zbr.ints _),.lst (SqL.of u2) (zbr.ints _),shaped_ints _,shaped_ints _,?_⟩
 rw[zi6]
 by_cases oe:tb (outF b es)=tb (outF b es')
 rotate_left
 ·rw[decide_eq_false oe]
  nofun
  exact ⟨Same.refl _,h false ⟨fun z=>(by cases z),fun z=>absurd (zlE z.1) oe⟩⟩
 rw[decide_eq_true oe]
 have oe':∀ k,k<130->outF b es k=outF b es' k:=fun k hk=>zsz oe hk
 clear oe
 nofun
 refine ⟨⟨_,SqL.of t3⟩,⟨_,SqL.of u3⟩,zr0 (xs:=rs1) (ys:=rs2) (fun i σ H'=>∃ y1 y2 y3:Option V,Same H H'/\(∀ i',i'<i->∀ k:Nat,(k:Int)<m->rwF b g es i' k<=rwF b g' es' i' k)/\σ=[some (.ref t),some (.ref u),some (.int m),y1,y2,y3]) ⟨_,_,_,Same.refl _,fun i' z=>absurd z (ydl _),rfl⟩ ?_ ?_ ?_⟩
 ·rintro i σ H' _ _ ⟨_,_,_,sH,_⟩
  exact ⟨SqL.of (sH _ _ t3),SqL.of (sH _ _ u3)⟩
 ·rintro i x y σ H' p hx hy ⟨y1,y2,y3,sH,al,rfl⟩ np
  obtain ⟨l1,e1,p1,rfl,h1⟩:=t4.get hx
  obtain ⟨l2,e2,p2,rfl,h2⟩:=u4.get hy
  obtain ⟨i6,rfl⟩:=zpN e1
  obtain ⟨_,rfl⟩:=zpN e2
  have s2:=sH.trans (zb np (.tup [.ref p1,.ref p2]))
  have ep:=zp (.tup [.ref p1,.ref p2]) np
  generalize upd H' p (.tup [.ref p1,.ref p2])=H2 at s2 ep ⊢
  have h1':=s2 _ _ h1
  have h2':=s2 _ _ h2
  refine ⟨p,_,rfl,SqT.of ep,rfl,?_⟩
  nofun
  refine zbW (fun k σ H3=>H2=H3/\∃ z:Option V,(∀ k':Nat,k'<k->rwF b g es i k'<=rwF b g' es' i k')/\σ=[some (.ref t),some (.ref u),some (.int m),some (.ref p1),some (.ref p2),z]) ⟨rfl,_,fun k' z=>absurd z (ydl _),rfl⟩ ?_ ?_
  ·rintro k σ H3 hk ⟨rfl,z,al2,rfl⟩
   have hk':(k:Int)<m:=by ac_rfl
   nofun
   refine ⟨p1,_,_,_,rfl,rfl,SqL.of h1',zcm (k:=k) (by ac_rfl) (by ac_rfl),?_⟩
   nofun
   refine ⟨p2,_,_,_,rfl,rfl,SqL.of h2',zcm (k:=k) (by ac_rfl) (by ac_rfl),?_⟩
   nofun
   ·rename_i c
    exact h false ⟨fun z=>(by cases z),fun z=>absurd (z.2 i i6 k hk') (by ac_rfl)⟩
   ·rename_i c
    refine ⟨_,fun k' z=>?_,rfl⟩
    rcases Nat.lt_or_ge k' k with q | q
    ·exact al2 k' q
    ·obtain rfl:k'=k:=by ac_rfl
     ac_rfl
  ·rintro σ H3 ⟨rfl,z,al2,rfl⟩
   refine ⟨_,_,_,s2,fun i' z k hk=>?_,rfl⟩
   rcases Nat.lt_or_ge i' i with q | q
   ·exact al i' q k hk
   ·obtain rfl:i'=i:=by ac_rfl
    exact al2 k (by ac_rfl)
 ·rintro i σ H' _ _ ie ⟨y1,y2,y3,sH,al,rfl⟩
  have l1:rs1.length=6:=t4.length
  have l2:rs2.length=6:=u4.length
  nofun
  exact h true ⟨fun _=>⟨oe',fun i hi k hk=>al i (by ac_rfl) k hk⟩,fun _=>rfl⟩
def zgv (K:W.Frag):Sp:=fun vs H Q _=>L2.Ee6 fun q rs (es:List Er) c b n=>L2.Aa7 (vs=[.ref q,.int c]) (H q=some (.lst rs)) (RL3 H rs es) (Sps n b es) (es.length<=60) (0<=c) (∀ q' rs' (es':List Er) H',(H q'=none\/q'=q)->Same H H'->H' q'=some (.lst rs')->RL3 H' rs' es'->Sps n b es'->es.length<=es'.length/\es'.length<=es.length+1->Q (.ref q') H')
theorem zaC:zk ["_law_specs_here", "_law_cell_here", "_law_some", "_law_at", "_law_word", "_law_day", "_law_thing", "_law_part"] qai (zi zcw):=by walk_at "sp"
theorem zk8 (S:Src K mg "_law_parted" zcw qai) (T:Txt K mg)  : Def P w K mg base 1 "_law_parted" qai (zgv K):=by
 exists S.ok,zaC,0
 all_goals obtain ⟨q,rs,es,c,b,n,rfl,hq,hR,ok,l1,c0,h⟩:=h
 ·rfl
 refine ⟨_,(ze (zhG (i:=2) zaC.nd rfl rfl (ix:=[0]) ⟨rfl,by decide +kernel,rfl,by decide +kernel,rfl,(show (["_law_k", "_law_specs_here"]:List Str).Nodup by decide +kernel),by walk_at "cap", by walk_at "sub", by walk_at "has"⟩ (zfE rfl T.zbN (za (zw zag rfl T.zbx PySem.boot_len (za (pv 0) zc)) zc)) (fun b=>(PW.pt (ze7 (zr zaa (zq (zaR K) (zq (zmo K) (pv 1) (pv 0) (fun _ _=>rfl)) zd (fun _ _=>rfl)) zv (nomark _)) (zgw (zr zdK (zq (zaR K) (zq (zmo K) (pv 1) (pv 0) (fun _ _=>rfl)) zd (fun _ _=>rfl)) zd (nomark _)))))) (fun b=>(pv 0)))
  (ze (zK (PW.pt (zlG (zr (zr7 hr.units) (pv 2) (zR zc) (nomark _)) (zmF (zr zaa (zh zH (pv 1) zd) zd (nomark _)))))
  (zg (zj (pv 0)))
   zA)
  (ze (zo (i:=3) zaC.nd rfl (by walk_at "lc") (zq zC (pv 2) (zh zH (zh zad (pv 1) zd) (zw zag rfl T.zbx PySem.boot_len (za (pv 2) zc))) (fun _ _=>rfl)))
  (ze (zcl (zq zC (pv 0) (pv 3) (fun _ _=>rfl)) (zgs rfl (zal (zF (i:=4) zaC.nd rfl (by walk_at "lc")) (zal (zF (i:=5) zaC.nd rfl (by walk_at "lc")) (zal (zF (i:=6) zaC.nd rfl (by walk_at "lc")) zeN)))))
  (ze (zo (i:=7) zaC.nd rfl (by walk_at "lc") (zh zD zd (zh zH (zh zad (pv 1) zd) (zh zaj (pv 6) zd))))
  (zg (zj (zh zaV (zh zaV (zh zaV (zaJ za1 (pv 0) za4 (za3 (pv 3))) (zR (za (zab (za (pv 4) (za (pv 5) (za (pv 7) zc)))) zc))) (zaJ za1 (pv 0) (za3 (zh zD (pv 3) zd)) za4)) (zR (za (zab (za (pv 4) (za (pv 5) (za (zh zaj (pv 6) (pv 7)) zc)))) zc)))))))))),?_⟩
 have sz:=sizeLine_eq
 have xl:=hR.length
 nofun
 refine ⟨q,rs,rfl,.inl (SqL.of hq),?_⟩
 refine ⟨_,rfl,by ac_rfl,by ac_rfl,fun l nl=>?_⟩
 have at_:∀ i:Nat,i<es.length->∃ e t,es[i]?=some e/\rs[i]?=some (.ref t)/\H t=some (.tup (zaK e.1 e.2.1 e.2.2)):=fun i hi=>by
  obtain ⟨v,hv⟩:∃ v,rs[i]?=some v:=⟨_,yaa (by ac_rfl)⟩
  obtain ⟨e,he,t,rfl,ht⟩:=hR.get hv
  exact ⟨e,t,he,hv,ht⟩
 refine zpu nl (by ac_rfl) (fun i=>((es[i]?).map fun e=>isW "out" e && decide (1<e.2.2)).getD false) ?_ ?_ ?_
 ·rintro i H' Q' hi sH hq'
  obtain ⟨e,t,he,hv,ht⟩:=at_ i (by ac_rfl)
  have ht':=sH _ _ ht
  rw[he] at hq'
  have hq2:Q' (isW "out" e && decide (1<e.2.2)) H':=hq'
  nofun
  refine ⟨q,_,_,_,rfl,rfl,SqL.of (sH _ _ hq),by rw[yea];exact zay hv,?_⟩
  nofun
  ·rename_i c1
   refine ⟨q,_,_,_,rfl,rfl,SqL.of (sH _ _ hq),by rw[yea];exact zay hv,?_⟩
   nofun
   rw[show isW "out" e=true from decide_eq_true c1,Bool.true_and] at hq2
   exact hq2
  ·rename_i c1
   rw[show isW "out" e=false from decide_eq_false c1,Bool.false_and] at hq2
   exact hq2
 ·rintro i H' Q' hi fe sH hq'
  nofun
  exact hq'
 obtain ⟨ps,hps⟩:∃ ps:List Nat,ps=(yar (rs.length:Int).toNat).filter fun i=>((es[i]?).map fun e=>isW "out" e && decide (1<e.2.2)).getD false:=⟨_,rfl⟩
 rw[<-hps]
 have pok:∀ i∈ps,∃ e t,(es[i]?=some e/\rs[i]?=some (.ref t)/\H t=some (.tup (zaK e.1 e.2.1 e.2.2)))/\isW "out" e=true/\1<e.2.2:=fun i hi=>by
  rw[hps] at hi
  obtain ⟨h1,h2⟩:=yaq.mp hi
  rw[yci] at h1
  obtain ⟨e,t,he,hv,ht⟩:=at_ i (by ac_rfl)
  rw[he] at h2
  have h3:(isW "out" e && decide (1<e.2.2))=true:=h2
  rw[Bool.and_eq_true] at h3
  exact ⟨e,t,⟨he,hv,ht⟩,h3.1,of_decide_eq_true h3.2⟩
 clear hps
 have pm:(ps.map fun i:Nat=>V.int ((0:Int)+(i:Int)))=(ps.map fun i:Nat=>(i:Int)).map V.int:=by rw[ybv];exact ybm fun i _=>by rw[yea];rfl
 rw[pm]
 have s1:=zb nl (.lst ((ps.map fun i:Nat=>(i:Int)).map V.int))
 have e1:=zp (.lst ((ps.map fun i:Nat=>(i:Int)).map V.int)) nl
 generalize upd H l (.lst ((ps.map fun i:Nat=>(i:Int)).map V.int))=H1 at s1 e1 ⊢
 nofun
 intro p np
 have s2:=zb np (.lst [])
 have e2:=zp (.lst []) np
 have e12:=s2 _ _ e1
 have sA:=s1.trans s2
 generalize upd H1 p (.lst [])=H2 at s2 e2 e12 sA ⊢
 have same:Q (.ref q) H2:=h q rs es H2 (.inr rfl) sA (sA _ _ hq) (hR.same sA) ok ⟨ycz _,by ac_rfl⟩
 refine ⟨_,_,.lst (SqL.of e12) (zbr.ints _),.lst (SqL.of e2) .nil,shaped_ints _,shaped_ints [],?_⟩
 rw[show PyData.eqv (.list ((ps.map fun i:Nat=>(i:Int)).map PyData.int)) (.list [])=decide ((ps.map fun i:Nat=>(i:Int))=[]) from zi6 _ []]
 by_cases pe:(ps.map fun i:Nat=>(i:Int))=[]
 ·rw[decide_eq_true pe]
  nofun
  exact same
 rw[decide_eq_false pe]
 have pl:0<(ps.map fun i:Nat=>(i:Int)).length:=List.length_pos_iff.mpr pe
 nofun
 ·exact same
 clear same e2
 refine ⟨l,_,rfl,.inl (SqL.of e12),?_⟩
 rw[yab]
 have z0:=ydy (c / 2) (show ((ps.map fun i:Nat=>(i:Int)).length:Int)≠0 by ac_rfl)
 have z1:=ydz (c / 2) (show (0:Int)<((ps.map fun i:Nat=>(i:Int)).length:Int) by ac_rfl)
 nofun
 obtain ⟨v,hv0,hm⟩:=zbG (xs:=(ps.map fun i:Nat=>(i:Int)).map V.int) (k:=c / 2 % ((ps.map fun i:Nat=>(i:Int)).length:Int)) z0 (by rw[yab (f:=V.int)];exact z1)
 obtain ⟨j,hj,rfl⟩:=yae.mp hm
 obtain ⟨i,im,rfl⟩:=yae.mp hj
 obtain ⟨e,t,⟨he,hv,ht⟩,isO,x1⟩:=pok i im
 have il:i<es.length:=(yad.mp he).1
 have oe:=ok e (yah he)
 refine ⟨l,_,_,_,rfl,rfl,SqL.of e12,hv0,?_⟩
 clear hv0 hm hj pok pe pl z0 z1 e1 e12 at_ im
 nofun
 refine ⟨q,_,_,_,rfl,rfl,SqL.of (sA _ _ hq),zay hv,?_⟩
 refine ⟨t,_,rfl,SqT.of (sA _ _ ht),rfl,?_⟩
 have w0:=ydy (c / 64) (show e.2.2-1≠0 by ac_rfl)
 have w1:=ydz (c / 64) (show 0<e.2.2-1 by ac_rfl)
 nofun
 refine ⟨q,rs,rfl,SqL.of (sA _ _ hq),fun q1 nq1=>?_⟩
 rw[zeJ rs i]
 have s3:=zb nq1 (.lst (rs.take i))
 have e3:=zp (.lst (rs.take i)) nq1
 generalize upd H2 q1 (.lst (rs.take i))=H3 at s3 e3 ⊢
 have sB:=sA.trans s3
 nofun
 intro t2 nt2
 have s4:=zb nt2 (.tup [.str e.1.word,.int e.2.1,.int (1+c / 64 % (e.2.2-1))])
 have et2:=zp (.tup [.str e.1.word,.int e.2.1,.int (1+c / 64 % (e.2.2-1))]) nt2
 nofun
 intro q2 nq2
 have s5:=s4.trans (zb nq2 (.lst [.ref t2]))
 have e5:=zp (.lst [.ref t2]) nq2
 have et5:=zb nq2 (.lst [.ref t2]) _ _ et2
 generalize upd (upd H3 t2 (.tup [.str e.1.word,.int e.2.1,.int (1+c / 64 % (e.2.2-1))])) q2 (.lst [.ref t2])=H5 at s5 e5 et5 ⊢
 refine ⟨q1,q2,_,_,rfl,rfl,s5 _ _ e3,e5,by rw[yao];show _+1<=_;ac_rfl,fun q3 nq3=>?_⟩
 have s6:=zb nq3 (.lst (rs.take i++[.ref t2]))
 have e6:=zp (.lst (rs.take i++[.ref t2])) nq3
 generalize upd H5 q3 (.lst (rs.take i++[.ref t2]))=H6 at s6 e6 ⊢
 have sC:=sB.trans (s5.trans s6)
 nofun
 refine ⟨q,rs,rfl,SqL.of (sC _ _ hq),fun q4 nq4=>?_⟩
 rw[show ((i:Int)+1)=((i+1:Nat):Int) by ac_rfl,zeF rs (i+1)]
 have s7:=zb nq4 (.lst (rs.drop (i+1)))
 have e7:=zp (.lst (rs.drop (i+1))) nq4
 generalize upd H6 q4 (.lst (rs.drop (i+1)))=H7 at s7 e7 ⊢
 refine ⟨q3,q4,_,_,rfl,rfl,s7 _ _ e6,e7,by rw[yac,yao,yay];show _+1+_<=_;ac_rfl,fun q5 nq5=>?_⟩
 have s8:=zb nq5 (.lst (rs.take i++[.ref t2]++rs.drop (i+1)))
 have e8:=zp (.lst (rs.take i++[.ref t2]++rs.drop (i+1))) nq5
 generalize upd H7 q5 (.lst (rs.take i++[.ref t2]++rs.drop (i+1)))=H8 at s8 e8 ⊢
 have sD:=sC.trans (s7.trans s8)
 nofun
 intro t3 nt3
 have s9:=zb nt3 (.tup [.str e.1.word,.int e.2.1,.int (e.2.2-(1+c / 64 % (e.2.2-1)))])
 have et3:=zp (.tup [.str e.1.word,.int e.2.1,.int (e.2.2-(1+c / 64 % (e.2.2-1)))]) nt3
 nofun
 intro q6 nq6
 have s10:=s9.trans (zb nq6 (.lst [.ref t3]))
 have e10:=zp (.lst [.ref t3]) nq6
 have et10:=zb nq6 (.lst [.ref t3]) _ _ et3
 generalize upd (upd H8 t3 (.tup [.str e.1.word,.int e.2.1,.int (e.2.2-(1+c / 64 % (e.2.2-1)))])) q6 (.lst [.ref t3])=H10 at s10 e10 et10 ⊢
 have len:(rs.take i++[V.ref t2]++rs.drop (i+1)).length=rs.length:=by rw[yac,yac,yao,yay];show _+1+_=_;ac_rfl
 refine ⟨q5,q6,_,_,rfl,rfl,s10 _ _ e8,e10,by rw[len];show _+1<=_;ac_rfl,fun q7 nq7=>?_⟩
 have s11:=zb nq7 (.lst (rs.take i++[.ref t2]++rs.drop (i+1)++[.ref t3]))
 have sE:=sD.trans (s10.trans s11)
 have hRE:=hR.same sE
 have mk:∀ x:Int,1<=x->Sp1 n b (e.1,e.2.1,x):=fun x hx=>⟨oe.lo,oe.hi,oe.top,by
  rw[zeY (k:=.out) isO]
  exact hx⟩
 refine h q7 _ (es.take i++[(e.1,e.2.1,1+c / 64 % (e.2.2-1))]++es.drop (i+1)++[(e.1,e.2.1,e.2.2-(1+c / 64 % (e.2.2-1)))]) _ (.inl (zy (sD.trans s10) nq7)) sE zf
  (LL.append (LL.append (LL.append (LL.take hRE i) (.cons ⟨t2,rfl,(s6.trans (s7.trans (s8.trans (s10.trans s11)))) _ _ et5⟩ .nil)) (LL.ziu hRE (i+1))) (.cons ⟨t3,rfl,s11 _ _ et10⟩ .nil))
  ((((ok.take i).app (Sps.one (mk _ (by ac_rfl)))).app (ok.drop (i+1))).app (Sps.one (mk _ (by ac_rfl)))) ?_
 rw[yac,yac,yac,yao,yay]
 show _<=_+1+_+1/\_+1+_+1<=_
 ac_rfl
def zgr (K:W.Frag):Sp:=fun vs H Q _=>L2.Ee6 fun q rs (es:List Er) c b n=>L2.Aa7 (vs=[.ref q,.int c]) (H q=some (.lst rs)) (RL3 H rs es) (Sps n b es) (es.length<=60) (0<=c) (∀ q' rs' (es':List Er) H',H q'=none->Same H H'->H' q'=some (.lst rs')->RL3 H' rs' es'->Sps n b es'->es'.length=es.length->Q (.ref q') H')
theorem zgu:zk ["_law_specs_here", "_law_cell_here", "_law_at"] qai (zi zct):=by walk_at "sp"
theorem zk6 (S:Src K mg "_law_turned" zct qai) (T:Txt K mg)  : Def P w K mg base 1 "_law_turned" qai (zgr K):=by
 exists S.ok,zgu,0
 all_goals obtain ⟨q,rs,es,c,b,n,rfl,hq,hR,ok,l1,c0,h⟩:=h
 ·rfl
 refine ⟨_,(ze (zo (i:=2) zgu.nd rfl (by walk_at "lc") (zh zbI (zh zH (zh zad (pv 1) zd) (zh zD (zw zag rfl T.zbx PySem.boot_len (za (pv 0) zc)) zd)) (zW zkP rfl T.zfD PyProof.Rows.boot_int (za (zeK zaa (zh zH (pv 1) zd) zd (nomark _)) zc))))
  (zg (zj (zh zaV (zaJ za1 (pv 0) (za3 (pv 2)) za4) (zaJ za1 (pv 0) za4 (za3 (pv 2))))))),?_⟩
 have sz:=sizeLine_eq
 have xl:=hR.length
 nofun
 refine ⟨q,rs,rfl,.inl (SqL.of hq),?_⟩
 nofun
 intro t _ ht
 obtain ⟨m,hm⟩:∃ m:Nat,c / 3 % ((rs.length:Int)+1)*t=m:=⟨_,(Int.toNat_of_nonneg (yec (ydy _ (by ac_rfl)) ht.1)).symm⟩
 nofun
 rw[hm]
 refine ⟨q,rs,rfl,SqL.of hq,fun q1 nq1=>?_⟩
 rw[zeF rs m]
 have s1:=zb nq1 (.lst (rs.drop m))
 have e1:=zp (.lst (rs.drop m)) nq1
 have eP1:=s1 _ _ hq
 generalize upd H q1 (.lst (rs.drop m))=H1 at s1 e1 eP1 ⊢
 nofun
 rw[hm]
 refine ⟨q,rs,rfl,SqL.of eP1,fun q2 nq2=>?_⟩
 rw[zeJ rs m]
 have s2:=zb nq2 (.lst (rs.take m))
 have e2:=zp (.lst (rs.take m)) nq2
 have e12:=s2 _ _ e1
 generalize upd H1 q2 (.lst (rs.take m))=H2 at s2 e2 e12 ⊢
 refine ⟨q1,q2,_,_,rfl,rfl,e12,e2,by rw[yao,yay];ac_rfl,fun q3 nq3=>?_⟩
 have s3:=zb nq3 (.lst (rs.drop m++rs.take m))
 have sA:=s1.trans (s2.trans s3)
 have hR3:=hR.same sA
 exact h q3 _ (es.drop m++es.take m) _ (zy (s1.trans s2) nq3) sA zf (LL.append (LL.ziu hR3 m) (LL.take hR3 m)) ((ok.drop m).app (ok.take m)) (by rw[yac,yao,yay];ac_rfl)
def zfP (K:W.Frag):Sp:=fun vs H Q _=>L2.Ee4 fun a xs (t:List (Int × Int)) d=>L2.Aa6 (vs=[.ref a,.int d]) (SqL K H a xs) (zu K H xs t) ((t.Pairwise fun s u=>s.1<u.1)) ((∀ s∈t,0<=s.1)) (Q (.int (Sums.valOf t d)) H)
theorem ziW:zk ["table", "day", "many"] qan (zi zeB):=by walk_at "sp"
theorem zo4 (S:Src K mg "value_at" zeB qan) (T:Txt K mg) (zeI:Def P w K mg base 1 "begun" qae (zjh K)):Def P w K mg base 2 "value_at" qan (zfP K):=by
 exists S.ok,ziW,0
 all_goals obtain ⟨a,xs,t,d,rfl,hS,hR,up,t0,h⟩:=h
 ·rfl
 refine ⟨_,(ze (zo (i:=2) ziW.nd rfl (by walk_at "lc") (zl zeI hr (za (pv 0) (za (pv 1) zc))))
  (ze (zK (zr zaa (pv 2) zd (nomark _))
  (zg (zj zd))
   zA)
  (zg (zj (zq zO (zq zC (pv 0) (zh zaj (pv 2) zd) (fun _ _=>rfl)) zd (fun _ _=>rfl)))))),?_⟩
 have xl:=hR.length
 nofun
 refine ⟨a,xs,t.map (·.1),d,rfl,hS,zoe hR,by rw[ybj];exact up,?_⟩
 intro n B'
 have B:=B'.rows
 nofun
 ·rename_i q
  have:n=0:=by ac_rfl
  subst this
  rw[Stills.zdq t0 B] at h
  exact h
 ·rename_i q
  obtain ⟨k,rfl⟩:∃ k,n=k+1:=⟨n-1,by ac_rfl⟩
  have kl:=B.le
  obtain ⟨p,s,ex,es,hp⟩:=hR.get (yaa (by ac_rfl:k<xs.length))
  have ek:((k+1:Nat):Int)-1=(k:Int):=by ac_rfl
  have at_:atI xs (((k+1:Nat):Int)-1)=some (.ref p):=by
   rw[ek]
   exact zay (by rw[yaa (by ac_rfl:k<xs.length),ex])
  refine ⟨a,_,_,_,rfl,rfl,hS,at_,?_⟩
  nofun
  rw[Stills.zqu t0 up B es] at h
  exact h
def zkK (K:W.Frag):Sp:=fun vs H Q _=>L2.Ee4 fun a A (b:BkT) d=>L2.Aa3 (vs=[.ref a,.int d]) (zav K H a A b) (Q (.int (upto b.pays d)) H)
theorem zpy:zk qao qao (zi zg2):=by walk_at "sp"
theorem zra (S:Src K mg "handed" zg2 qao) (T:Txt K mg) (zbF:Def P w K mg base 1 "sum_upto" qae (zfY K)) (zbc:zG P w K mg base 1 (cA K "Book") "pays" qaa (zff K)):Def P w K mg base 2 "handed" qao (zkK K):=by
 exists S.okF,zpy,0
 all_goals obtain ⟨a,A,b,d,rfl,B,h⟩:=h
 ·rfl
 refine ⟨_,(zg (zj (zl zbF hr (za (zP zbc T.zx hr (pv 0)) (za (pv 1) zc))))),?_⟩
 nofun
 refine ⟨a,A.dx,_,rfl,B.ins,rfl,a,A,b,rfl,B,fun q xs nq hR hl=>?_⟩
 have s1:=zb nq (.lst xs)
 nofun
 refine ⟨q,xs,b.pays,d,rfl,SqL.of zf,hR.same s1,hl,?_⟩
 exact ⟨s1,h⟩
def zh8 (K:W.Frag):Sp:=fun vs H Q _=>∃ (a:Addr) (A:BkA) (b:BkT),vs=[.ref a]/\zav K H a A b /\
 ∀ p ws H',H p=none->Same H H'->H' p=some (.lst ws)->zu K H' ws (runs 0 (shf b.g b.dues))->Q (.ref p) H'
theorem zmj:zk ["book"] ["book"] (zi zdQ):=by walk_at "sp"
theorem znk (S:Src K mg "late_sums" zdQ ["book"]) (T:Txt K mg) (zam:Def P w K mg base 1 "running_sums" ["rows"] (zcV K)) (zgc:zG P w K mg base 1 (cA K "Book") "dues" qaa (zhP K)) (ze3:zG P w K mg base 1 (cA K "Book") "grace" qaa (zhy K)):Def P w K mg base 2 "late_sums" ["book"] (zh8 K):=by
 exists S.ok,zmj,0
 all_goals obtain ⟨a,A,b,rfl,B,h⟩:=h
 ·rfl
 refine ⟨_,(zg (zj (zl zam hr (za (zcG (ix:=[0]) ⟨rfl,by decide +kernel,rfl,by decide +kernel,rfl,(show (["due", "book"]:List Str).Nodup by decide +kernel),by walk_at "cap", by walk_at "sub", by walk_at "has"⟩ (zV (zP zgc T.zx hr (pv 0))) (fun b=>(zab (za (zh zD (zq (zaR K) (pv 0) zd (fun _ _=>rfl)) (zP ze3 T.zx hr (pv 1))) (za (zq (zaR K) (pv 0) zd (fun _ _=>rfl)) zc))))) zc)))),?_⟩
 have sz:=sizeLine_eq
 nofun
 refine ⟨a,A.dx,_,rfl,B.ins,rfl,a,A,b,rfl,B,fun q xs nq hR hl=>?_⟩
 have s1:=zb nq (.lst xs)
 have eQ:=zp (.lst xs) nq
 have hR1:=hR.same s1
 have xl:=hR.length
 generalize upd H q (.lst xs)=H1 at s1 eQ hR1 ⊢
 have B1:=B.same s1
 nofun
 refine ⟨⟨_,SqL.of eQ⟩,fun l nl=>?_⟩
 refine comp_map (zap (SqL.of eQ)) nl (by ac_rfl) b.dues xl.symm (fun H' v s=>∃ t,v=.ref t/\H' t=some (.tup [.int (s.1+b.g),.int s.2])) (fun v e H1 H2 s ⟨t,e1,e2⟩=>⟨t,e1,s _ _ e2⟩) (fun v e H1 ys zs hL ⟨t,e1,e2⟩=>⟨t,e1,by rw[zt (za6 e2 hL (by intro z;cases z))];exact e2⟩) ?_ ?_
 ·rintro i x s H' Q' hx hs sH hq
  obtain ⟨u,s',rfl,hs',hu⟩:=(hR1.same sH).get hx
  obtain rfl:s'=s:=Option.some.inj (hs'.symm.trans hs)
  have B':=B1.same sH
  nofun
  refine ⟨a,A.dx,_,rfl,B'.ins,rfl,a,A,b,rfl,B',?_⟩
  nofun
  intro t nt
  exact hq _ _ (zb nt _) ⟨t,rfl,zf⟩
 rintro ys H2 s2 eL hL
 have hS:zu K H2 ys (shf b.g b.dues):=by
  unfold shf
  clear eL
  revert hL
  generalize b.dues=l
  intro hL
  induction hL with
  | nil=>exact .nil
  | cons h _ ih =>
   obtain ⟨t,rfl,e⟩:=h
   exact .cons e ih
 have sl:(shf b.g b.dues).length<=1000:=by unfold shf;rw[yab];exact hl
 nofun
 rename_i p ws H3
 intro np s3 eP rP
 exact h p ws H3 (zy (s1.trans s2) np) (s1.trans (s2.trans s3)) eP rP
def zi4 (K:W.Frag):Sp:=fun vs H Q _=>L2.Ee4 fun a xs l d=>L2.Aa5 (vs=[.ref a,.int d]) (SqL K H a xs) (zu K H xs l) (Spans.Joined l) (∀ m,Stills.Free l d m->Q (.int m) H)
theorem zmX:zk ["spans", "day", "many"] qah (zi zio):=by walk_at "sp"
theorem zr3 (S:Src K mg "moved" zio qah) (T:Txt K mg) (zeI:Def P w K mg base 1 "begun" qae (zjh K)):Def P w K mg base 2 "moved" qah (zi4 K):=by
 exists S.ok,zmX,0
 all_goals obtain ⟨a,xs,l,d,rfl,hS,hR,J,h⟩:=h
 ·rfl
 refine ⟨_,(ze (zo (i:=2) zmX.nd rfl (by walk_at "lc") (zl zeI hr (za (pv 0) (za (pv 1) zc))))
  (ze (zK (zr zaa (pv 2) zd (nomark _))
  (zg (zj (pv 1)))
   zA)
  (zg (zj (zw (zaP rfl) rfl T.zcr PyProof.Rows.boot_max (za (pv 1) (za (zq zO (zq zC (pv 0) (zh zaj (pv 2) zd) (fun _ _=>rfl)) zd (fun _ _=>rfl)) zc))))))),?_⟩
 have xl:=hR.length
 nofun
 refine ⟨a,xs,l.map (·.1),d,rfl,hS,zoe hR,ybj.mpr (Stills.zpR J),?_⟩
 intro n B0
 have B:=B0.rows
 nofun
 ·rename_i q
  have:n=0:=by ac_rfl
  subst this
  exact h _ (Stills.zo5 B)
 ·rename_i q
  obtain ⟨k,rfl⟩:∃ k,n=k+1:=⟨n-1,by ac_rfl⟩
  have kl:=B.le
  obtain ⟨p,s,ex,es,hp⟩:=hR.get (yaa (by ac_rfl:k<xs.length))
  have ek:((k+1:Nat):Int)-1=(k:Int):=by ac_rfl
  have at_:atI xs (((k+1:Nat):Int)-1)=some (.ref p):=by
   rw[ek]
   exact zay (by rw[yaa (by ac_rfl:k<xs.length),ex])
  refine ⟨a,_,_,_,rfl,rfl,hS,at_,?_⟩
  nofun
  exact h _ (Stills.zoM J B es)
def zax (K:W.Frag):Sp:=fun vs H Q _=>L2.Ee5 fun p C dx d x=>L2.Aa6 (vs=[.ref p,.int d,.int x]) (H p=some (.ins C dx [])) (Cls K C) (zY K C "day") (zY K C "amount") (Q .non (upd H p (.ins C dx [("day", .int d),("amount", .int x)])))
theorem zhC:zk qad qad (zi zS):=by walk_at "sp"
theorem za8 (x:Str) (S:zB K (cA K x) "__init__" "AmountEntry.__init__" zS qad) (T:Txt K mg) (zT:zj2 P w K mg base 1 (cA K "Entry") "__init__" qag (za2 K)):zG P w K mg base 2 (cA K x) "__init__" qad (zax K):=by
 exists S.ok,zhC,0
 all_goals obtain ⟨p,C,dx,d,x,rfl,e,hc,n1,n2,h⟩:=h
 ·rfl
 refine ⟨_,(ze (zbM (zni zT (zgx (v:=.ref (cA K "Entry")) rfl T.zgI rfl) hr (za (pv 0) (za (pv 1) zc))))
  (zg (zhU (pv 0) (pv 2) rfl))),?_⟩
 nofun
 refine ⟨p,C,dx,[],d,rfl,e,hc,n1,by decide,?_⟩
 nofun
 refine ⟨p,C,dx,_,rfl,zf,hc,n2,ydd (ycz 1) (by decide),?_⟩
 rw[zaA]
 exact h
def zcf (K:W.Frag):Sp:=fun vs H Q _=>L2.Ee5 fun p C dx d x=>L2.Aa6 (vs=[.ref p,.int d,.int x]) (H p=some (.ins C dx [])) (Cls K C) (zY K C "day") (zY K C "rate") (Q .non (upd H p (.ins C dx [("day", .int d),("rate", .int x)])))
theorem ziJ:zk qaj qaj (zi zaz):=by walk_at "sp"
theorem zfg (x:Str) (S:zB K (cA K x) "__init__" "RateEntry.__init__" zaz qaj) (T:Txt K mg) (zT:zj2 P w K mg base 1 (cA K "Entry") "__init__" qag (za2 K)):zG P w K mg base 2 (cA K x) "__init__" qaj (zcf K):=by
 exists S.ok,ziJ,0
 all_goals obtain ⟨p,C,dx,d,x,rfl,e,hc,n1,n2,h⟩:=h
 ·rfl
 refine ⟨_,(ze (zbM (zni zT (zgx (v:=.ref (cA K "Entry")) rfl T.zgI rfl) hr (za (pv 0) (za (pv 1) zc))))
  (zg (zhU (pv 0) (pv 2) rfl))),?_⟩
 nofun
 refine ⟨p,C,dx,[],d,rfl,e,hc,n1,by decide,?_⟩
 nofun
 refine ⟨p,C,dx,_,rfl,zf,hc,n2,ydd (ycz 1) (by decide),?_⟩
 rw[zaA]
 exact h
def zht (K:W.Frag):Sp:=fun vs H Q _=>L2.Ee5 fun p C dx d x=>L2.Aa6 (vs=[.ref p,.int d,.int x]) (H p=some (.ins C dx [])) (Cls K C) (zY K C "day") (zY K C "until") (Q .non (upd H p (.ins C dx [("day", .int d),("until", .int x)])))
theorem zln:zk qap qap (zi zcX):=by walk_at "sp"
theorem zm6 (x:Str) (S:zB K (cA K x) "__init__" "Still.__init__" zcX qap) (T:Txt K mg) (zT:zj2 P w K mg base 1 (cA K "Entry") "__init__" qag (za2 K)):zG P w K mg base 2 (cA K x) "__init__" qap (zht K):=by
 exists S.ok,zln,0
 all_goals obtain ⟨p,C,dx,d,x,rfl,e,hc,n1,n2,h⟩:=h
 ·rfl
 refine ⟨_,(ze (zbM (zni zT (zgx (v:=.ref (cA K "Entry")) rfl T.zgI rfl) hr (za (pv 0) (za (pv 1) zc))))
  (zg (zhU (pv 0) (pv 2) rfl))),?_⟩
 nofun
 refine ⟨p,C,dx,[],d,rfl,e,hc,n1,by decide,?_⟩
 nofun
 refine ⟨p,C,dx,_,rfl,zf,hc,n2,ydd (ycz 1) (by decide),?_⟩
 rw[zaA]
 exact h
def zhS (K:W.Frag):Sp:=fun vs H Q _=>∃ i a b,vs=[.int i,.int a,.int b]/\(a<=i/\i<=b)/\Q (.bl true) H
theorem zmM:zk qaq qaq (zi zdE):=by walk_at "sp"
theorem znp (S:Src K mg "is_within" zdE qaq) (T:Txt K mg) (zgK:Def P w K mg base 1 "is_whole" ["thing"] (ziS K)):Def P w K mg base 2 "is_within" qaq (zhS K):=by
 exists S.ok,zmM,0
 all_goals obtain ⟨i,a,b,rfl,⟨h1,h2⟩,h⟩:=h
 ·rfl
 refine ⟨_,(zg (zj (zbR (zl zgK hr (za (pv 0) zc)) (zdl (zqI zgQ zgQ (pv 1) (pv 0) (pv 2)))))),?_⟩
 nofun
 refine ⟨_, "int", rfl,⟨.int i,by simp[kinds]⟩,?_⟩
 nofun
 all_goals first
  | exact absurd rfl (by assumption)
  | (exfalso;ac_rfl)
  | (refine qb h ?_;simp[h1,h2])
def zhW (K:W.Frag):Sp:=fun vs H Q _=>L2.Ee4 fun p xs (es:List Er) w=>L2.Aa6 (vs=[.ref p,.str w]) (SqL K H p xs) (EL K H xs es) (es.length<=61) (AmW w) (∀ q H' ws r,H q=none->Same H H'->H' q=some (.lst ws)->zu K H' ws r->Sby.Tab r (prs w es)->Q (.ref q) H')
theorem zpX:zk qac qac (zi zhk):=by walk_at "sp"
theorem zqL (S:Src K mg "sum_by" zhk qac) (T:Txt K mg) (zdv:Def P w K mg base 1 "summed" qaf (zhI K)) (zaL:∀ k:Ek,zG P w K mg base 1 (cA K k.cls) "word" qaa (zao k K)):Def P w K mg base 2 "sum_by" qac (zhW K):=by
 exists S.ok,zpX,0
 all_goals obtain ⟨p,xs,es,ww,rfl,ep,hE,hl,hw,h⟩:=h
 ·rfl
 refine ⟨_,(zg (zj (zl zdv hr (za (zcK (ix:=[1]) ⟨rfl,by decide +kernel,rfl,by decide +kernel,rfl,(show (["entry", "word"]:List Str).Nodup by decide +kernel),by walk_at "cap", by walk_at "sub", by walk_at "has"⟩ (zV (pv 0)) (fun b=>(zr zaa (zes K zaL T.clE hr (pv 0)) (pv 1) (nomark _))) (fun b=>(zab (za (zb6 K (pv 0) rfl) (za (zb6 K (pv 0) rfl) zc))))) zc)))),?_⟩
 have sz:=sizeLine_eq
 nofun
 have xl:=hE.length
 refine ⟨⟨_,ep⟩,fun l nl=>?_⟩
 refine zcz (zap ep) nl (by ac_rfl) es xl.symm (isW ww) (fun H' v e=>∃ t,v=.ref t/\H' t=some (.tup [.int e.2.1,.int e.2.2])) (fun v e H1 H2 s ⟨t,e1,e2⟩=>⟨t,e1,s _ _ e2⟩) (fun v e H1 ys zs hL ⟨t,e1,e2⟩=>⟨t,e1,by rw[zt (za6 e2 hL (by intro z;cases z))];exact e2⟩) ?_ ?_ ?_
 ·rintro i x e H' Q' hx he sH hq
  obtain ⟨e',he',a,dx,rfl,hi⟩:=(hE.same sH).get hx
  obtain rfl:e'=e:=Option.some.inj (he'.symm.trans he)
  nofun
  refine ⟨e'.1,a,dx,_,rfl,hi,zfC _ _ _,a,rfl,?_⟩
  nofun
  exact hq
 ·rintro i x e H' Q' hx he fe sH hq
  obtain ⟨e',he',a,dx,rfl,hi⟩:=(hE.same sH).get hx
  obtain rfl:e'=e:=Option.some.inj (he'.symm.trans he)
  nofun
  refine ⟨a,_,dx,_,_,rfl,hi,T.clE _,T.zaT _,zfs _ _ _,?_⟩
  nofun
  refine ⟨a,_,dx,_,_,rfl,hi,T.clE _,T.zc3 _,(amt hw fe).1,?_⟩
  nofun
  intro t nt
  exact hq _ _ (zb nt _) ⟨t,rfl,zf⟩
 ·rintro ys H' sH eL hL
  have hR:zu K H' ys (prs ww es):=zkb hL
  nofun
  refine ⟨l,ys,prs ww es,rfl,eL,hR,?_,fun q H2 ws r nq s2 eq hr' tb=>?_⟩
  ·unfold prs
   rw[yab]
   exact yde (ybb _ _) hl
  ·exact h q H2 ws r (zy sH nq) (sH.trans s2) eq hr' tb
def zjN (K:W.Frag):Sp:=fun vs H Q _=>L2.Ee4 fun p xs (es:List Er) w=>L2.Aa5 (vs=[.ref p,.str w]) (SqL K H p xs) (EL K H xs es) (es.length<=61) (∀ q H' (ns:List Int),H q=none->Same H H'->H' q=some (.lst (ns.map V.int))->Days ns (dys w es)->Q (.ref q) H')
theorem zoS:zk qac qac (zi zfv):=by walk_at "sp"
theorem zpt (S:Src K mg "days_of" zfv qac) (T:Txt K mg) (zaL:∀ k:Ek,zG P w K mg base 1 (cA K k.cls) "word" qaa (zao k K)):Def P w K mg base 2 "days_of" qac (zjN K):=by
 exists S.ok,zoS,0
 all_goals obtain ⟨p,xs,es,ww,rfl,ep,hE,hl,h⟩:=h
 ·rfl
 refine ⟨_,(zg (zj (zw (zia rfl) rfl T.zcC PyProof.Rows.boot_sorted (za (zW (zfz rfl) rfl T.zij PyProof.Rows.boot_set (za (zcK (ix:=[1]) ⟨rfl,by decide +kernel,rfl,by decide +kernel,rfl,(show (["entry", "word"]:List Str).Nodup by decide +kernel),by walk_at "cap", by walk_at "sub", by walk_at "has"⟩ (zV (pv 0)) (fun b=>(zr zaa (zes K zaL T.clE hr (pv 0)) (pv 1) (nomark _))) (fun b=>(zb6 K (pv 0) rfl))) zc)) zc)))),?_⟩
 have sz:=sizeLine_eq
 have xl:=hE.length
 nofun
 refine ⟨⟨_,ep⟩,fun l nl=>?_⟩
 refine zcz (zap ep) nl (by ac_rfl) es xl.symm (isW ww) (fun _ v e=>v=.int e.2.1) (fun v e H1 H2 s q=>q) (fun v e H1 ys zs hL q=>q) ?_ ?_ ?_
 ·rintro i x e H' Q' hx he sH hq
  obtain ⟨e',he',a,dx,rfl,hi⟩:=(hE.same sH).get hx
  obtain rfl:e'=e:=Option.some.inj (he'.symm.trans he)
  nofun
  refine ⟨e'.1,a,dx,_,rfl,hi,zfC _ _ _,a,rfl,?_⟩
  nofun
  exact hq
 ·rintro i x e H' Q' hx he fe sH hq
  obtain ⟨e',he',a,dx,rfl,hi⟩:=(hE.same sH).get hx
  obtain rfl:e'=e:=Option.some.inj (he'.symm.trans he)
  nofun
  refine ⟨a,_,dx,_,_,rfl,hi,T.clE _,T.zaT _,zfs _ _ _,?_⟩
  exact hq _ _ (Same.refl _) rfl
 ·rintro ys H' sH eL hL
  have ey:ys=(dys ww es).map V.int:=by
   have:=hL.eqm (g:=fun e:Er=>V.int e.2.1)
   rw[this]
   unfold dys
   rw[ybv]
   rfl
  subst ey
  nofun
  refine ⟨l,dys ww es,rfl,SqL.of eL,ydd zou (by ac_rfl),fun p1 H1 ms np1 s1 e1 nd mm ml=>?_⟩
  nofun
  refine ⟨p1,ms,rfl,e1,?_,fun q H2 ns nq s2 eq pm up=>?_⟩
  ·exact ydd (yde (zfb nd fun d hd=>(mm d).mp hd) zou) (by ac_rfl)
  ·exact h q H2 ns (zy (sH.trans s1) nq) (sH.trans (s1.trans s2)) eq (Days.of nd mm pm up)
def zhq (K:W.Frag):Sp:=fun vs H Q _=>L2.Ee4 fun p xs (es:List Er) w=>L2.Aa7 (vs=[.ref p,.str w]) (SqL K H p xs) (EL K H xs es) (es.length<=61) (RtW w) ((∀ e∈es,0<=e.2.1)) (∀ q H' ws (r:List (Int × Int)),H q=none->Same H H'->H' q=some (.lst ws)->zu K H' ws r->Stills.TabOf (prs w es) r->r=(r.map (·.1)).map (fun d=>(d,Sums.valOf (prs w es) d))->r.length<=61->Q (.ref q) H')
theorem zlv:zk qac qac (zi zc4):=by walk_at "sp"
theorem zlZ (S:Src K mg "rate_table" zc4 qac) (T:Txt K mg) (zgM:Def P w K mg base 1 "table_of" qaf (ziO K)) (zaL:∀ k:Ek,zG P w K mg base 1 (cA K k.cls) "word" qaa (zao k K)):Def P w K mg base 2 "rate_table" qac (zhq K):=by
 exists S.ok,zlv,0
 all_goals obtain ⟨p,xs,es,ww,rfl,ep,hE,hl,hw,e0,h⟩:=h
 ·rfl
 refine ⟨_,(zg (zj (zl zgM hr (za (zcK (ix:=[1]) ⟨rfl,by decide +kernel,rfl,by decide +kernel,rfl,(show (["entry", "word"]:List Str).Nodup by decide +kernel),by walk_at "cap", by walk_at "sub", by walk_at "has"⟩ (zV (pv 0)) (fun b=>(zr zaa (zes K zaL T.clE hr (pv 0)) (pv 1) (nomark _))) (fun b=>(zab (za (zb6 K (pv 0) rfl) (za (zb6 K (pv 0) rfl) zc))))) zc)))),?_⟩
 have sz:=sizeLine_eq
 nofun
 have xl:=hE.length
 have pl:=yde (zeO (w:=ww) (es:=es)) hl
 refine ⟨⟨_,ep⟩,fun l nl=>?_⟩
 refine zcz (zap ep) nl (by ac_rfl) es xl.symm (isW ww) (fun H' v e=>∃ t,v=.ref t/\H' t=some (.tup [.int e.2.1,.int e.2.2])) (fun v e H1 H2 s ⟨t,e1,e2⟩=>⟨t,e1,s _ _ e2⟩) (fun v e H1 ys zs hL ⟨t,e1,e2⟩=>⟨t,e1,by rw[zt (za6 e2 hL (by intro z;cases z))];exact e2⟩) ?_ ?_ ?_
 ·rintro i x e H' Q' hx he sH hq
  obtain ⟨e',he',a,dx,rfl,hi⟩:=(hE.same sH).get hx
  obtain rfl:e'=e:=Option.some.inj (he'.symm.trans he)
  nofun
  refine ⟨e'.1,a,dx,_,rfl,hi,zfC _ _ _,a,rfl,?_⟩
  nofun
  exact hq
 ·rintro i x e H' Q' hx he fe sH hq
  obtain ⟨e',he',a,dx,rfl,hi⟩:=(hE.same sH).get hx
  obtain rfl:e'=e:=Option.some.inj (he'.symm.trans he)
  nofun
  refine ⟨a,_,dx,_,_,rfl,hi,T.clE _,T.zaT _,zfs _ _ _,?_⟩
  nofun
  refine ⟨a,_,dx,_,_,rfl,hi,T.clE _,T.zi9 _,rtl hw fe,?_⟩
  nofun
  intro t nt
  exact hq _ _ (zb nt _) ⟨t,rfl,zf⟩
 ·rintro ys H' sH eL hL
  have hR:zu K H' ys (prs ww es):=zkb hL
  nofun
  refine ⟨l,ys,prs ww es,rfl,eL,hR,by ac_rfl,?_,fun q H2 ws r nq s2 eq hr' tb er rl=>?_⟩
  ·intro s hs
   obtain ⟨e,he,rfl⟩:=yae.mp hs
   exact e0 e (yaq.mp he).1
  ·exact h q H2 ws r (zy sH nq) (sH.trans s2) eq hr' tb er (by ac_rfl)
def zgC (K:W.Frag):Sp:=fun vs H Q _=>∃ (p:Addr) (xs:List V) (es:List Er),vs=[.ref p]/\SqL K H p xs/\EL K H xs es/\es.length<=61 /\
 ∀ q H' ws (r:List (Int × Int)),H q=none->Same H H'->H' q=some (.lst ws)->zu K H' ws r->Spans.Joined r->(∀ d,Spans.Cov r d↔Spans.Cov (prs "still" es) d)->r.length<=61->Q (.ref q) H'
theorem zgi:zk ["entries", "stills"] qbd (zi zcq):=by walk_at "sp"
theorem zll (S:Src K mg "still_spans" zcq qbd) (T:Txt K mg) (zaL:∀ k:Ek,zG P w K mg base 1 (cA K k.cls) "word" qaa (zao k K)) (zjn:Def P w K mg base 1 "joined" ["spans"] (zkT K)):Def P w K mg base 2 "still_spans" qbd (zgC K):=by
 exists S.ok,zgi,0
 all_goals obtain ⟨p,xs,es,rfl,ep,hE,hl,h⟩:=h
 ·rfl
 refine ⟨_,(ze (zhG (i:=1) zgi.nd rfl rfl (ix:=[]) ⟨rfl,by decide +kernel,rfl,by decide +kernel,rfl,(show (["entry"]:List Str).Nodup by decide +kernel),by walk_at "cap", by walk_at "sub", by walk_at "has"⟩ (zV (pv 0)) (fun b=>(zr zaa (zes K zaL T.clE hr (pv 0)) zv (nomark _))) (fun b=>(pv 0)))
  (zg (zj (zl zjn hr (za (zcK (ix:=[]) ⟨rfl,by decide +kernel,rfl,by decide +kernel,rfl,(show (["entry"]:List Str).Nodup by decide +kernel),by walk_at "cap", by walk_at "sub", by walk_at "has"⟩ (zV (pv 1)) (fun b=>(zr ziF (zb6 K (pv 0) rfl) (zb6 K (pv 0) rfl) (nomark _))) (fun b=>(zab (za (zb6 K (pv 0) rfl) (za (zb6 K (pv 0) rfl) zc))))) zc))))),?_⟩
 have sz:=sizeLine_eq
 nofun
 have xl:=hE.length
 refine ⟨⟨_,ep⟩,fun l nl=>?_⟩
 refine zcz (zap ep) nl (by ac_rfl) es xl.symm (isW "still") (fun H' v e=>∃ a dx,v=.ref a/\ziH K H' a dx e.1 e.2.1 e.2.2) (fun v e H1 H2 s ⟨t,dx,e1,e2⟩=>⟨t,dx,e1,s _ _ e2⟩) (fun v e H1 ys zs hL ⟨t,dx,e1,e2⟩=>⟨t,dx,e1,by rw[ziH,zt (za6 e2 hL (by intro z;cases z))];exact e2⟩) ?_ ?_ ?_
 ·rintro i x e H' Q' hx he sH hq
  obtain ⟨e',he',a,dx,rfl,hi⟩:=(hE.same sH).get hx
  obtain rfl:e'=e:=Option.some.inj (he'.symm.trans he)
  nofun
  refine ⟨e'.1,a,dx,_,rfl,hi,zfC _ _ _,a,rfl,?_⟩
  nofun
  exact hq
 ·rintro i x e H' Q' hx he fe sH hq
  obtain ⟨e',he',a,dx,rfl,hi⟩:=(hE.same sH).get hx
  obtain rfl:e'=e:=Option.some.inj (he'.symm.trans he)
  nofun
  exact hq _ _ (Same.refl _) ⟨a,dx,rfl,hi⟩
 ·rintro ys H1 s1 eL hL
  have hE1:EL K H1 ys (es.filter (isW "still")):=hL
  have yl:=hE1.length
  have fl:=ybb (isW "still") es
  nofun
  refine ⟨⟨_,SqL.of eL⟩,fun l2 nl2=>?_⟩
  have isS:∀ {i:Nat} {e:Er},(es.filter (isW "still"))[i]?=some e->isW "still" e=true:=fun {i e} he=>(yaq.mp (yah he)).2
  refine zcz (zap (SqL.of eL)) nl2 (by ac_rfl) (es.filter (isW "still")) yl.symm (fun e:Er=>decide (e.2.1<e.2.2)) (fun H' v e=>∃ t,v=.ref t/\H' t=some (.tup [.int e.2.1,.int e.2.2])) (fun v e H1 H2 s ⟨t,e1,e2⟩=>⟨t,e1,s _ _ e2⟩) (fun v e H1 ys zs hL ⟨t,e1,e2⟩=>⟨t,e1,by rw[zt (za6 e2 hL (by intro z;cases z))];exact e2⟩) ?_ ?_ ?_
  ·rintro i x e H' Q' hx he sH hq
   obtain ⟨e',he',a,dx,rfl,hi⟩:=(hE1.same sH).get hx
   obtain rfl:e'=e:=Option.some.inj (he'.symm.trans he)
   nofun
   refine ⟨a,_,dx,_,_,rfl,hi,T.clE _,T.zaT _,zfs _ _ _,?_⟩
   nofun
   refine ⟨a,_,dx,_,_,rfl,hi,T.clE _,T.zib _,stl (isS he),?_⟩
   nofun
   exact hq
  ·rintro i x e H' Q' hx he fe sH hq
   obtain ⟨e',he',a,dx,rfl,hi⟩:=(hE1.same sH).get hx
   obtain rfl:e'=e:=Option.some.inj (he'.symm.trans he)
   nofun
   refine ⟨a,_,dx,_,_,rfl,hi,T.clE _,T.zaT _,zfs _ _ _,?_⟩
   nofun
   refine ⟨a,_,dx,_,_,rfl,hi,T.clE _,T.zib _,stl (isS he),?_⟩
   nofun
   intro t nt
   exact hq _ _ (zb nt _) ⟨t,rfl,zf⟩
  ·rintro zs H2 s2 eL2 hL2
   have hR:zu K H2 zs (((es.filter (isW "still")).filter fun e:Er=>decide (e.2.1<e.2.2)).map (·.2)):=zkb hL2
   have em:((es.filter (isW "still")).filter fun e:Er=>decide (e.2.1<e.2.2)).map (·.2)=(prs "still" es).filter fun s=>decide (s.1<s.2):=by
    unfold prs
    rw[List.filter_map]
    rfl
   rw[em] at hR
   have pl:=ybb (fun s:Int × Int=>decide (s.1<s.2)) (prs "still" es)
   have pl2:=zeO (w:="still") (es:=es)
   nofun
   refine ⟨l2,zs,_,rfl,SqL.of eL2,hR,by ac_rfl,fun s hs=>?_,fun q ws r H3 s3 nq eq rR J cv rl=>?_⟩
   ·simpa using (yaq.mp hs).2
   ·exact h q H3 ws r (zy (s1.trans s2) nq) (s1.trans (s2.trans s3)) eq rR J (fun d=>(cv d).trans (zqb _ d)) (by ac_rfl)
def zeW (K:W.Frag):Sp:=fun vs H Q _=>∃ (a:Addr) (ns:List Int) (k:Int),vs=[.ref a,.int k]/\SqL K H a (ns.map V.int)/\0<=k/\k<=990000/\∀ r,0<=r->r<10 ^ 40->Q (.int r) H
theorem zmG:zk qak qak (zi zdN):=by walk_at "sp"
theorem znr (S:Src K mg "_law_cell" zdN qak) (T:Txt K mg) (zdS:Def P w K mg base 1 "_law_draw" qax (zih K)):Def P w K mg base 2 "_law_cell" qak (zeW K):=by
 exists S.ok,zmG,0
 all_goals obtain ⟨a,ns,k,rfl,hS,k0,k1,h⟩:=h
 ·rfl
 refine ⟨_,(ze (zcZ (zK (PW.pt (ze7 (zr ziF (pv 1) (zw zag rfl T.zbx PySem.boot_len (za (pv 0) zc)) (nomark _)) (ze7 (zr zaa (zh zH (zq zC (pv 0) (pv 1) (fun _ _=>rfl)) zd) zd (nomark _)) (zgw (zr zdK (zq zC (pv 0) (pv 1) (fun _ _=>rfl)) (zaB (v:=1000000000000000000) (by decide +kernel) ⟨by decide,by decide,by decide⟩) (nomark _))))))
  (zg (zj (zh zH (zh zad (zq zC (pv 0) (pv 1) (fun _ _=>rfl)) zd) (zaB (v:=10000000000000000000000000000000000000000) (by decide +kernel) ⟨by decide,by decide,by decide⟩))))
   zA))
  (zg (zj (zh zD (zh zbI (zl zdS hr (za (pv 0) (za (pv 1) (za (zh zbI zd (zaB (v:=100000000) (by decide +kernel) ⟨by decide,by decide,by decide⟩)) zc)))) zd) (zl zdS hr (za (pv 0) (za (zh zD (pv 1) zd) (za (zh zbI zd (zaB (v:=100000000) (by decide +kernel) ⟨by decide,by decide,by decide⟩)) zc)))))))),?_⟩
 have fin:∀ r:Int,Q (.int (r % 10 ^ 40)) H:=fun r=>h _ (ydy r (by decide)) (ydz r (by decide))
 have low:∀ r q:Int,0<=r->r<3*100000000->0<=q->q<3*100000000->Q (.int (r*300000007+q)) H:=fun r q r0 r1 q0 q1=>h _ (by ac_rfl) (Int.lt_trans (show r*300000007+q<10 ^ 18 by ac_rfl) (by decide))
 refine ⟨fun σ' H'=>H=H'/\σ'=[some (.ref a),some (.int k)],?_,?_⟩
 ·nofun
  ·rename_i q
   have at_:atI (ns.map V.int) k=some (.int (ns.getD k.toNat 0)):=zoo k0 (by rw[yab] at q;exact q)
   refine ⟨a,_,_,_,rfl,rfl,hS,at_,?_⟩
   nofun
   ·refine ⟨a,_,_,_,rfl,rfl,hS,at_,?_⟩
    nofun
    ·refine ⟨a,_,_,_,rfl,rfl,hS,at_,?_⟩
     nofun
     exact fin _
    ·first | exact ⟨rfl,rfl⟩ | rfl
   ·first | exact ⟨rfl,rfl⟩ | rfl
  ·first | exact ⟨rfl,rfl⟩ | rfl
 rintro σ' H' ⟨rfl,rfl⟩
 nofun
 exact low _ _ (by assumption) (by assumption) (by assumption) (by assumption)
def zfF (K:W.Frag):Sp:=fun vs H Q _=>L2.Ee6 fun q rs (es:List Er) c b n=>L2.Aa8 (vs=[.ref q,.int c,.int b]) (SqL K H q rs) (RL3 H rs es) ((0<=n/\Sps n b es)) ((1<=es.length/\es.length<=60)) (0<=c) ((0<=b/\b<=999999)) (∀ q' rs' (es':List Er) H',H q'=none->Same H H'->H' q'=some (.lst rs')->RL3 H' rs' es'->Sps (n+1) b es'->es.length<=es'.length+1/\es'.length<=es.length+1->Q (.ref q') H')
theorem zL:zk ["_law_specs_here", "_law_cell_here", "_law_base", "_law_at", "_law_word", "_law_day", "_law_thing", "_law_step", "_law_far", "_law_made", "_law_there"] qbe (zi zb4):=by walk_at "sp"
theorem zj6 (S:Src K mg "_law_changed" zb4 qbe) (T:Txt K mg) (zbO:Def P w K mg base 1 "_law_spec" qal (zfh K)):Def P w K mg base 2 "_law_changed" qbe (zfF K):=by
 exists S.ok,zL,0
 all_goals obtain ⟨q,rs,es,c,b,n,rfl,hq,hR,⟨n0,ok⟩,⟨l0,l1⟩,c0,⟨b0,b1⟩,h⟩:=h
 ·rfl
 refine ⟨_,(ze (zo (i:=3) zL.nd rfl (by walk_at "lc") (zh zH (zh zad (pv 1) zd) (zw zag rfl T.zbx PySem.boot_len (za (pv 0) zc))))
  (ze (zcl (zq zC (pv 0) (pv 3) (fun _ _=>rfl)) (zgs rfl (zal (zF (i:=4) zL.nd rfl (by walk_at "lc")) (zal (zF (i:=5) zL.nd rfl (by walk_at "lc")) (zal (zF (i:=6) zL.nd rfl (by walk_at "lc")) zeN)))))
  (ze (zo (i:=7) zL.nd rfl (by walk_at "lc") (zq zC (zR (za zd (za (ziA zgh zd) zc))) (zh zH (zh zad (pv 1) zd) zd) (fun _ _=>rfl)))
  (ze (zo (i:=8) zL.nd rfl (by walk_at "lc") (zh zbI (zq zC (zR (za zd (za zd (za zd (za zd zc))))) (zh zH (zh zad (pv 1) zd) zd) (fun _ _=>rfl)) (pv 7)))
  (ze (zK (zr zaa (zh zH (pv 1) zd) zd (nomark _))
  (zg (zj (zh zaV (zaJ za1 (pv 0) za4 (za3 (pv 3))) (zaJ za1 (pv 0) (za3 (zh zD (pv 3) zd)) za4))))
   zA)
  (ze (zK (zr zaa (zh zH (pv 1) zd) zd (nomark _))
  (zg (zj (zh zaV (zh zaV (zaJ za1 (pv 0) za4 (za3 (pv 3))) (zR (za (zl zbO hr (za (zh zad (pv 1) zd) (za (pv 2) zc))) zc))) (zaJ za1 (pv 0) (za3 (pv 3)) za4))))
   zA)
  (ze (zK (zr zaa (zh zH (pv 1) zd) zd (nomark _))
  (zg (zj (zh zaV (zh zaV (zaJ za1 (pv 0) za4 (za3 (pv 3))) (zR (za (zq zC (pv 0) (pv 3) (fun _ _=>rfl)) zc))) (zaJ za1 (pv 0) (za3 (pv 3)) za4))))
   zA)
  (ze (zo (i:=9) zL.nd rfl (by walk_at "lc") (zab (za (pv 4) (za (pv 5) (za (zw (zaP rfl) rfl T.zcr PyProof.Rows.boot_max (za zd (za (zw (zbq rfl) rfl T.zc5 PyProof.Rows.boot_min (za (zaB (v:=1000000000) (by decide +kernel) ⟨by decide,by decide,by decide⟩) (za (zh zD (pv 6) (pv 7)) zc))) zc))) zc)))))
  (ze (zcZ (zK (zr zaa (pv 4) zv (nomark _))
  (zg (zo (i:=9) zL.nd rfl (by walk_at "lc") (zab (za (pv 4) (za (pv 5) (za (zw (zbq rfl) rfl T.zc5 PyProof.Rows.boot_min (za (zaB (v:=1000000) (by decide +kernel) ⟨by decide,by decide,by decide⟩) (za (zw (zaP rfl) rfl T.zcr PyProof.Rows.boot_max (za (zh zD (pv 5) zd) (za (zh zD (pv 6) (pv 7)) zc))) zc))) zc))))))
   zA))
  (ze (zcZ (zK (zr zaa (pv 4) zv (nomark _))
  (zg (zo (i:=9) zL.nd rfl (by walk_at "lc") (zab (za (pv 4) (za (pv 5) (za (zh zD (pv 6) (pv 7)) zc))))))
   zA))
  (ze (zcZ (zK (zr zdK (zh zH (pv 1) zd) zd (nomark _))
  (ze (zo (i:=10) zL.nd rfl (by walk_at "lc") (zw (zaP rfl) rfl T.zcr PyProof.Rows.boot_max (za (pv 2) (za (zw (zp6 rfl) rfl T.zc5 PyProof.Rows.boot_min (za (zh zD (pv 2) zd) (za (zh zD (pv 5) (pv 8)) (za zd zc)))) zc))))
  (ze (zo (i:=9) zL.nd rfl (by walk_at "lc") (zab (za (pv 4) (za (pv 10) (za (pv 6) zc)))))
  (zg (zK (zr zaa (pv 4) zv (nomark _))
  (zg (zo (i:=9) zL.nd rfl (by walk_at "lc") (zab (za (pv 4) (za (pv 10) (za (zw (zaP rfl) rfl T.zcr PyProof.Rows.boot_max (za (zh zD (pv 10) zd) (za (pv 6) zc))) zc))))))
   zA))))
   zA))
  (ze (zcZ (zK (zr zif (pv 4) (zab (za zv (za zv (za zv zc)))) (by with_unfolding_all rfl))
  (zg (zo (i:=9) zL.nd rfl (by walk_at "lc") (zab (za (pv 4) (za (zq zO (pv 9) zd (fun _ _=>rfl)) (za (zw (zaP rfl) rfl T.zcr PyProof.Rows.boot_max (za zd (za (zq zO (pv 9) zd (fun _ _=>rfl)) zc))) zc))))))
   zA))
  (ze (zcZ (zK (zr zif (pv 4) (zab (za zv (za zv zc))) (by with_unfolding_all rfl))
  (zg (zo (i:=9) zL.nd rfl (by walk_at "lc") (zab (za (pv 4) (za (zq zO (pv 9) zd (fun _ _=>rfl)) (za (zw (zbq rfl) rfl T.zc5 PyProof.Rows.boot_min (za (zaB (v:=1000000) (by decide +kernel) ⟨by decide,by decide,by decide⟩) (za (zq zO (pv 9) zd (fun _ _=>rfl)) zc))) zc))))))
   zA))
  (zg (zj (zh zaV (zh zaV (zaJ za1 (pv 0) za4 (za3 (pv 3))) (zR (za (pv 9) zc))) (zaJ za1 (pv 0) (za3 (zh zD (pv 3) zd)) za4))))))))))))))))),?_⟩
 have sz:=sizeLine_eq
 have xl:=hR.length
 have z0:=ydy (c / 6) (show (rs.length:Int)≠0 by ac_rfl)
 have z1:=ydz (c / 6) (show (0:Int)<(rs.length:Int) by ac_rfl)
 obtain ⟨i,hi⟩:∃ i:Nat,c / 6 % (rs.length:Int)=i:=⟨_,(Int.toNat_of_nonneg z0).symm⟩
 have il:i<rs.length:=by ac_rfl
 obtain ⟨v,hv⟩:∃ v,rs[i]?=some v:=⟨_,yaa il⟩
 obtain ⟨⟨k,d,x⟩,he,t,rfl,ht⟩:=hR.get hv
 have oe:=ok _ (yah he)
 have at_:atI rs (c / 6 % (rs.length:Int))=some (.ref t):=by rw[hi];exact zay hv
 nofun
 refine ⟨q,_,_,_,rfl,rfl,hq,at_,?_⟩
 refine ⟨t,_,rfl,SqT.of ht,rfl,?_⟩
 nofun
 dsimp only
 rw[hi]
 clear at_ z0 z1 hi
 intro p1 np1
 have s1:=zb np1 (.lst [.int 1,.int (-1)])
 obtain ⟨v,hv1,hm⟩:=zbG (xs:=[.int 1,.int (-1)]) (k:=c / 600 % 2) (by ac_rfl) (by simp;ac_rfl)
 obtain ⟨st,rfl,st0,st1⟩:=(zQ ⟨_,rfl,by ac_rfl,by ac_rfl⟩ (zQ ⟨_,rfl,by ac_rfl,by ac_rfl⟩ zen):∀ v∈([.int 1,.int (-1)]:List V),∃ w:Int,v=.int w /\ -1<=w/\w<=1) v hm
 nofun
 refine ⟨p1,_,_,_,rfl,rfl,SqL.of zf,hv1,?_⟩
 clear hv1 hm
 generalize upd H p1 _=H1 at s1 ⊢
 nofun
 intro p2 np2
 have s2:=s1.trans (zb np2 (.lst [.int 1,.int 2,.int 3,.int 1]))
 obtain ⟨v,hv1,hm⟩:=zbG (xs:=[.int 1,.int 2,.int 3,.int 1]) (k:=c / 1200 % 4) (by ac_rfl) (by simp;ac_rfl)
 obtain ⟨fr,rfl,fr0,fr1⟩:=(zQ ⟨_,rfl,by ac_rfl,by ac_rfl⟩ (zQ ⟨_,rfl,by ac_rfl,by ac_rfl⟩ (zQ ⟨_,rfl,by ac_rfl,by ac_rfl⟩ (zQ ⟨_,rfl,by ac_rfl,by ac_rfl⟩ zen))):∀ v∈([.int 1,.int 2,.int 3,.int 1]:List V),∃ w:Int,v=.int w/\1<=w/\w<=3) v hm
 nofun
 refine ⟨p2,_,_,_,rfl,rfl,SqL.of zf,hv1,?_⟩
 clear hv1 hm
 generalize upd H1 p2 _=H2 at s2 ⊢
 have okm:=ok.more (m:=n+1) (by ac_rfl)
 nofun
 ·refine ⟨q,rs,rfl,s2.seq hq,fun q1 nq1=>?_⟩
  rw[zeJ rs i]
  have s3:=zb nq1 (.lst (rs.take i))
  have e3:=zp (.lst (rs.take i)) nq1
  generalize upd H2 q1 (.lst (rs.take i))=H3 at s3 e3 ⊢
  have sB:=s2.trans s3
  nofun
  refine ⟨q,rs,rfl,sB.seq hq,fun q2 nq2=>?_⟩
  rw[show ((i:Int)+1)=((i+1:Nat):Int) by ac_rfl,zeF rs (i+1)]
  have s4:=zb nq2 (.lst (rs.drop (i+1)))
  have e4:=zp (.lst (rs.drop (i+1))) nq2
  generalize upd H3 q2 (.lst (rs.drop (i+1)))=H4 at s4 e4 ⊢
  refine ⟨q1,q2,_,_,rfl,rfl,s4 _ _ e3,e4,by rw[yao,yay];ac_rfl,fun q3 nq3=>?_⟩
  have s5:=zb nq3 (.lst (rs.take i++rs.drop (i+1)))
  have sC:=sB.trans (s4.trans s5)
  have hRC:=hR.same sC
  refine h q3 _ (es.take i++es.drop (i+1)) _ (zy (sB.trans s4) nq3) sC zf (LL.append (LL.take hRC i) (LL.ziu hRC (i+1))) ((okm.take i).app (okm.drop (i+1))) ?_
  rw[yac,yao,yay]
  ac_rfl
 ·refine ⟨q,rs,rfl,s2.seq hq,fun q1 nq1=>?_⟩
  rw[zeJ rs i]
  have s3:=zb nq1 (.lst (rs.take i))
  have e3:=zp (.lst (rs.take i)) nq1
  generalize upd H2 q1 (.lst (rs.take i))=H3 at s3 e3 ⊢
  have sB:=s2.trans s3
  nofun
  intro t2 k2 d2 x2 H4 nt2 s4 et2 sp1
  have sp2:=sp1.more (m:=n+1) (by ac_rfl)
  nofun
  intro q2 nq2
  have s5:=zb nq2 (.lst [.ref t2])
  have e5:=zp (.lst [.ref t2]) nq2
  generalize upd H4 q2 (.lst [.ref t2])=H5 at s5 e5 ⊢
  refine ⟨q1,q2,_,_,rfl,rfl,(s4.trans s5) _ _ e3,e5,by rw[yao];show _+1<=_;ac_rfl,fun q3 nq3=>?_⟩
  have s6:=zb nq3 (.lst (rs.take i++[.ref t2]))
  have e6:=zp (.lst (rs.take i++[.ref t2])) nq3
  generalize upd H5 q3 (.lst (rs.take i++[.ref t2]))=H6 at s6 e6 ⊢
  have sC:=sB.trans (s4.trans (s5.trans s6))
  nofun
  refine ⟨q,rs,rfl,sC.seq hq,fun q4 nq4=>?_⟩
  rw[zeF rs i]
  have s7:=zb nq4 (.lst (rs.drop i))
  have e7:=zp (.lst (rs.drop i)) nq4
  generalize upd H6 q4 (.lst (rs.drop i))=H7 at s7 e7 ⊢
  refine ⟨q3,q4,_,_,rfl,rfl,s7 _ _ e6,e7,by rw[yac,yao,yay];show _+1+_<=_;ac_rfl,fun q5 nq5=>?_⟩
  have s8:=zb nq5 (.lst (rs.take i++[.ref t2]++rs.drop i))
  have sD:=sC.trans (s7.trans s8)
  have hRD:=hR.same sD
  refine h q5 _ (es.take i++[(k2,d2,x2)]++es.drop i) _ (zy (sC.trans s7) nq5) sD zf (LL.append (LL.append (LL.take hRD i) (.cons ⟨t2,rfl,(s5.trans (s6.trans (s7.trans s8))) _ _ et2⟩ .nil)) (LL.ziu hRD i)) (((okm.take i).app (Sps.one sp2)).app (okm.drop i)) ?_
  rw[yac,yac,yao,yay]
  show _<=_+1+_+1/\_+1+_<=_
  ac_rfl
 ·refine ⟨q,rs,rfl,s2.seq hq,fun q1 nq1=>?_⟩
  rw[zeJ rs i]
  have s3:=zb nq1 (.lst (rs.take i))
  have e3:=zp (.lst (rs.take i)) nq1
  generalize upd H2 q1 (.lst (rs.take i))=H3 at s3 e3 ⊢
  have sB:=s2.trans s3
  have sp2:=oe.more (m:=n+1) (by ac_rfl)
  nofun
  refine ⟨q,_,_,_,rfl,rfl,sB.seq hq,zay hv,?_⟩
  obtain ⟨H4,s4,hH4⟩:∃ H4,Same H3 H4/\H4=H3:=⟨_,Same.refl _,rfl⟩
  rw[<-hH4]
  clear hH4
  nofun
  intro q2 nq2
  have s5:=zb nq2 (.lst [.ref t])
  have e5:=zp (.lst [.ref t]) nq2
  generalize upd H4 q2 (.lst [.ref t])=H5 at s5 e5 ⊢
  refine ⟨q1,q2,_,_,rfl,rfl,(s4.trans s5) _ _ e3,e5,by rw[yao];show _+1<=_;ac_rfl,fun q3 nq3=>?_⟩
  have s6:=zb nq3 (.lst (rs.take i++[.ref t]))
  have e6:=zp (.lst (rs.take i++[.ref t])) nq3
  generalize upd H5 q3 (.lst (rs.take i++[.ref t]))=H6 at s6 e6 ⊢
  have sC:=sB.trans (s4.trans (s5.trans s6))
  nofun
  refine ⟨q,rs,rfl,sC.seq hq,fun q4 nq4=>?_⟩
  rw[zeF rs i]
  have s7:=zb nq4 (.lst (rs.drop i))
  have e7:=zp (.lst (rs.drop i)) nq4
  generalize upd H6 q4 (.lst (rs.drop i))=H7 at s7 e7 ⊢
  refine ⟨q3,q4,_,_,rfl,rfl,s7 _ _ e6,e7,by rw[yac,yao,yay];show _+1+_<=_;ac_rfl,fun q5 nq5=>?_⟩
  have s8:=zb nq5 (.lst (rs.take i++[.ref t]++rs.drop i))
  have sD:=sC.trans (s7.trans s8)
  have hRD:=hR.same sD
  refine h q5 _ (es.take i++[(k,d,x)]++es.drop i) _ (zy (sC.trans s7) nq5) sD zf (LL.append (LL.append (LL.take hRD i) (.cons ⟨t,rfl,sD _ _ ht⟩ .nil)) (LL.ziu hRD i)) (((okm.take i).app (Sps.one sp2)).app (okm.drop i)) ?_
  rw[yac,yac,yao,yay]
  show _<=_+1+_+1/\_+1+_<=_
  ac_rfl
 have od:b<=d/\d<=b+59/\d<=999999:=⟨oe.lo,oe.hi,oe.top⟩
 obtain ⟨F,hF⟩:∃ F:Int,F=fr*st:=⟨_,rfl⟩
 dsimp only
 rw[<-hF]
 clear hF fr0 fr1
 obtain ⟨X,hX⟩:∃ X:Int,X=if (if x+st<1000000000 then x+st else 1000000000) > 0 then if x+st<1000000000 then x+st else 1000000000 else 0:=⟨_,rfl⟩
 have X0:0<=X:=by rw[hX];split <;> ac_rfl
 rw[<-hX]
 clear hX
 intro t0 nt0
 have s3:=s2.trans (zb nt0 (.tup (zaK k d X)))
 have e3:=zp (.tup (zaK k d X)) nt0
 refine ⟨fun σ' H'=>L2.Ee4 fun (tm:Addr) (d' x':Int) (z:Option V)=>L2.Aa4 ((Same H H'/\H' tm=some (.tup (zaK k d' x')))) ((b<=d'/\d'<=b+59/\d'<=999999)) (zq9 (n+1) b k d' x') (σ'=[some (.ref q),some (.int c),some (.int b),some (.int i),some (.str k.word),some (.int d),some (.int x),some (.int st),some (.int F),some (.ref tm),z]),?_,?_⟩
 ·nofun
  ·rename_i hc
   obtain rfl:=zg8 k .still hc
   intro t1 nt1
   refine ⟨t1,d,_,none,⟨s3.trans (zb nt1 _),zf⟩,od,?_,rfl⟩
   obtain ⟨o1,o2,o3⟩:=oe.still (e:=(.still,d,x)) rfl
   dsimp only at o1 o2 o3
   show d<_/\_<=b+79+(n+1)/\_<=1000000
   split <;> split <;> ac_rfl
  ·rename_i hc
   refine ⟨t0,d,X,none,⟨s3,e3⟩,od,?_,rfl⟩
   have:=oe.th
   cases k <;> first | exact X0 | exact trivial | exact absurd rfl hc | exact this
 clear e3 s3 X0 nt0 X t0
 rintro σ' M1 ⟨tm,d',x',z,⟨sM1,eM⟩,dd,pr,rfl⟩
 refine ⟨fun σ' H'=>L2.Ee4 fun (tm:Addr) (d' x':Int) (z:Option V)=>L2.Aa4 ((Same H H'/\H' tm=some (.tup (zaK k d' x')))) ((b<=d'/\d'<=b+59/\d'<=999999)) (zq9 (n+1) b k d' x') (σ'=[some (.ref q),some (.int c),some (.int b),some (.int i),some (.str k.word),some (.int d),some (.int x),some (.int st),some (.int F),some (.ref tm),z]),?_,?_⟩
 ·nofun
  ·rename_i hc
   obtain rfl:=zg8 k .fee hc
   intro t1 nt1
   exact ⟨t1,d,_,z,⟨sM1.trans (zb nt1 _),zf⟩,od,trivial,rfl⟩
  ·exact ⟨tm,d',x',z,⟨sM1,eM⟩,dd,pr,rfl⟩
 clear sM1 eM dd pr
 clear d' x' z tm
 rintro σ' M2 ⟨tm,d',x',z,⟨sM2,eM⟩,dd,pr,rfl⟩
 refine ⟨fun σ' H'=>L2.Ee4 fun (tm:Addr) (d' x':Int) (z:Option V)=>L2.Aa4 ((Same H H'/\H' tm=some (.tup (zaK k d' x')))) ((b<=d'/\d'<=b+59/\d'<=999999)) (zq9 (n+1) b k d' x') (σ'=[some (.ref q),some (.int c),some (.int b),some (.int i),some (.str k.word),some (.int d),some (.int x),some (.int st),some (.int F),some (.ref tm),z]),?_,?_⟩
 ·nofun
  ·intro M m1 m2 m3 _
   obtain ⟨D,hD⟩:∃ D:Int,D=if M > b then M else b:=⟨_,rfl⟩
   have Dd:b<=D/\D<=b+59/\D<=999999:=by rw[hD];split <;> ac_rfl
   clear m1 m2 m3
   nofun
   rw[<-hD]
   clear hD
   intro t1 nt1
   have s3:=sM2.trans (zb nt1 (.tup (zaK k D x)))
   have e3:=zp (.tup (zaK k D x)) nt1
   nofun
   ·rename_i hc
    obtain rfl:=zg8 k .still hc
    intro t2 nt2
    refine ⟨t2,D,_,_,⟨s3.trans (zb nt2 _),zf⟩,Dd,?_,rfl⟩
    obtain ⟨o1,o2,o3⟩:=oe.still (e:=(.still,d,x)) rfl
    dsimp only at o1 o2 o3
    show D<_/\_<=b+79+(n+1)/\_<=1000000
    split <;> ac_rfl
   ·rename_i hc
    refine ⟨t1,D,x,_,⟨s3,e3⟩,Dd,?_,rfl⟩
    have:=oe.th
    cases k <;> first | exact trivial | exact absurd rfl hc | exact this.1 | exact this
  ·exact ⟨tm,d',x',z,⟨sM2,eM⟩,dd,pr,rfl⟩
 clear sM2 eM dd pr
 clear d' x' z tm
 rintro σ' M4 ⟨tm,d',x',z,⟨sM4,eM⟩,dd,pr,rfl⟩
 refine ⟨fun σ' H'=>L2.Ee4 fun (tm:Addr) (d' x':Int) (z:Option V)=>L2.Aa4 ((Same H H'/\H' tm=some (.tup (zaK k d' x')))) ((b<=d'/\d'<=b+59/\d'<=999999)) (ztM (n+1) b k d' x') (σ'=[some (.ref q),some (.int c),some (.int b),some (.int i),some (.str k.word),some (.int d),some (.int x),some (.int st),some (.int F),some (.ref tm),z]),?_,?_⟩
 ·nofun
  intro tt ntt
  have st4:=zb ntt (.tup [.str "out", .str "pay", .str "due"])
  have et4:=zp (.tup [.str "out", .str "pay", .str "due"]) ntt
  have s5:=sM4.trans st4
  have e5:=st4 _ _ eM
  generalize upd M4 tt (.tup [.str "out", .str "pay", .str "due"])=M5 at s5 e5 et4 ⊢
  clear eM sM4 st4
  cases k
  all_goals dsimp only [Ek.word,zaK] at e5 ⊢
  all_goals first | exact pr.elim | skip
  all_goals refine ⟨tt,_,rfl,.inr (SqT.of et4),rfl,rfl,_,rfl,?_⟩
  all_goals nofun
  all_goals first | exact ⟨tm,d',x',z,⟨s5,e5⟩,dd,pr,rfl⟩ | skip
  all_goals
   intro t2 nt2
   refine ⟨t2,d',_,z,⟨s5.trans (zb nt2 _),zf⟩,dd,?_,rfl⟩
   show 1<=_
   split <;> ac_rfl
 clear sM4 eM dd pr
 clear d' x' z tm
 rintro σ' M6 ⟨tm,d',x',z,⟨sM6,eM⟩,dd,pr,rfl⟩
 refine ⟨fun σ' H'=>L2.Ee4 fun (tm:Addr) (d' x':Int) (z:Option V)=>L2.Aa4 ((Same H H'/\H' tm=some (.tup (zaK k d' x')))) ((b<=d'/\d'<=b+59/\d'<=999999)) (Th (n+1) b k d' x') (σ'=[some (.ref q),some (.int c),some (.int b),some (.int i),some (.str k.word),some (.int d),some (.int x),some (.int st),some (.int F),some (.ref tm),z]),?_,?_⟩
 ·nofun
  intro tt ntt
  have st4:=zb ntt (.tup [.str "rate", .str "late"])
  have et4:=zp (.tup [.str "rate", .str "late"]) ntt
  have s5:=sM6.trans st4
  have e5:=st4 _ _ eM
  generalize upd M6 tt (.tup [.str "rate", .str "late"])=M5 at s5 e5 et4 ⊢
  clear eM sM6 st4
  cases k
  all_goals dsimp only [Ek.word,zaK] at e5 ⊢
  all_goals first | exact pr.elim | skip
  all_goals refine ⟨tt,_,rfl,.inr (SqT.of et4),rfl,rfl,_,rfl,?_⟩
  all_goals nofun
  all_goals first | exact ⟨tm,d',x',z,⟨s5,e5⟩,dd,pr,rfl⟩ | skip
  all_goals
   intro t2 nt2
   refine ⟨t2,d',_,z,⟨s5.trans (zb nt2 _),zf⟩,dd,?_,rfl⟩
   have pr0:0<=x':=pr
   show 0<=_/\_<=1000000
   split <;> ac_rfl
 clear sM6 eM dd pr
 clear d' x' z tm
 rintro σ' M8 ⟨tm,d',x',z,⟨sM8,eM⟩,dd,pr,rfl⟩
 have sp2:Sp1 (n+1) b (k,d',x'):=⟨dd.1,dd.2.1,dd.2.2,pr⟩
 nofun
 refine ⟨q,rs,rfl,sM8.seq hq,fun q1 nq1=>?_⟩
 rw[zeJ rs i]
 have s3:=zb nq1 (.lst (rs.take i))
 have e3:=zp (.lst (rs.take i)) nq1
 generalize upd M8 q1 (.lst (rs.take i))=H3 at s3 e3 ⊢
 have sB:=sM8.trans s3
 obtain ⟨H4,s4,hH4⟩:∃ H4,Same H3 H4/\H4=H3:=⟨_,Same.refl _,rfl⟩
 rw[<-hH4]
 clear hH4
 nofun
 intro q2 nq2
 have s5:=zb nq2 (.lst [.ref tm])
 have e5:=zp (.lst [.ref tm]) nq2
 generalize upd H4 q2 (.lst [.ref tm])=H5 at s5 e5 ⊢
 refine ⟨q1,q2,_,_,rfl,rfl,(s4.trans s5) _ _ e3,e5,by rw[yao];show _+1<=_;ac_rfl,fun q3 nq3=>?_⟩
 have s6:=zb nq3 (.lst (rs.take i++[.ref tm]))
 have e6:=zp (.lst (rs.take i++[.ref tm])) nq3
 generalize upd H5 q3 (.lst (rs.take i++[.ref tm]))=H6 at s6 e6 ⊢
 have sC:=sB.trans (s4.trans (s5.trans s6))
 nofun
 refine ⟨q,rs,rfl,sC.seq hq,fun q4 nq4=>?_⟩
 rw[show ((i:Int)+1)=((i+1:Nat):Int) by ac_rfl,zeF rs (i+1)]
 have s7:=zb nq4 (.lst (rs.drop (i+1)))
 have e7:=zp (.lst (rs.drop (i+1))) nq4
 generalize upd H6 q4 (.lst (rs.drop (i+1)))=H7 at s7 e7 ⊢
 refine ⟨q3,q4,_,_,rfl,rfl,s7 _ _ e6,e7,by rw[yac,yao,yay];show _+1+_<=_;ac_rfl,fun q5 nq5=>?_⟩
 have s8:=zb nq5 (.lst (rs.take i++[.ref tm]++rs.drop (i+1)))
 have sD:=sC.trans (s7.trans s8)
 have hRD:=hR.same sD
 refine h q5 _ (es.take i++[(k,d',x')]++es.drop (i+1)) _ (zy (sC.trans s7) nq5) sD zf (LL.append (LL.append (LL.take hRD i) (.cons ⟨tm,rfl,(s3.trans (s4.trans (s5.trans (s6.trans (s7.trans s8))))) _ _ eM⟩ .nil)) (LL.ziu hRD (i+1))) (((okm.take i).app (Sps.one sp2)).app (okm.drop (i+1))) ?_
 rw[yac,yac,yao,yay]
 show _<=_+1+_+1/\_+1+_<=_
 ac_rfl
def zhx (K:W.Frag):Sp:=fun vs H Q _=>L2.Ee5 fun q rs (es:List Er) g b=>L2.Aa8 (vs=[.ref q,.int g,.int b]) (SqL K H q rs) (RL3 H rs es) (Sps 3 b es) (es.length<=60) ((0<=g/\g<=40)) (0<=b) (∀ t H',H t=none->Same H H'->zd2 H' t b g es->Q (.ref t) H')
theorem zaM:zk ["_law_specs_here", "_law_grace", "_law_base", "_law_still", "_law_turns", "_law_spec_here", "_law_rows"] qbf (zi zdn):=by walk_at "sp"
theorem zlN (S:Src K mg "_law_tells" zdn qbf) (T:Txt K mg) (zep:Def P w K mg base 1 "_law_stills" qaz (zgE K)) (zcj:Def P w K mg base 1 "_law_sums" qay (zid K)) (zfi:Def P w K mg base 1 "_law_lates" qba (zhp K)) (zdf:Def P w K mg base 1 "_law_rates" qbb (zho P w K)):Def P w K mg base 2 "_law_tells" qbf (zhx K):=by
 exists S.ok,zaM,0
 all_goals obtain ⟨q,rs,es,g,b,rfl,hq,hR,ok,hl,hg,b0,h⟩:=h
 ·rfl
 refine ⟨_,(ze (zo (i:=3) zaM.nd rfl (by walk_at "lc") (zl zep hr (za (pv 0) (za (pv 2) zc))))
  (ze (zo (i:=4) zaM.nd rfl (by walk_at "lc") (zh zjT (zR (za zd zc)) zd))
  (ze (zaE PassesOwn.never rfl (zV (pv 0)) (zF (i:=5) zaM.nd rfl (by walk_at "lc"))
  (zg (zK (zr zaa (zq zO (pv 5) zd (fun _ _=>rfl)) zv (nomark _))
  (zg (zcl zd (zfa (pv 4) (zh zaj (zq zO (pv 5) zd (fun _ _=>rfl)) (pv 2)) set_list)))
   zA)))
  (ze (zo (i:=6) zaM.nd rfl (by walk_at "lc") (zR (za (zcG (ix:=[]) ⟨rfl,by decide +kernel,rfl,by decide +kernel,rfl,(show (["_law_one"]:List Str).Nodup by decide +kernel),by walk_at "cap", by walk_at "sub", by walk_at "has"⟩ (zV (zl zcj hr (za (pv 0) (za zv (za (pv 2) zc))))) (fun b=>(zh zaj zd (pv 0)))) (za (zl zcj hr (za (pv 0) (za zv (za (pv 2) zc)))) zc))))
  (ze (zo (i:=6) zaM.nd rfl (by walk_at "lc") (zh zaV (pv 6) (zR (za (zl zfi hr (za (pv 0) (za (pv 1) (za (pv 3) (za (pv 2) zc))))) (za (pv 4) zc)))))
  (ze (zo (i:=6) zaM.nd rfl (by walk_at "lc") (zh zaV (pv 6) (zR (za (zl zdf hr (za (pv 0) (za zv (za (pv 3) (za (pv 2) zc))))) (za (zl zdf hr (za (pv 0) (za zv (za (pv 3) (za (pv 2) zc))))) zc)))))
  (zg (zj (zab (za (zl zcj hr (za (pv 0) (za zv (za (pv 2) zc)))) (za (pv 6) zc))))))))))),?_⟩
 have sz:=sizeLine_eq
 have xl:=hR.length
 have in1:∀ e∈es,b<=e.2.1/\e.2.1<=b+129:=fun e he=>⟨(ok e he).lo,by have:=(ok e he).hi;ac_rfl⟩
 nofun
 rename_i p1 H1 np1
 intro s1 e1
 have hq1:=s1.seq hq
 have hR1:=hR.same s1
 nofun
 intro p0 np0
 have s0:=s1.trans (zb np0 (.lst [.int 0]))
 nofun
 refine ⟨p0,130,_,rfl,rfl,zf,by decide,by decide,by rw[sz];decide,fun p np=>?_⟩
 rw[zgP,show yax ((130:Int).toNat) (V.int 0)=(tb fun _=>(0:Int)).map V.int by rw[<-zjC,yco];rfl]
 have s2:=s0.trans (zb np (.lst ((tb fun _=>(0:Int)).map V.int)))
 have npH:=zy s0 np
 have eP0:=zp (.lst ((tb fun _=>(0:Int)).map V.int)) np
 have e1':=((zb np0 (.lst [.int 0])).trans (zb np (.lst ((tb fun _=>(0:Int)).map V.int)))) _ _ e1
 generalize upd (upd H1 p0 (.lst [.int 0])) p (.lst ((tb fun _=>(0:Int)).map V.int))=H2 at s2 eP0 e1' ⊢
 nofun
 refine ⟨⟨_,s2.seq hq⟩,zbz (xs:=rs) (fun i σ H'=>∃ y1:Option V,(Same H H'/\H' p=some (.lst ((tb fun k=>if b+(k:Int)∈dys "turn" (es.take i) then (1:Int) else 0).map V.int)))/\H' p1=some (.lst ((tb (stF b es)).map V.bl))/\σ=[some (.ref q),some (.int g),some (.int b),some (.ref p1),some (.ref p),y1,none])
  ⟨_,⟨s2,eP0⟩,e1',rfl⟩ ?_ ?_ ?_⟩
 ·rintro i σ H' _ ⟨_,⟨sH,_⟩,_⟩
  exact sH.seq hq
 ·rintro i x σ H' hx ⟨y1,⟨sH,eP⟩,eS,rfl⟩
  obtain ⟨e,he,t,rfl,ht⟩:=(hR.same sH).get hx
  have tk:es.take (i+1)=es.take i++[e]:=by rw[ybi,he];rfl
  obtain ⟨o1,o2⟩:=in1 e (yah he)
  have dy:dys "turn" (es.take i++[e])=dys "turn" (es.take i)++if isW "turn" e=true then [e.2.1] else []:=by
   unfold dys
   rw[ybk,yat]
   by_cases c:isW "turn" e=true
   ·rw[yau c,if_pos c];rfl
   ·rw[yav c,if_neg c];rfl
  rw[tk,dy]
  nofun
  ·rename_i c
   refine ⟨p,_,_,_,rfl,rfl,eP,zgF (by ac_rfl) (by rw[yab,zaU];ac_rfl),?_⟩
   refine ⟨_,⟨zM sH npH,?_⟩,?_,rfl⟩
   ·rw[zf,<-ycw,zgy,if_pos (show isW "turn" e=true from decide_eq_true c)]
    refine zeT fun k hk=>?_
    by_cases q1:k=(e.2.1-b).toNat
    ·rw[if_pos q1,if_pos (yai _ (by rw[show b+(k:Int)=e.2.1 by ac_rfl];exact ybc.mpr rfl))]
    ·rw[if_neg q1]
     have:b+(k:Int)∈dys "turn" (es.take i)++[e.2.1]↔b+(k:Int)∈dys "turn" (es.take i):=by
      rw[yam,ybc]
      exact ⟨fun z=>z.elim id fun z=>by ac_rfl,.inl⟩
     simp only[this]
   ·rw[zt (fun z=>by rw[z,eP] at eS;exact absurd (Option.some.inj eS) (by intro y;injection y with y;exact absurd (congrArg (fun l=>l[0]?) y) (by rw[yag,yag,zck (by ac_rfl),zck (by ac_rfl)];intro z;cases z)))]
    exact eS
  ·rename_i c
   rw[if_neg (show ¬ isW "turn" e=true from fun z=>c (of_decide_eq_true z)),ybw]
   exact ⟨_,⟨sH,eP⟩,eS,rfl⟩
 ·rintro σ H' ⟨y1,⟨sH,eP⟩,eS,rfl⟩
  rw[xl,yas (ycz _)] at eP
  nofun
  refine ⟨q,rs,es, "pay", b,rfl,sH.seq hq,hR.same sH,in1,hl,fun p2 H3 np2 s3 e2=>?_⟩
  refine ⟨p2,rfl,⟨_,SqL.of e2⟩,fun l nl=>?_⟩
  refine comp_map (zap (SqL.of e2)) nl (by rw[yab,zaU,sz];decide) (tb (rwF b g es 0)) (by rw[yab,zaU,zaU]) (fun _ v x=>v=.int x) (fun v e H1 H2 s h=>h) (fun v e H1 ys zs hL h=>h) ?_ ?_
  ·rintro i x e H4 Q' hx he sH4 hq'
   rw[yag] at hx
   have hi:i<130:=by
    have:=(yad.mp he).1
    rwa [zaU] at this
   rw[zck hi] at hx he
   obtain rfl:=Option.some.inj hx
   obtain rfl:=Option.some.inj he
   nofun
   exact hq' _ _ (Same.refl _) rfl
  rintro ys H4 s4 eL hL
  have ey:=hL.eqm
  nofun
  subst ey
  have sA:=sH.trans (s3.trans s4)
  refine ⟨q,rs,es, "fee", b,rfl,sA.seq hq,hR.same sA,in1,hl,fun p3 H5 np3 s5 e3=>?_⟩
  nofun
  intro r1 nr1
  have s6:=zb nr1 (.lst [.ref l,.ref p3])
  have er1:=zp (.lst [.ref l,.ref p3]) nr1
  generalize upd H5 r1 (.lst [.ref l,.ref p3])=H6 at s6 er1 ⊢
  have sB:=sA.trans (s5.trans s6)
  have sB':=s3.trans (s4.trans (s5.trans s6))
  nofun
  refine ⟨q,rs,es,g,p1,b,rfl,sB.seq hq,hR.same sB,ok,hl,hg,SqL.of (sB' _ _ eS),fun p4 H7 np4 s7 e4=>?_⟩
  nofun
  intro r2 nr2
  have s8:=zb nr2 (.lst [.ref p4,.ref p])
  have er2:=zp (.lst [.ref p4,.ref p]) nr2
  generalize upd H7 r2 (.lst [.ref p4,.ref p])=H8 at s8 er2 ⊢
  refine ⟨r1,r2,_,_,rfl,rfl,(s7.trans s8) _ _ er1,er2,by rw[sz];show 4<=16777216;decide,fun r3 nr3=>?_⟩
  have s9:=zb nr3 (.lst ([.ref l,.ref p3]++[.ref p4,.ref p]))
  have er3:=zp (.lst ([.ref l,.ref p3]++[.ref p4,.ref p])) nr3
  generalize upd H8 r3 (.lst ([.ref l,.ref p3]++[.ref p4,.ref p]))=H9 at s9 er3 ⊢
  have sC':=s7.trans (s8.trans s9)
  have sC:=sB.trans sC'
  nofun
  refine ⟨q,rs,es, "rate", p1,b,rfl,sC.seq hq,hR.same sC,fun e he=>(ok e he).lo,b0,hl,SqL.of ((sB'.trans sC') _ _ eS),fun p5 H10 np5 s10 e5=>?_⟩
  nofun
  have sD:=sC.trans s10
  refine ⟨q,rs,es, "late", p1,b,rfl,sD.seq hq,hR.same sD,fun e he=>(ok e he).lo,b0,hl,SqL.of ((sB'.trans (sC'.trans s10)) _ _ eS),fun p6 H11 np6 s11 e6=>?_⟩
  nofun
  intro r4 nr4
  have s12:=zb nr4 (.lst [.ref p5,.ref p6])
  have er4:=zp (.lst [.ref p5,.ref p6]) nr4
  generalize upd H11 r4 (.lst [.ref p5,.ref p6])=H12 at s12 er4 ⊢
  refine ⟨r3,r4,_,_,rfl,rfl,(s10.trans (s11.trans s12)) _ _ er3,er4,by rw[sz];show 6<=16777216;decide,fun r5 nr5=>?_⟩
  have s13:=zb nr5 (.lst ([.ref l,.ref p3]++[.ref p4,.ref p]++[.ref p5,.ref p6]))
  have er5:=zp (.lst ([.ref l,.ref p3]++[.ref p4,.ref p]++[.ref p5,.ref p6])) nr5
  generalize upd H12 r5 (.lst ([.ref l,.ref p3]++[.ref p4,.ref p]++[.ref p5,.ref p6]))=H13 at s13 er5 ⊢
  have sE':=s10.trans (s11.trans (s12.trans s13))
  have sE:=sC.trans sE'
  nofun
  refine ⟨q,rs,es, "out", b,rfl,sE.seq hq,hR.same sE,in1,hl,fun p7 H14 np7 s14 e7=>?_⟩
  nofun
  intro t nt
  have s15:=zb nt (.tup [.ref p7,.ref r5])
  refine h t _ (zy (sE.trans s14) nt) (sE.trans (s14.trans s15)) ⟨p7,r5,_,zf,s15 _ _ e7,(s14.trans s15) _ _ er5,?_⟩
  have f1:=s14.trans s15
  refine .cons ⟨l,rfl,(s5.trans (s6.trans (sC'.trans (sE'.trans f1)))) _ _ eL⟩ (.cons ⟨p3,rfl,(s6.trans (sC'.trans (sE'.trans f1))) _ _ e3⟩ (.cons ⟨p4,rfl,(s8.trans (s9.trans (sE'.trans f1))) _ _ e4⟩ (.cons ⟨p,rfl,(sB'.trans (sC'.trans (sE'.trans f1))) _ _ eP⟩ (.cons ⟨p5,rfl,(s11.trans (s12.trans (s13.trans f1))) _ _ e5⟩ (.cons ⟨p6,rfl,(s12.trans (s13.trans f1)) _ _ e6⟩ .nil)))))
def zkF (K:W.Frag):Sp:=fun vs H Q _=>L2.Ee4 fun a xs l d=>L2.Aa5 (vs=[.ref a,.int d]) (SqL K H a xs) (zu K H xs l) (Spans.Joined l) (Q (.bl (Spans.isIn l d)) H)
theorem zph:zk qah qah (zi zgX):=by walk_at "sp"
theorem zq2 (S:Src K mg "stands" zgX qah) (T:Txt K mg) (zeP:Def P w K mg base 2 "moved" qah (zi4 K)):Def P w K mg base 3 "stands" qah (zkF K):=by
 exists S.ok,zph,0
 all_goals obtain ⟨a,xs,l,d,rfl,hS,hR,J,h⟩:=h
 ·rfl
 refine ⟨_,(zg (zj (zeK zdK (zl zeP hr (za (pv 0) (za (pv 1) zc))) (pv 1) (nomark _)))),?_⟩
 nofun
 refine ⟨a,xs,l,d,rfl,hS,hR,J,?_⟩
 intro m F
 nofun
 refine qb h ?_
 cases b:Spans.isIn l d with
 | true=>exact (decide_eq_true (F.gt.mpr (Spans.zcE.mp b))).symm
 | false=>exact (decide_eq_false fun z=>by rw[Spans.zcE.mpr (F.gt.mp z)] at b;cases b).symm
def zcc (K:W.Frag):Sp:=fun vs H Q _=>L2.Ee6 fun a b xs ys (t u:List (Int × Int))=>L2.Aa4 (vs=[.ref a,.ref b]) ((H a=some (.lst xs)/\zu K H xs t/\t.length<=1000/\(t.Pairwise fun s u=>s.1<u.1)/\(∀ s∈t,0<=s.1))) ((H b=some (.lst ys)/\zu K H ys u/\u.length<=1000/\(u.Pairwise fun s u=>s.1<u.1)/\(∀ s∈u,0<=s.1))) (∀ v:Bool,(v=true↔∀ d:Int,0<=d->d<=999999->Sums.valOf t d<=Sums.valOf u d)->Q (.bl v) H)
theorem zu.app {K:W.Frag} {H:Hp} {xs ys:List V} {l r:List (Int × Int)} (h:zu K H xs l) (g:zu K H ys r):zu K H (xs++ys) (l++r):=by
 induction h with
 | nil=>exact g
 | cons e _ ih=>exact .cons e ih
theorem zeq:zk ["one", "other", "days"] qab (zi zbA):=by walk_at "sp"
theorem zjk (S:Src K mg "is_never_above" zbA qab) (T:Txt K mg) (zbE:Def P w K mg base 2 "value_at" qan (zfP K)):Def P w K mg base 3 "is_never_above" qab (zcc K):=by
 exists S.okF,zeq,0
 all_goals obtain ⟨a,b,xs,ys,t,u,rfl,⟨ea,ra,la,ua,na⟩,⟨eb,rb,lb,ub,nb⟩,h⟩:=h
 ·rfl
 refine ⟨_,(ze (zhG (i:=2) zeq.nd rfl rfl (ix:=[]) ⟨rfl,by decide +kernel,rfl,by decide +kernel,rfl,(show (["row"]:List Str).Nodup by decide +kernel),by walk_at "cap", by walk_at "sub", by walk_at "has"⟩ (zV (zh zaV (pv 0) (pv 1))) (fun b=>(zr zgQ (zq (zaR K) (pv 0) zd (fun _ _=>rfl)) (ziC T.zeA) (nomark _))) (fun b=>(zq (zaR K) (pv 0) zd (fun _ _=>rfl))))
  (zg (zj (zw (zpD rfl) rfl T.zpa PyProof.Rows.boot_all (za (zcG (ix:=[0,1]) ⟨rfl,by decide +kernel,rfl,by decide +kernel,rfl,(show (["day", "one", "other"]:List Str).Nodup by decide +kernel),by walk_at "cap", by walk_at "sub", by walk_at "has"⟩ (zV (pv 2)) (fun b=>(zeK zgQ (zl zbE hr (za (pv 1) (za (pv 0) zc))) (zl zbE hr (za (pv 2) (za (pv 0) zc))) (nomark _)))) zc))))),?_⟩
 have sz:=sizeLine_eq
 have xl:=ra.length
 have yl:=rb.length
 nofun
 refine ⟨a,b,xs,ys,rfl,rfl,ea,eb,by ac_rfl,fun p np=>?_⟩
 have s1:=zb np (.lst (xs++ys))
 have e1:=zp (.lst (xs++ys)) np
 generalize upd H p (.lst (xs++ys))=H1 at s1 e1 ⊢
 have R1:=zu.app (ra.same s1) (rb.same s1)
 have rl:=R1.length
 nofun
 refine ⟨⟨_,SqL.of e1⟩,fun l1 n1=>?_⟩
 refine zcz (zap (SqL.of e1)) n1 (by rw[yac];ac_rfl) (t++u) rl.symm (fun s=>decide (s.1<=999999)) (fun H' v s=>v=.int s.1) (fun v e H1 H2 s e1=>e1) (fun v e H1 ys zs hL e1=>e1) ?_ ?_ ?_
 ·rintro i x s H' Q' hx hs sH hq
  obtain ⟨q,s',rfl,e,ht⟩:=R1.get hx
  obtain rfl:s'=s:=Option.some.inj (e.symm.trans hs)
  have ht':=sH _ _ ht
  nofun
  exact hq
 ·rintro i x s H' Q' hx hs fe sH hq
  obtain ⟨q,s',rfl,e,ht⟩:=R1.get hx
  obtain rfl:s'=s:=Option.some.inj (e.symm.trans hs)
  have ht':=sH _ _ ht
  nofun
  exact hq _ _ (Same.refl _) rfl
 ·rintro zs H2 s2 eL hL
  have ey:=hL.eqm
  have dl:((t++u).filter fun s=>decide (s.1<=999999)).length<=2000:=yde (ybb _ _) (by rw[yac];ac_rfl)
  have nab_eq:=zr1 na nb
  unfold nab at nab_eq
  generalize (t++u).filter (fun s=>decide (s.1<=999999))=ds at ey dl nab_eq
  rw[ey] at eL
  have sH:=s1.trans s2
  nofun
  refine ⟨⟨_,SqL.of eL⟩,fun l2 n2=>?_⟩
  refine zl0 (zap (SqL.of eL)) n2 (by rw[yab];ac_rfl) (fun i v _=>∃ s,ds[i]?=some s/\v=.bl (decide (Sums.valOf t s.1<=Sums.valOf u s.1))) (fun _ _ _ _ _ q=>q) (fun _ _ _ _ _ _ q=>q) ?_ ?_
  ·rintro i v H' Q' hv s' hq
   rw[yag] at hv
   obtain ⟨s,hs,rfl⟩:=Option.map_eq_some_iff.mp hv
   have sK:=sH.trans s'
   nofun
   refine ⟨a,xs,t,s.1,rfl,SqL.of (sK _ _ ea),ra.same sK,ua,na,?_⟩
   nofun
   refine ⟨b,ys,u,s.1,rfl,SqL.of (sK _ _ eb),rb.same sK,ub,nb,?_⟩
   nofun
   exact hq _ _ (Same.refl _) ⟨s,hs,rfl⟩
  ·rintro bs H' s' eB bl hp
   have eb2:bs=(ds.map fun s=>decide (Sums.valOf t s.1<=Sums.valOf u s.1)).map V.bl:=by
    apply ybt
    intro j
    cases e:bs[j]? with
    | none=>rw[yap (by have:=List.getElem?_eq_none_iff.mp e;rw[yab,yab];rw[yab] at bl;ac_rfl)]
    | some v =>
     obtain ⟨s,h1,rfl⟩:=hp j v e
     rw[yag,yag,h1]
     rfl
   nofun
   refine ⟨l2,ds.map fun s=>decide (Sums.valOf t s.1<=Sums.valOf u s.1),rfl,SqL.of (by rw[<-eb2];exact eB),sH.trans s',?_⟩
   exact h _ nab_eq
noncomputable def zjs (b c:BkT) (d:Int):Int:=upto b.pays d-upto c.pays d+upto c.fees d-upto b.fees d
def zhE (K:W.Frag):Sp:=fun vs H Q _=>L2.Ee7 fun a A b a' A' c d=>L2.Aa4 (vs=[.ref a,.ref a',.int d]) (zav K H a A b) (zav K H a' A' c) (Q (.int (zjs b c d)) H)
theorem zkL:zk ["one", "other", "day", "paid"] qar (zi zg1):=by walk_at "sp"
theorem zq5 (S:Src K mg "gap_at" zg1 qar) (T:Txt K mg) (zg9:Def P w K mg base 2 "handed" qao (zkK K)) (zbF:Def P w K mg base 1 "sum_upto" qae (zfY K)) (zaQ:zG P w K mg base 1 (cA K "Book") "fees" qaa (zeS K)):Def P w K mg base 3 "gap_at" qar (zhE K):=by
 exists S.okF,zkL,0
 all_goals obtain ⟨a,A,b,a',A',c,d,rfl,B,C,h⟩:=h
 ·rfl
 refine ⟨_,(ze (zo (i:=3) zkL.nd rfl (by walk_at "lc") (zh zaj (zl zg9 hr (za (pv 0) (za (pv 2) zc))) (zl zg9 hr (za (pv 1) (za (pv 2) zc)))))
  (zg (zj (zh zaj (zh zD (pv 3) (zl zbF hr (za (zP zaQ T.zx hr (pv 1)) (za (pv 2) zc)))) (zl zbF hr (za (zP zaQ T.zx hr (pv 0)) (za (pv 2) zc))))))),?_⟩
 nofun
 refine ⟨a,A,b,d,rfl,B,?_⟩
 nofun
 refine ⟨a',A',c,d,rfl,C,?_⟩
 nofun
 refine ⟨a',A'.dx,_,rfl,C.ins,rfl,a',A',c,rfl,C,fun q xs nq hR hl=>?_⟩
 have s1:=zb nq (.lst xs)
 have B1:=B.same s1
 have R1:=hR.same s1
 have e1:=zp (.lst xs) nq
 generalize upd H q (.lst xs)=H1 at s1 B1 R1 e1 ⊢
 nofun
 refine ⟨q,xs,c.fees,d,rfl,SqL.of e1,R1,hl,?_⟩
 nofun
 refine ⟨a,A.dx,_,rfl,B1.ins,rfl,a,A,b,rfl,B1,fun q2 xs2 nq2 hR2 hl2=>?_⟩
 have s2:=zb nq2 (.lst xs2)
 nofun
 refine ⟨q2,xs2,b.fees,d,rfl,SqL.of zf,hR2.same s2,hl2,?_⟩
 nofun
 exact ⟨s1.trans s2,h⟩
def zgq (K:W.Frag):Sp:=fun vs H Q _=>∃ c kd g,vs=[.ref c,.int g]/\zc0 K H c kd/\(0<=g/\g<=366)/\Q .non H
theorem zj7:zk qas qas (zi zcs):=by walk_at "sp"
theorem zlA (S:Src K mg "check_terms" zcs qas) (T:Txt K mg) (zf8:Def P w K mg base 2 "is_within" qaq (zhS K)):Def P w K mg base 3 "check_terms" qas (zgq K):=by
 exists S.ok,zj7,0
 all_goals obtain ⟨c,kd,g,rfl,hc,⟨g0,g1⟩,h⟩:=h
 ·rfl
 refine ⟨_,(ze (zK (zd4 (zch (zw zpn rfl T.zbk PyProof.Rows.boot_isinstance (za (pv 0) (za (zgx (v:=.ref (cA K "Count")) rfl T.ziq rfl) zc)))))
   zhJ
   zA)
  (zg (zK (zd4 (zch (zl zf8 hr (za (pv 1) (za zd (za (ziC T.ze4) zc))))))
   zhJ
   zA))),?_⟩
 have ty:=tyC (T.cls kd) (T.ikK kd) hc
 nofun
 refine ⟨_,_,_,_,rfl,ty,T.kitK0 kd,?_⟩
 rw[show zsJ kd .plain=true from rfl]
 nofun
 exact h
def zgB (K:W.Frag):Sp:=fun vs H Q _=>L2.Ee6 fun p sp xs ys (es:List Er) l=>L2.Aa6 (vs=[.ref p,.ref sp]) (SqL K H p xs) (EL K H xs es) (es.length<=61) ((SqL K H sp ys/\zu K H ys l/\Spans.Joined l)) (∀ q H' ws r,H q=none->Same H H'->H' q=some (.lst ws)->zu K H' ws r->Sby.Tab r (mvp (mvd l) (prs "due" es))->Q (.ref q) H')
theorem zkA:zk qat qat (zi zcp):=by walk_at "sp"
theorem zlb (S:Src K mg "fallen_dues" zcp qat) (T:Txt K mg) (zdv:Def P w K mg base 1 "summed" qaf (zhI K)) (zbS:Def P w K mg base 2 "sum_by" qac (zhW K)) (zeP:Def P w K mg base 2 "moved" qah (zi4 K)):Def P w K mg base 3 "fallen_dues" qat (zgB K):=by
 exists S.ok,zkA,0
 all_goals obtain ⟨p,sp,xs,ys,es,l,rfl,ep,hE,hl,⟨eS,rS,J⟩,h⟩:=h
 ·rfl
 refine ⟨_,(zg (zj (zl zdv hr (za (zcG (ix:=[1]) ⟨rfl,by decide +kernel,rfl,by decide +kernel,rfl,(show (["row", "spans"]:List Str).Nodup by decide +kernel),by walk_at "cap", by walk_at "sub", by walk_at "has"⟩ (zV (zl zbS hr (za (pv 0) (za zv zc)))) (fun b=>(zab (za (zl zeP hr (za (pv 1) (za (zq (zaR K) (pv 0) zd (fun _ _=>rfl)) zc))) (za (zq (zaR K) (pv 0) zd (fun _ _=>rfl)) zc))))) zc)))),?_⟩
 have sz:=sizeLine_eq
 nofun
 refine ⟨p,xs,es, "due", rfl,ep,hE,hl,.inr (.inr (.inr rfl)),fun q1 H1 ws1 r1 nq1 s1 e1 R1 T1=>?_⟩
 have eS1:=s1.seq eS
 have rS1:=rS.same s1
 have l1:=R1.length
 have pl:=zeO (w:="due") (es:=es)
 have rl:r1.length<=(prs "due" es).length:=by
  have:=zfb (Sby.zgR T1.up) fun k hk=>(T1.mem k).mp hk
  rw[yab,yab] at this
  exact this
 refine ⟨q1,rfl,⟨_,SqL.of e1⟩,fun lt nlt=>?_⟩
 refine comp_map (zap (SqL.of e1)) nlt (by ac_rfl) r1 l1.symm (fun H' v s=>∃ t,v=.ref t/\H' t=some (.tup [.int (mvd l s.1),.int s.2])) (fun v e H1 H2 s ⟨t,e1,e2⟩=>⟨t,e1,s _ _ e2⟩) (fun v e H1 ys zs hL ⟨t,e1,e2⟩=>⟨t,e1,by rw[zt (za6 e2 hL (by intro z;cases z))];exact e2⟩) ?_ ?_
 ·rintro i x s H' Q' hx hs sH hq
  obtain ⟨u,s',rfl,hs',hu⟩:=(R1.same sH).get hx
  obtain rfl:s'=s:=Option.some.inj (hs'.symm.trans hs)
  nofun
  refine ⟨sp,ys,l,s'.1,rfl,sH.seq eS1,rS1.same sH,J,fun m F=>?_⟩
  obtain rfl:=zmg F
  nofun
  intro t nt
  exact hq _ _ (zb nt _) ⟨t,rfl,zf⟩
 ·rintro zs H2 s2 eL hL
  have ml:(mvp (mvd l) r1).length=r1.length:=yab ..
  nofun
  refine ⟨lt,zs,mvp (mvd l) r1,rfl,eL,zqR hL,by ac_rfl,fun q H3 ws r nq s3 eq hr' tb=>?_⟩
  exact h q H3 ws r (zy (s1.trans s2) nq) (s1.trans (s2.trans s3)) eq hr' (zrP _ T1 tb)
def zhm (K:W.Frag):Sp:=fun vs H Q _=>∃ (a:Addr) (ns:List Int) (b:Int),vs=[.ref a,.int 8,.int 16,.int b]/\SqL K H a (ns.map V.int)/\(0<=b/\b<=999999) /\
 ∀ q rs (es:List Er) H',H q=none->Same H H'->H' q=some (.lst rs)->RL3 H' rs es->Sps 0 b es->5<=es.length/\es.length<=16->Q (.ref q) H'
theorem zek:zk ["_law_script", "_law_start", "_law_most", "_law_base", "_law_specs_here", "_law_k"] qbg (zi zdi):=by walk_at "sp"
theorem zmv (S:Src K mg "_law_specs" zdi qbg) (T:Txt K mg) (zX:Def P w K mg base 2 "_law_cell" qak (zeW K)) (zbO:Def P w K mg base 1 "_law_spec" qal (zfh K)):Def P w K mg base 3 "_law_specs" qbg (zhm K):=by
 exists S.ok,zek,0
 all_goals obtain ⟨a,ns,b,rfl,hS,⟨b0,b1⟩,h⟩:=h
 ·rfl
 refine ⟨_,(ze (zo (i:=4) zek.nd rfl (by walk_at "lc") (zR (za (zab (za zv (za (pv 3) (za (zh zbI (zaB (v:=100000) (by decide +kernel) ⟨by decide,by decide,by decide⟩) (zh zD zd (zh zH (zl zX hr (za (pv 0) (za (pv 1) zc))) zd))) zc)))) zc)))
  (ze (zaE PassesOwn.never rfl (zfw rfl T.zbN (za (zh zD (pv 1) zd) (za (zw (zbq rfl) rfl T.zc5 PyProof.Rows.boot_min (za (zh zD (pv 1) (pv 2)) (za (zw (zaP rfl) rfl T.zcr PyProof.Rows.boot_max (za (zh zD (pv 1) zd) (za (zw zag rfl T.zbx PySem.boot_len (za (pv 0) zc)) zc))) zc))) zc))) (zF (i:=5) zek.nd rfl (by walk_at "lc"))
  (zg (zbM (zil PySem.F.plainAttrs_list PySem.F.slot_list_append PySem.F.type_list_append zcF (pv 4) (za (zl zbO hr (za (zl zX hr (za (pv 0) (za (pv 5) zc))) (za (pv 3) zc))) zc)))))
  (zg (zj (pv 4))))),?_⟩
 have sz:=sizeLine_eq
 nofun
 rename_i r r0 r1
 intro t nt
 have s1:=zb nt (.tup [.str "out", .int b,.int (100000*(1+r % 90))])
 have e1:=zp (.tup [.str "out", .int b,.int (100000*(1+r % 90))]) nt
 nofun
 intro q nq
 have s2:=s1.trans (zb nq (.lst [.ref t]))
 have npH:=zy s1 nq
 have e2:=zp (.lst [.ref t]) nq
 have e12:=zb nq (.lst [.ref t]) _ _ e1
 generalize upd (upd H t (.tup [.str "out", .int b,.int (100000*(1+r % 90))])) q (.lst [.ref t])=H1 at s2 e2 e12 ⊢
 nofun
 refine ⟨a,_,rfl,.inl (s2.seq hS),?_⟩
 rw[yab]
 obtain ⟨N,hN⟩:∃ N:Int,N=if (if (ns.length:Int)<13 then 13 else (ns.length:Int))<24 then (if (ns.length:Int)<13 then 13 else (ns.length:Int)) else 24:=⟨_,rfl⟩
 have N0:13<=N:=by rw[hN];split <;> split <;> ac_rfl
 have N1:N<=24:=by rw[hN];split <;> split <;> ac_rfl
 nofun
 refine zbW (fun j σ H'=>∃ (rs:List V) (es:List Er) (z:Option V),(Same H H'/\H' q=some (.lst rs)/\RL3 H' rs es)/\(Sps 0 b es/\es.length=1+j)/\σ=[some (.ref a),some (.int 8),some (.int 16),some (.int b),some (.ref q),z])
  ⟨[.ref t],[(.out,b,100000*(1+r % 90))],_,⟨s2,e2,.cons ⟨t,rfl,e12⟩ .nil⟩,⟨Sps.one ⟨ydx _,by show b<=b+59;ac_rfl,by show b<=999999;ac_rfl,by show 1<=100000*(1+r % 90);ac_rfl⟩,rfl⟩,rfl⟩ ?_ ?_
 ·rintro j σ H2 hj ⟨rs,es,z,⟨sH,eQ,hR⟩,⟨ok,el⟩,rfl⟩
  have xl:=hR.length
  have hj':j<15:=by
   split at hj <;> split at hj <;> ac_rfl
  have hSH:=sH.seq hS
  nofun
  refine ⟨.inl ⟨rfl,_,SqL.of eQ⟩,?_⟩
  nofun
  rename_i y y0 y1
  intro t' k d x H3 nt' s3 et' sp
  nofun
  have eQ3:=s3 _ _ eQ
  refine ⟨q,_,_,rfl,rfl,eQ3,by ac_rfl,?_⟩
  refine ⟨_,es++[(k,d,x)],_,⟨zM (sH.trans s3) npH,zf,LL.push (RL3.put (hR.same s3) eQ3) ⟨t',rfl,?_⟩⟩,⟨ok.app (Sps.one sp),?_⟩,rfl⟩
  ·rw[zt (za6 et' eQ3 (by intro z;cases z))]
   exact et'
  ·rw[yac,el]
   rfl
 ·rintro σ H2 ⟨rs,es,z,⟨sH,eQ,hR⟩,⟨ok,el⟩,rfl⟩
  nofun
  refine h q rs es H2 npH sH eQ hR ok ?_
  rw[el]
  split <;> split <;> ac_rfl
def zi0 (K:W.Frag):Sp:=fun vs H Q _=>L2.Ee6 fun a b xs ys (t l:List (Int × Int))=>L2.Aa5 (vs=[.ref a,.ref b]) ((H a=some (.lst xs)/\zu K H xs t/\(t.Pairwise fun s u=>s.1<u.1)/\(∀ s∈t,0<=s.1))) ((H b=some (.lst ys)/\zu K H ys l/\Spans.Joined l)) (t.length+2*l.length<63) (∀ p ws (r:List (Int × Int)) H',H p=none->Same H H'->H' p=some (.lst ws)->zu K H' ws r->r.length<=1000->(r.Pairwise fun s u=>s.1<u.1)->(∀ s∈r,0<=s.1)->(∀ d:Int,0<=d->d<=999999->Sums.valOf r d=chv t l d)->Q (.ref p) H')
theorem ziN:zk ["table", "spans", "days"] qbh (zi zer):=by walk_at "sp"
theorem zoB (S:Src K mg "charging" zer qbh) (T:Txt K mg) (zi3:Def P w K mg base 1 "breaks" qaw (zk3 K)) (zjp:Def P w K mg base 3 "stands" qah (zkF K)) (zbE:Def P w K mg base 2 "value_at" qan (zfP K)):Def P w K mg base 4 "charging" qbh (zi0 K):=by
 exists S.ok,ziN,0
 all_goals obtain ⟨a,b,xs,ys,t,l,rfl,⟨ea,ra,ua,na⟩,⟨eb,rb,J⟩,ls,h⟩:=h
 ·rfl
 refine ⟨_,(ze (zo (i:=2) ziN.nd rfl (by walk_at "lc") (zh zaV (zR (za zd zc)) (zl zi3 hr (za (pv 0) (za (pv 1) (za zd (za (zh zD (ziC T.zeA) zd) zc)))))))
  (zg (zj (zcG (ix:=[1,0]) ⟨rfl,by decide +kernel,rfl,by decide +kernel,rfl,(show (["day", "spans", "table"]:List Str).Nodup by decide +kernel),by walk_at "cap", by walk_at "sub", by walk_at "has"⟩ (zV (pv 2)) (fun b=>(zab (za (pv 0) (za (zrb (zch (zl zjp hr (za (pv 1) (za (pv 0) zc)))) zd (zl zbE hr (za (pv 2) (za (pv 0) zc)))) zc)))))))),?_⟩
 have sz:=sizeLine_eq
 have xl:=ra.length
 have yl:=rb.length
 nofun
 intro p np
 have s1:=zb np (.lst [V.int 0])
 have e1:=zp (.lst [V.int 0]) np
 generalize upd H p (.lst [V.int 0])=H1 at s1 e1 ⊢
 nofun
 refine ⟨a,b,xs,ys,t,l,0,_,rfl,SqL.of (s1 _ _ ea),ra.same s1,SqL.of (s1 _ _ eb),rb.same s1,by ac_rfl,fun q ns H2 s2 nq e2 nl up hd=>?_⟩
 nofun
 refine ⟨p,q,_,_,rfl,rfl,s2 _ _ e1,e2,by rw[yab];show 1+_<=_;ac_rfl,fun r nr=>?_⟩
 have s3:=zb nr (.lst ([V.int 0]++ns.map V.int))
 have e3:=zp (.lst ([V.int 0]++ns.map V.int)) nr
 generalize upd H2 r (.lst ([V.int 0]++ns.map V.int))=H3 at s3 e3 ⊢
 have e3':H3 r=some (.lst (((0:Int)::ns).map V.int)):=e3
 have sH:=s1.trans (s2.trans s3)
 clear s1 s2 s3 e1 e2 e3
 nofun
 refine ⟨⟨_,SqL.of e3'⟩,fun l1 n1=>?_⟩
 refine comp_map (zap (SqL.of e3')) n1 (by rw[yab,yba];ac_rfl) ((0:Int)::ns) (by rw[yab]) (fun H' v k=>∃ t',v=.ref t'/\H' t'=some (.tup [.int k,.int (chv t l k)])) (fun v e H1 H2 s ⟨t,e1,e2⟩=>⟨t,e1,s _ _ e2⟩) (fun v e H1 ys zs hL ⟨t,e1,e2⟩=>⟨t,e1,by rw[zt (za6 e2 hL (by intro z;cases z))];exact e2⟩) ?_ ?_
 ·rintro i x k H' Q' hx hk s' hq
  rw[yag,hk] at hx
  cases hx
  have sK:=sH.trans s'
  nofun
  refine ⟨b,ys,l,k,rfl,SqL.of (sK _ _ eb),rb.same sK,J,?_⟩
  cases q:Spans.isIn l k with
  | true =>
   nofun
   intro t' nt
   exact hq _ _ (zb nt _) ⟨t',rfl,by rw[zf];unfold chv;rw[if_pos q]⟩
  | false =>
   nofun
   refine ⟨a,xs,t,k,rfl,SqL.of (sK _ _ ea),ra.same sK,ua,na,?_⟩
   nofun
   intro t' nt
   exact hq _ _ (zb nt _) ⟨t',rfl,by rw[zf];unfold chv;rw[if_neg (by rw[q];decide)]⟩
 ·rintro zs H4 s4 e4 hL
  have hS:zu K H4 zs (((0:Int)::ns).map fun k=>(k,chv t l k)):=by
   clear e4
   revert hL
   generalize (0:Int)::ns=ks
   intro hL
   induction hL with
   | nil=>exact .nil
   | cons h _ ih =>
    obtain ⟨t',rfl,e⟩:=h
    exact .cons e ih
  have k0:∀ k∈ns,0<k:=fun k hk=>((hd k).mp hk).1.1
  refine h l1 zs _ H4 (zy sH n1) (sH.trans s4) e4 hS (by rw[yab,yba];ac_rfl) ?_ ?_ (fun d d0 d1=>zr4 hd d0 d1)
  ·rw[ybj]
   exact ybp.mpr ⟨fun k hk=>k0 k hk,up⟩
  ·intro s hs
   obtain ⟨k,hk,rfl⟩:=yae.mp hs
   rcases yaj.mp hk with rfl | hk
   ·exact ydx _
   ·exact Int.le_of_lt (k0 k hk)
structure FOk (b:BkT):Prop where
 fu:(b.fees.map (·.1)).Pairwise (·<·)
 fn:∀ s∈b.fees,0<=s.1
 fl:b.fees.length<=1000
theorem zeM {l:List (Int × Int)} (h:(l.map (·.1)).Pairwise (·<·)):(runs 0 l).Pairwise fun s u=>s.1<u.1:=zpT (by rw[zcM];exact h)
theorem zeH {l:List (Int × Int)} (h:∀ s∈l,0<=s.1):∀ s∈runs 0 l,0<=s.1:=fun s hs=>by
 have m:s.1∈l.map (·.1):=by rw[<-zcM l 0];exact yaz hs
 obtain ⟨r,hr,e⟩:=yae.mp m
 rw[<-e]
 exact h r hr
theorem zn4 (g:Int) (l:List (Int × Int)):(shf g l).length=l.length:=yab _
theorem zgm {g:Int} {l:List (Int × Int)} (h:(l.map (·.1)).Pairwise (·<·)):((shf g l).map (·.1)).Pairwise (·<·):=by
 unfold shf
 rw[ybv,ybj]
 rw[ybj] at h
 exact h.imp fun z=>by show _+g<_+g;omega
theorem zgo {g:Int} {l:List (Int × Int)} (g0:0<=g) (h:∀ s∈l,0<=s.1):∀ s∈shf g l,0<=s.1:=fun s hs=>by
 obtain ⟨r,hr,rfl⟩:=yae.mp hs
 have:=h r hr
 show 0<=r.1+g
 omega
def zdo (K:W.Frag):Sp:=fun vs H Q _=>L2.Ee6 fun a A (b:BkT) a' A' (c:BkT)=>L2.Aa4 (vs=[.ref a,.ref a']) ((zav K H a A b/\BOk b/\FOk b)) ((zav K H a' A' c/\BOk c/\FOk c)) (∀ v:Bool,(v=true↔(∀ d:Int,0<=d->d<=999999->upto c.pays d<=upto b.pays d)/\(∀ d:Int,0<=d->d<=999999->upto b.fees d<=upto c.fees d)/\∀ d:Int,0<=d->d<=999999->upto b.dues (d-b.g)<=upto c.dues (d-c.g))->Q (.bl v) H)
theorem za0:zk ["one", "other", "pays", "fees", "dues"] qab (zi za7):=by walk_at "sp"
theorem zhX (S:Src K mg "is_asked_no_more" za7 qab) (T:Txt K mg) (zae:Def P w K mg base 3 "is_never_above" qab (zcc K)) (zam:Def P w K mg base 1 "running_sums" ["rows"] (zcV K)) (zbc:zG P w K mg base 1 (cA K "Book") "pays" qaa (zff K)) (zaQ:zG P w K mg base 1 (cA K "Book") "fees" qaa (zeS K)) (zdM:Def P w K mg base 2 "late_sums" ["book"] (zh8 K)):Def P w K mg base 4 "is_asked_no_more" qab (zdo K):=by
 exists S.okF,za0,0
 all_goals obtain ⟨a,A,b,a',A',c,rfl,⟨B,O,F⟩,⟨C,O',F'⟩,h⟩:=h
 ·rfl
 refine ⟨_,(ze (zo (i:=2) za0.nd rfl (by walk_at "lc") (zl zae hr (za (zl zam hr (za (zP zbc T.zx hr (pv 1)) zc)) (za (zl zam hr (za (zP zbc T.zx hr (pv 0)) zc)) zc))))
  (ze (zo (i:=3) za0.nd rfl (by walk_at "lc") (zl zae hr (za (zl zam hr (za (zP zaQ T.zx hr (pv 0)) zc)) (za (zl zam hr (za (zP zaQ T.zx hr (pv 1)) zc)) zc))))
  (ze (zo (i:=4) za0.nd rfl (by walk_at "lc") (zl zae hr (za (zl zdM hr (za (pv 0) zc)) (za (zl zdM hr (za (pv 1) zc)) zc))))
  (zg (zj (zbR (pv 2) (zbR (pv 3) (zdl (pv 4))))))))),?_⟩
 have sz:=sizeLine_eq
 nofun
 have C1:=C.same (Same.refl _)
 refine ⟨a',A'.dx,_,rfl,C1.ins,rfl,a',A',c,rfl,C1,fun q1 x1 nq1 r1 l1=>?_⟩
 have t1:=zb nq1 (.lst x1)
 have e1:=zp (.lst x1) nq1
 have R1:=r1.same t1
 generalize upd H q1 (.lst x1)=H1 at t1 e1 R1 ⊢
 nofun
 rename_i p2 w2 H2
 intro np2 t2 e2 R2
 nofun
 have B3:=B.same (t1.trans (t2))
 refine ⟨a,A.dx,_,rfl,B3.ins,rfl,a,A,b,rfl,B3,fun q3 x3 nq3 r3 l3=>?_⟩
 have t3:=zb nq3 (.lst x3)
 have e3:=zp (.lst x3) nq3
 have R3:=r3.same t3
 generalize upd H2 q3 (.lst x3)=H3 at t3 e3 R3 ⊢
 nofun
 rename_i p4 w4 H4
 intro np4 t4 e4 R4
 nofun
 refine ⟨p2,p4,w2,w4,runs 0 c.pays,runs 0 b.pays,rfl,⟨(t3.trans t4) _ _ e2,R2.same (t3.trans t4),by rw[zcA];assumption,zeM O'.pu,zeH O'.pn⟩,⟨e4,R4,by rw[zcA];assumption,zeM O.pu,zeH O.pn⟩,fun b1 hb1=>?_⟩
 have k1:b1=true↔∀ d:Int,0<=d->d<=999999->upto c.pays d<=upto b.pays d:=hb1.trans ⟨fun z d d0 d1=>by rw[<-zaI O'.pu O'.pn,<-zaI O.pu O.pn];exact z d d0 d1,fun z d d0 d1=>by rw[zaI O'.pu O'.pn,zaI O.pu O.pn];exact z d d0 d1⟩
 nofun
 have B5:=B.same (t1.trans (t2.trans (t3.trans (t4))))
 refine ⟨a,A.dx,_,rfl,B5.ins,rfl,a,A,b,rfl,B5,fun q5 x5 nq5 r5 l5=>?_⟩
 have t5:=zb nq5 (.lst x5)
 have e5:=zp (.lst x5) nq5
 have R5:=r5.same t5
 generalize upd H4 q5 (.lst x5)=H5 at t5 e5 R5 ⊢
 nofun
 rename_i p6 w6 H6
 intro np6 t6 e6 R6
 nofun
 have C7:=C.same (t1.trans (t2.trans (t3.trans (t4.trans (t5.trans (t6))))))
 refine ⟨a',A'.dx,_,rfl,C7.ins,rfl,a',A',c,rfl,C7,fun q7 x7 nq7 r7 l7=>?_⟩
 have t7:=zb nq7 (.lst x7)
 have e7:=zp (.lst x7) nq7
 have R7:=r7.same t7
 generalize upd H6 q7 (.lst x7)=H7 at t7 e7 R7 ⊢
 nofun
 rename_i p8 w8 H8
 intro np8 t8 e8 R8
 nofun
 refine ⟨p6,p8,w6,w8,runs 0 b.fees,runs 0 c.fees,rfl,⟨(t7.trans t8) _ _ e6,R6.same (t7.trans t8),by rw[zcA];assumption,zeM F.fu,zeH F.fn⟩,⟨e8,R8,by rw[zcA];assumption,zeM F'.fu,zeH F'.fn⟩,fun b2 hb2=>?_⟩
 have k2:b2=true↔∀ d:Int,0<=d->d<=999999->upto b.fees d<=upto c.fees d:=hb2.trans ⟨fun z d d0 d1=>by rw[<-zaI F.fu F.fn,<-zaI F'.fu F'.fn];exact z d d0 d1,fun z d d0 d1=>by rw[zaI F.fu F.fn,zaI F'.fu F'.fn];exact z d d0 d1⟩
 nofun
 have B9:=B.same (t1.trans (t2.trans (t3.trans (t4.trans (t5.trans (t6.trans (t7.trans (t8))))))))
 refine ⟨a,A,b,rfl,B9,fun p9 w9 H9 np9 t9 e9 R9=>?_⟩
 nofun
 have C10:=C.same (t1.trans (t2.trans (t3.trans (t4.trans (t5.trans (t6.trans (t7.trans (t8.trans (t9)))))))))
 refine ⟨a',A',c,rfl,C10,fun p10 w10 H10 np10 t10 e10 R10=>?_⟩
 nofun
 refine ⟨p9,p10,w9,w10,runs 0 (shf b.g b.dues),runs 0 (shf c.g c.dues),rfl,⟨t10 _ _ e9,R9.same t10,by rw[zcA,zn4];have:=O.sz;ac_rfl,zeM (zgm O.du),zeH (zgo O.g0 O.dn)⟩,⟨e10,R10,by rw[zcA,zn4];have:=O'.sz;ac_rfl,zeM (zgm O'.du),zeH (zgo O'.g0 O'.dn)⟩,fun b3 hb3=>?_⟩
 have k3:b3=true↔∀ d:Int,0<=d->d<=999999->upto b.dues (d-b.g)<=upto c.dues (d-c.g):=hb3.trans ⟨fun z d d0 d1=>by rw[<-zbV,<-zbV,<-zaI (zgm O.du) (zgo O.g0 O.dn),<-zaI (zgm O'.du) (zgo O'.g0 O'.dn)];exact z d d0 d1,fun z d d0 d1=>by rw[zaI (zgm O.du) (zgo O.g0 O.dn),zaI (zgm O'.du) (zgo O'.g0 O'.dn),zbV,zbV];exact z d d0 d1⟩
 have sH:=t1.trans (t2.trans (t3.trans (t4.trans (t5.trans (t6.trans (t7.trans (t8.trans (t9.trans (t10)))))))))
 nofun
 cases b1 with
 | false=>exact ⟨sH,h false ⟨(fun z=>by cases z),fun z=>absurd (k1.mpr z.1) (by decide)⟩⟩
 | true =>
  nofun
  cases b2 with
  | false=>exact ⟨sH,h false ⟨(fun z=>by cases z),fun z=>absurd (k2.mpr z.2.1) (by decide)⟩⟩
  | true =>
   nofun
   exact h b3 ⟨fun z=>⟨k1.mp rfl,k2.mp rfl,k3.mp z⟩,fun z=>k3.mpr z.2.2⟩
def zh1 (K:W.Frag):Sp:=fun vs H Q _=>L2.Ee9 fun a dx c p kd g xs (es:List Er) G=>L2.zsq (vs=[.ref a,.ref c,.int g,.ref p]) (H a=some (.ins (cA K "Book") dx [])) ((G a=none/\Same G H)) (zc0 K G c kd) ((0<=g/\g<=366)) (SqL K G p xs) (EL K G xs es) (es.length<=61) ((∀ e∈es,0<=e.2.1)) (∀ A (b:BkT) H',Same G H'->zav K H' a A b->zbp b->b.kd=kd->b.g=g->b.es=es->Q .non H')
theorem zir {r l:List (Int × Int)} (T:Sby.Tab r l):r.length<=l.length:=by
 have:=zfb (Sby.zgR T.up) fun k hk=>(T.mem k).mp hk
 rw[yab,yab] at this
 exact this
theorem zmC:zk qau qau (zi zdH):=by walk_at "sp"
theorem znm (S:zB K (cA K "Book") "__init__" "Book.__init__" zdH qau) (T:Txt K mg) (zed:Def P w K mg base 3 "check_terms" qas (zgq K)) (zbS:Def P w K mg base 2 "sum_by" qac (zhW K)) (zhM:Def P w K mg base 2 "days_of" qac (zjN K)) (zdc:Def P w K mg base 2 "rate_table" qac (zhq K)) (zeh:Def P w K mg base 2 "still_spans" qbd (zgC K)) (zei:Def P w K mg base 3 "fallen_dues" qat (zgB K)):zG P w K mg base 4 (cA K "Book") "__init__" qau (zh1 K):=by
 exists S.ok,zmC,0
 all_goals obtain ⟨a,dx,c,p,kd,g,xs,es,G,rfl,ea,⟨na,sG⟩,hc,hg,hp,hE,hl,e0,h⟩:=h
 ·rfl
 refine ⟨_,(ze (zbM (zl zed hr (za (pv 1) (za (pv 2) zc))))
  (ze (zK (zr zdK (zw zag rfl T.zbx PySem.boot_len (za (pv 3) zc)) (ziC T.zdz) (nomark _))
   zhJ
   zA)
  (ze (zbl T.zx T.zbe (pv 0) (pv 1))
  (ze (zbl T.zx T.zbi (pv 0) (pv 2))
  (ze (zbl T.zx T.zbP (pv 0) (zW zaq rfl T.zbJ PyProof.Rows.boot_list (za (pv 3) zc)))
  (ze (zbl T.zx T.zbw (pv 0) (zl zbS hr (za (pv 3) (za zv zc))))
  (ze (zbl T.zx T.zbs (pv 0) (zl zbS hr (za (pv 3) (za zv zc))))
  (ze (zbl T.zx T.zbD (pv 0) (zl zbS hr (za (pv 3) (za zv zc))))
  (ze (zbl T.zx T.zbf (pv 0) (zl zhM hr (za (pv 3) (za zv zc))))
  (ze (zbl T.zx T.zbh (pv 0) (zl zdc hr (za (pv 3) (za zv zc))))
  (ze (zbl T.zx T.zbg (pv 0) (zl zdc hr (za (pv 3) (za zv zc))))
  (ze (zbl T.zx T.zbH (pv 0) (zl zeh hr (za (pv 3) zc)))
  (zg (zbl T.zx T.zbt (pv 0) (zl zei hr (za (pv 3) (za (zbn T.zx T.zbH (pv 0)) zc))))))))))))))))),?_⟩
 have sz:=sizeLine_eq
 have xl:=hE.length
 have pl:∀ w,(prs w es).length<=61:=fun w=>yde zeO hl
 nofun
 refine ⟨c,kd,g,rfl,hc.same sG,hg,?_⟩
 have hp0:=sG.seq hp
 nofun
 ·ac_rfl
 refine ⟨a,dx,[],rfl,ea,by decide,?_⟩
 rw[show zat ("own_count" : Str) (V.ref c) ([]:List (Str × V))=([("own_count", V.ref c)]:List (Str × V)) from rfl]
 nofun
 refine ⟨a,dx,_,rfl,zf,ydd (ycz 1) (by decide),?_⟩
 rw[show zat ("own_grace" : Str) (V.int g) ([("own_count", V.ref c)]:List (Str × V))=([("own_count", V.ref c),("own_grace", V.int g)]:List (Str × V)) from rfl]
 rw[zaA]
 have e2:upd H a (.ins (cA K "Book") dx [("own_count", V.ref c),("own_grace", V.int g)]) a=some (.ins (cA K "Book") dx [("own_count", V.ref c),("own_grace", V.int g)]):=zf
 have s2:Same G (upd H a (.ins (cA K "Book") dx [("own_count", V.ref c),("own_grace", V.int g)])):=zM sG na
 generalize upd H a (.ins (cA K "Book") dx [("own_count", V.ref c),("own_grace", V.int g)])=H2 at e2 s2 ⊢
 nofun
 refine ⟨p,xs,rfl,.inl (s2.seq hp),fun q3 n3=>?_⟩
 have t3:=zb n3 (.lst xs)
 have z3:=zp (.lst xs) n3
 have c3:=t3 _ _ e2
 nofun
 refine ⟨a,dx,_,rfl,c3,ydd (ycz 2) (by decide),?_⟩
 rw[show zat ("own_entries" : Str) (V.ref q3) ([("own_count", V.ref c),("own_grace", V.int g)]:List (Str × V))=([("own_count", V.ref c),("own_grace", V.int g),("own_entries", V.ref q3)]:List (Str × V)) from rfl]
 have k3:Same (wo H2 a) (wo (upd (upd H2 q3 (.lst xs)) a (.ins (cA K "Book") dx [("own_count", V.ref c),("own_grace", V.int g),("own_entries", V.ref q3)])) a):=zb5 t3
 have s3:Same G (upd (upd H2 q3 (.lst xs)) a (.ins (cA K "Book") dx [("own_count", V.ref c),("own_grace", V.int g),("own_entries", V.ref q3)])):=zM (s2.trans t3) na
 have e3:(upd (upd H2 q3 (.lst xs)) a (.ins (cA K "Book") dx [("own_count", V.ref c),("own_grace", V.int g),("own_entries", V.ref q3)])) a=some (.ins (cA K "Book") dx [("own_count", V.ref c),("own_grace", V.int g),("own_entries", V.ref q3)]):=zf
 have L3:wo (upd (upd H2 q3 (.lst xs)) a (.ins (cA K "Book") dx [("own_count", V.ref c),("own_grace", V.int g),("own_entries", V.ref q3)])) a q3=some (.lst xs):=by rw[zci];exact zlR z3 c3
 generalize upd (upd H2 q3 (.lst xs)) a (.ins (cA K "Book") dx [("own_count", V.ref c),("own_grace", V.int g),("own_entries", V.ref q3)])=H3 at k3 s3 e3 L3 ⊢
 nofun
 refine ⟨p,xs,es, "out", rfl,s3.seq hp,hE.same s3,hl,.inl rfl,fun q4 G4 w4 r4 n4 t4 z4 R4 T4=>?_⟩
 have c4:=t4 _ _ e3
 nofun
 refine ⟨a,dx,_,rfl,c4,ydd (ycz 3) (by decide),?_⟩
 rw[show zat ("out_sums" : Str) (V.ref q4) ([("own_count", V.ref c),("own_grace", V.int g),("own_entries", V.ref q3)]:List (Str × V))=([("own_count", V.ref c),("own_grace", V.int g),("own_entries", V.ref q3),("out_sums", V.ref q4)]:List (Str × V)) from rfl]
 have k4:Same (wo H3 a) (wo (upd G4 a (.ins (cA K "Book") dx [("own_count", V.ref c),("own_grace", V.int g),("own_entries", V.ref q3),("out_sums", V.ref q4)])) a):=zb5 t4
 have s4:Same G (upd G4 a (.ins (cA K "Book") dx [("own_count", V.ref c),("own_grace", V.int g),("own_entries", V.ref q3),("out_sums", V.ref q4)])):=zM (s3.trans t4) na
 have e4:(upd G4 a (.ins (cA K "Book") dx [("own_count", V.ref c),("own_grace", V.int g),("own_entries", V.ref q3),("out_sums", V.ref q4)])) a=some (.ins (cA K "Book") dx [("own_count", V.ref c),("own_grace", V.int g),("own_entries", V.ref q3),("out_sums", V.ref q4)]):=zf
 have L4:LP K (wo (upd G4 a (.ins (cA K "Book") dx [("own_count", V.ref c),("own_grace", V.int g),("own_entries", V.ref q3),("out_sums", V.ref q4)])) a) q4 r4:=by rw[zci];exact LP.wo ⟨w4,z4,R4,(by have:=zir T4;have:=pl "out";ac_rfl)⟩ c4
 generalize upd G4 a (.ins (cA K "Book") dx [("own_count", V.ref c),("own_grace", V.int g),("own_entries", V.ref q3),("out_sums", V.ref q4)])=H4 at k4 s4 e4 L4 ⊢
 nofun
 refine ⟨p,xs,es, "fee", rfl,s4.seq hp,hE.same s4,hl,.inr (.inl rfl),fun q5 G5 w5 r5 n5 t5 z5 R5 T5=>?_⟩
 have c5:=t5 _ _ e4
 nofun
 refine ⟨a,dx,_,rfl,c5,ydd (ycz 4) (by decide),?_⟩
 rw[show zat ("fee_sums" : Str) (V.ref q5) ([("own_count", V.ref c),("own_grace", V.int g),("own_entries", V.ref q3),("out_sums", V.ref q4)]:List (Str × V))=([("own_count", V.ref c),("own_grace", V.int g),("own_entries", V.ref q3),("out_sums", V.ref q4),("fee_sums", V.ref q5)]:List (Str × V)) from rfl]
 have k5:Same (wo H4 a) (wo (upd G5 a (.ins (cA K "Book") dx [("own_count", V.ref c),("own_grace", V.int g),("own_entries", V.ref q3),("out_sums", V.ref q4),("fee_sums", V.ref q5)])) a):=zb5 t5
 have s5:Same G (upd G5 a (.ins (cA K "Book") dx [("own_count", V.ref c),("own_grace", V.int g),("own_entries", V.ref q3),("out_sums", V.ref q4),("fee_sums", V.ref q5)])):=zM (s4.trans t5) na
 have e5:(upd G5 a (.ins (cA K "Book") dx [("own_count", V.ref c),("own_grace", V.int g),("own_entries", V.ref q3),("out_sums", V.ref q4),("fee_sums", V.ref q5)])) a=some (.ins (cA K "Book") dx [("own_count", V.ref c),("own_grace", V.int g),("own_entries", V.ref q3),("out_sums", V.ref q4),("fee_sums", V.ref q5)]):=zf
 have L5:LP K (wo (upd G5 a (.ins (cA K "Book") dx [("own_count", V.ref c),("own_grace", V.int g),("own_entries", V.ref q3),("out_sums", V.ref q4),("fee_sums", V.ref q5)])) a) q5 r5:=by rw[zci];exact LP.wo ⟨w5,z5,R5,(by have:=zir T5;have:=pl "fee";ac_rfl)⟩ c5
 generalize upd G5 a (.ins (cA K "Book") dx [("own_count", V.ref c),("own_grace", V.int g),("own_entries", V.ref q3),("out_sums", V.ref q4),("fee_sums", V.ref q5)])=H5 at k5 s5 e5 L5 ⊢
 nofun
 refine ⟨p,xs,es, "pay", rfl,s5.seq hp,hE.same s5,hl,.inr (.inr (.inl rfl)),fun q6 G6 w6 r6 n6 t6 z6 R6 T6=>?_⟩
 have c6:=t6 _ _ e5
 nofun
 refine ⟨a,dx,_,rfl,c6,ydd (ycz 5) (by decide),?_⟩
 rw[show zat ("pay_sums" : Str) (V.ref q6) ([("own_count", V.ref c),("own_grace", V.int g),("own_entries", V.ref q3),("out_sums", V.ref q4),("fee_sums", V.ref q5)]:List (Str × V))=([("own_count", V.ref c),("own_grace", V.int g),("own_entries", V.ref q3),("out_sums", V.ref q4),("fee_sums", V.ref q5),("pay_sums", V.ref q6)]:List (Str × V)) from rfl]
 have k6:Same (wo H5 a) (wo (upd G6 a (.ins (cA K "Book") dx [("own_count", V.ref c),("own_grace", V.int g),("own_entries", V.ref q3),("out_sums", V.ref q4),("fee_sums", V.ref q5),("pay_sums", V.ref q6)])) a):=zb5 t6
 have s6:Same G (upd G6 a (.ins (cA K "Book") dx [("own_count", V.ref c),("own_grace", V.int g),("own_entries", V.ref q3),("out_sums", V.ref q4),("fee_sums", V.ref q5),("pay_sums", V.ref q6)])):=zM (s5.trans t6) na
 have e6:(upd G6 a (.ins (cA K "Book") dx [("own_count", V.ref c),("own_grace", V.int g),("own_entries", V.ref q3),("out_sums", V.ref q4),("fee_sums", V.ref q5),("pay_sums", V.ref q6)])) a=some (.ins (cA K "Book") dx [("own_count", V.ref c),("own_grace", V.int g),("own_entries", V.ref q3),("out_sums", V.ref q4),("fee_sums", V.ref q5),("pay_sums", V.ref q6)]):=zf
 have L6:LP K (wo (upd G6 a (.ins (cA K "Book") dx [("own_count", V.ref c),("own_grace", V.int g),("own_entries", V.ref q3),("out_sums", V.ref q4),("fee_sums", V.ref q5),("pay_sums", V.ref q6)])) a) q6 r6:=by rw[zci];exact LP.wo ⟨w6,z6,R6,(by have:=zir T6;have:=pl "pay";ac_rfl)⟩ c6
 generalize upd G6 a (.ins (cA K "Book") dx [("own_count", V.ref c),("own_grace", V.int g),("own_entries", V.ref q3),("out_sums", V.ref q4),("fee_sums", V.ref q5),("pay_sums", V.ref q6)])=H6 at k6 s6 e6 L6 ⊢
 nofun
 refine ⟨p,xs,es, "turn", rfl,s6.seq hp,hE.same s6,hl,fun q7 G7 r7 n7 t7 z7 T7=>?_⟩
 have c7:=t7 _ _ e6
 nofun
 refine ⟨a,dx,_,rfl,c7,ydd (ycz 6) (by decide),?_⟩
 rw[show zat ("turn_days" : Str) (V.ref q7) ([("own_count", V.ref c),("own_grace", V.int g),("own_entries", V.ref q3),("out_sums", V.ref q4),("fee_sums", V.ref q5),("pay_sums", V.ref q6)]:List (Str × V))=([("own_count", V.ref c),("own_grace", V.int g),("own_entries", V.ref q3),("out_sums", V.ref q4),("fee_sums", V.ref q5),("pay_sums", V.ref q6),("turn_days", V.ref q7)]:List (Str × V)) from rfl]
 have k7:Same (wo H6 a) (wo (upd G7 a (.ins (cA K "Book") dx [("own_count", V.ref c),("own_grace", V.int g),("own_entries", V.ref q3),("out_sums", V.ref q4),("fee_sums", V.ref q5),("pay_sums", V.ref q6),("turn_days", V.ref q7)])) a):=zb5 t7
 have s7:Same G (upd G7 a (.ins (cA K "Book") dx [("own_count", V.ref c),("own_grace", V.int g),("own_entries", V.ref q3),("out_sums", V.ref q4),("fee_sums", V.ref q5),("pay_sums", V.ref q6),("turn_days", V.ref q7)])):=zM (s6.trans t7) na
 have e7:(upd G7 a (.ins (cA K "Book") dx [("own_count", V.ref c),("own_grace", V.int g),("own_entries", V.ref q3),("out_sums", V.ref q4),("fee_sums", V.ref q5),("pay_sums", V.ref q6),("turn_days", V.ref q7)])) a=some (.ins (cA K "Book") dx [("own_count", V.ref c),("own_grace", V.int g),("own_entries", V.ref q3),("out_sums", V.ref q4),("fee_sums", V.ref q5),("pay_sums", V.ref q6),("turn_days", V.ref q7)]):=zf
 have L7:wo (upd G7 a (.ins (cA K "Book") dx [("own_count", V.ref c),("own_grace", V.int g),("own_entries", V.ref q3),("out_sums", V.ref q4),("fee_sums", V.ref q5),("pay_sums", V.ref q6),("turn_days", V.ref q7)])) a q7=some (.lst (r7.map V.int)):=by rw[zci];exact zlR z7 c7
 generalize upd G7 a (.ins (cA K "Book") dx [("own_count", V.ref c),("own_grace", V.int g),("own_entries", V.ref q3),("out_sums", V.ref q4),("fee_sums", V.ref q5),("pay_sums", V.ref q6),("turn_days", V.ref q7)])=H7 at k7 s7 e7 L7 ⊢
 nofun
 refine ⟨p,xs,es, "rate", rfl,s7.seq hp,hE.same s7,hl,.inl rfl,e0,fun q8 G8 w8 r8 n8 t8 z8 R8 T8 T8' y8=>?_⟩
 have c8:=t8 _ _ e7
 nofun
 refine ⟨a,dx,_,rfl,c8,ydd (ycz 7) (by decide),?_⟩
 rw[show zat ("rate_rows" : Str) (V.ref q8) ([("own_count", V.ref c),("own_grace", V.int g),("own_entries", V.ref q3),("out_sums", V.ref q4),("fee_sums", V.ref q5),("pay_sums", V.ref q6),("turn_days", V.ref q7)]:List (Str × V))=([("own_count", V.ref c),("own_grace", V.int g),("own_entries", V.ref q3),("out_sums", V.ref q4),("fee_sums", V.ref q5),("pay_sums", V.ref q6),("turn_days", V.ref q7),("rate_rows", V.ref q8)]:List (Str × V)) from rfl]
 have k8:Same (wo H7 a) (wo (upd G8 a (.ins (cA K "Book") dx [("own_count", V.ref c),("own_grace", V.int g),("own_entries", V.ref q3),("out_sums", V.ref q4),("fee_sums", V.ref q5),("pay_sums", V.ref q6),("turn_days", V.ref q7),("rate_rows", V.ref q8)])) a):=zb5 t8
 have s8:Same G (upd G8 a (.ins (cA K "Book") dx [("own_count", V.ref c),("own_grace", V.int g),("own_entries", V.ref q3),("out_sums", V.ref q4),("fee_sums", V.ref q5),("pay_sums", V.ref q6),("turn_days", V.ref q7),("rate_rows", V.ref q8)])):=zM (s7.trans t8) na
 have e8:(upd G8 a (.ins (cA K "Book") dx [("own_count", V.ref c),("own_grace", V.int g),("own_entries", V.ref q3),("out_sums", V.ref q4),("fee_sums", V.ref q5),("pay_sums", V.ref q6),("turn_days", V.ref q7),("rate_rows", V.ref q8)])) a=some (.ins (cA K "Book") dx [("own_count", V.ref c),("own_grace", V.int g),("own_entries", V.ref q3),("out_sums", V.ref q4),("fee_sums", V.ref q5),("pay_sums", V.ref q6),("turn_days", V.ref q7),("rate_rows", V.ref q8)]):=zf
 have L8:LP K (wo (upd G8 a (.ins (cA K "Book") dx [("own_count", V.ref c),("own_grace", V.int g),("own_entries", V.ref q3),("out_sums", V.ref q4),("fee_sums", V.ref q5),("pay_sums", V.ref q6),("turn_days", V.ref q7),("rate_rows", V.ref q8)])) a) q8 r8:=by rw[zci];exact LP.wo ⟨w8,z8,R8,(by ac_rfl)⟩ c8
 generalize upd G8 a (.ins (cA K "Book") dx [("own_count", V.ref c),("own_grace", V.int g),("own_entries", V.ref q3),("out_sums", V.ref q4),("fee_sums", V.ref q5),("pay_sums", V.ref q6),("turn_days", V.ref q7),("rate_rows", V.ref q8)])=H8 at k8 s8 e8 L8 ⊢
 nofun
 refine ⟨p,xs,es, "late", rfl,s8.seq hp,hE.same s8,hl,.inr rfl,e0,fun q9 G9 w9 r9 n9 t9 z9 R9 T9 T9' y9=>?_⟩
 have c9:=t9 _ _ e8
 nofun
 refine ⟨a,dx,_,rfl,c9,ydd (ycz 8) (by decide),?_⟩
 rw[show zat ("late_rows" : Str) (V.ref q9) ([("own_count", V.ref c),("own_grace", V.int g),("own_entries", V.ref q3),("out_sums", V.ref q4),("fee_sums", V.ref q5),("pay_sums", V.ref q6),("turn_days", V.ref q7),("rate_rows", V.ref q8)]:List (Str × V))=([("own_count", V.ref c),("own_grace", V.int g),("own_entries", V.ref q3),("out_sums", V.ref q4),("fee_sums", V.ref q5),("pay_sums", V.ref q6),("turn_days", V.ref q7),("rate_rows", V.ref q8),("late_rows", V.ref q9)]:List (Str × V)) from rfl]
 have k9:Same (wo H8 a) (wo (upd G9 a (.ins (cA K "Book") dx [("own_count", V.ref c),("own_grace", V.int g),("own_entries", V.ref q3),("out_sums", V.ref q4),("fee_sums", V.ref q5),("pay_sums", V.ref q6),("turn_days", V.ref q7),("rate_rows", V.ref q8),("late_rows", V.ref q9)])) a):=zb5 t9
 have s9:Same G (upd G9 a (.ins (cA K "Book") dx [("own_count", V.ref c),("own_grace", V.int g),("own_entries", V.ref q3),("out_sums", V.ref q4),("fee_sums", V.ref q5),("pay_sums", V.ref q6),("turn_days", V.ref q7),("rate_rows", V.ref q8),("late_rows", V.ref q9)])):=zM (s8.trans t9) na
 have e9:(upd G9 a (.ins (cA K "Book") dx [("own_count", V.ref c),("own_grace", V.int g),("own_entries", V.ref q3),("out_sums", V.ref q4),("fee_sums", V.ref q5),("pay_sums", V.ref q6),("turn_days", V.ref q7),("rate_rows", V.ref q8),("late_rows", V.ref q9)])) a=some (.ins (cA K "Book") dx [("own_count", V.ref c),("own_grace", V.int g),("own_entries", V.ref q3),("out_sums", V.ref q4),("fee_sums", V.ref q5),("pay_sums", V.ref q6),("turn_days", V.ref q7),("rate_rows", V.ref q8),("late_rows", V.ref q9)]):=zf
 have L9:LP K (wo (upd G9 a (.ins (cA K "Book") dx [("own_count", V.ref c),("own_grace", V.int g),("own_entries", V.ref q3),("out_sums", V.ref q4),("fee_sums", V.ref q5),("pay_sums", V.ref q6),("turn_days", V.ref q7),("rate_rows", V.ref q8),("late_rows", V.ref q9)])) a) q9 r9:=by rw[zci];exact LP.wo ⟨w9,z9,R9,(by ac_rfl)⟩ c9
 generalize upd G9 a (.ins (cA K "Book") dx [("own_count", V.ref c),("own_grace", V.int g),("own_entries", V.ref q3),("out_sums", V.ref q4),("fee_sums", V.ref q5),("pay_sums", V.ref q6),("turn_days", V.ref q7),("rate_rows", V.ref q8),("late_rows", V.ref q9)])=H9 at k9 s9 e9 L9 ⊢
 nofun
 refine ⟨p,xs,es,rfl,s9.seq hp,hE.same s9,hl,fun q10 G10 w10 r10 n10 t10 z10 R10 J10 V10 y10=>?_⟩
 have c10:=t10 _ _ e9
 nofun
 refine ⟨a,dx,_,rfl,c10,ydd (ycz 9) (by decide),?_⟩
 rw[show zat ("spans" : Str) (V.ref q10) ([("own_count", V.ref c),("own_grace", V.int g),("own_entries", V.ref q3),("out_sums", V.ref q4),("fee_sums", V.ref q5),("pay_sums", V.ref q6),("turn_days", V.ref q7),("rate_rows", V.ref q8),("late_rows", V.ref q9)]:List (Str × V))=([("own_count", V.ref c),("own_grace", V.int g),("own_entries", V.ref q3),("out_sums", V.ref q4),("fee_sums", V.ref q5),("pay_sums", V.ref q6),("turn_days", V.ref q7),("rate_rows", V.ref q8),("late_rows", V.ref q9),("spans", V.ref q10)]:List (Str × V)) from rfl]
 have k10:Same (wo H9 a) (wo (upd G10 a (.ins (cA K "Book") dx [("own_count", V.ref c),("own_grace", V.int g),("own_entries", V.ref q3),("out_sums", V.ref q4),("fee_sums", V.ref q5),("pay_sums", V.ref q6),("turn_days", V.ref q7),("rate_rows", V.ref q8),("late_rows", V.ref q9),("spans", V.ref q10)])) a):=zb5 t10
 have s10:Same G (upd G10 a (.ins (cA K "Book") dx [("own_count", V.ref c),("own_grace", V.int g),("own_entries", V.ref q3),("out_sums", V.ref q4),("fee_sums", V.ref q5),("pay_sums", V.ref q6),("turn_days", V.ref q7),("rate_rows", V.ref q8),("late_rows", V.ref q9),("spans", V.ref q10)])):=zM (s9.trans t10) na
 have e10:(upd G10 a (.ins (cA K "Book") dx [("own_count", V.ref c),("own_grace", V.int g),("own_entries", V.ref q3),("out_sums", V.ref q4),("fee_sums", V.ref q5),("pay_sums", V.ref q6),("turn_days", V.ref q7),("rate_rows", V.ref q8),("late_rows", V.ref q9),("spans", V.ref q10)])) a=some (.ins (cA K "Book") dx [("own_count", V.ref c),("own_grace", V.int g),("own_entries", V.ref q3),("out_sums", V.ref q4),("fee_sums", V.ref q5),("pay_sums", V.ref q6),("turn_days", V.ref q7),("rate_rows", V.ref q8),("late_rows", V.ref q9),("spans", V.ref q10)]):=zf
 have L10:LP K (wo (upd G10 a (.ins (cA K "Book") dx [("own_count", V.ref c),("own_grace", V.int g),("own_entries", V.ref q3),("out_sums", V.ref q4),("fee_sums", V.ref q5),("pay_sums", V.ref q6),("turn_days", V.ref q7),("rate_rows", V.ref q8),("late_rows", V.ref q9),("spans", V.ref q10)])) a) q10 r10:=by rw[zci];exact LP.wo ⟨w10,z10,R10,(by ac_rfl)⟩ c10
 generalize upd G10 a (.ins (cA K "Book") dx [("own_count", V.ref c),("own_grace", V.int g),("own_entries", V.ref q3),("out_sums", V.ref q4),("fee_sums", V.ref q5),("pay_sums", V.ref q6),("turn_days", V.ref q7),("rate_rows", V.ref q8),("late_rows", V.ref q9),("spans", V.ref q10)])=H10 at k10 s10 e10 L10 ⊢
 nofun
 refine ⟨a,dx,_,_,rfl,e10,rfl,?_⟩
 nofun
 obtain ⟨w10',z10',R10',_⟩:=L10.same zbK
 refine ⟨p,q10,xs,w10',es,r10,rfl,s10.seq hp,hE.same s10,hl,⟨SqL.of z10',R10',J10⟩,fun q11 G11 w11 r11 n11 t11 z11 R11 T11=>?_⟩
 rw[zru V10] at T11
 have c11:=t11 _ _ e10
 nofun
 refine ⟨a,dx,_,rfl,c11,ydd (ycz 10) (by decide),?_⟩
 rw[show zat ("due_sums" : Str) (V.ref q11) ([("own_count", V.ref c),("own_grace", V.int g),("own_entries", V.ref q3),("out_sums", V.ref q4),("fee_sums", V.ref q5),("pay_sums", V.ref q6),("turn_days", V.ref q7),("rate_rows", V.ref q8),("late_rows", V.ref q9),("spans", V.ref q10)]:List (Str × V))=([("own_count", V.ref c),("own_grace", V.int g),("own_entries", V.ref q3),("out_sums", V.ref q4),("fee_sums", V.ref q5),("pay_sums", V.ref q6),("turn_days", V.ref q7),("rate_rows", V.ref q8),("late_rows", V.ref q9),("spans", V.ref q10),("due_sums", V.ref q11)]:List (Str × V)) from rfl]
 have k11:Same (wo H10 a) (wo (upd G11 a (.ins (cA K "Book") dx [("own_count", V.ref c),("own_grace", V.int g),("own_entries", V.ref q3),("out_sums", V.ref q4),("fee_sums", V.ref q5),("pay_sums", V.ref q6),("turn_days", V.ref q7),("rate_rows", V.ref q8),("late_rows", V.ref q9),("spans", V.ref q10),("due_sums", V.ref q11)])) a):=zb5 t11
 have s11:Same G (upd G11 a (.ins (cA K "Book") dx [("own_count", V.ref c),("own_grace", V.int g),("own_entries", V.ref q3),("out_sums", V.ref q4),("fee_sums", V.ref q5),("pay_sums", V.ref q6),("turn_days", V.ref q7),("rate_rows", V.ref q8),("late_rows", V.ref q9),("spans", V.ref q10),("due_sums", V.ref q11)])):=zM (s10.trans t11) na
 have e11:(upd G11 a (.ins (cA K "Book") dx [("own_count", V.ref c),("own_grace", V.int g),("own_entries", V.ref q3),("out_sums", V.ref q4),("fee_sums", V.ref q5),("pay_sums", V.ref q6),("turn_days", V.ref q7),("rate_rows", V.ref q8),("late_rows", V.ref q9),("spans", V.ref q10),("due_sums", V.ref q11)])) a=some (.ins (cA K "Book") dx [("own_count", V.ref c),("own_grace", V.int g),("own_entries", V.ref q3),("out_sums", V.ref q4),("fee_sums", V.ref q5),("pay_sums", V.ref q6),("turn_days", V.ref q7),("rate_rows", V.ref q8),("late_rows", V.ref q9),("spans", V.ref q10),("due_sums", V.ref q11)]):=zf
 have L11:LP K (wo (upd G11 a (.ins (cA K "Book") dx [("own_count", V.ref c),("own_grace", V.int g),("own_entries", V.ref q3),("out_sums", V.ref q4),("fee_sums", V.ref q5),("pay_sums", V.ref q6),("turn_days", V.ref q7),("rate_rows", V.ref q8),("late_rows", V.ref q9),("spans", V.ref q10),("due_sums", V.ref q11)])) a) q11 r11:=by rw[zci];exact LP.wo ⟨w11,z11,R11,(by have:=zir T11;have:(mvp (mvd (prs "still" es)) (prs "due" es)).length=(prs "due" es).length:=yab ..;have:=pl "due";ac_rfl)⟩ c11
 generalize upd G11 a (.ins (cA K "Book") dx [("own_count", V.ref c),("own_grace", V.int g),("own_entries", V.ref q3),("out_sums", V.ref q4),("fee_sums", V.ref q5),("pay_sums", V.ref q6),("turn_days", V.ref q7),("rate_rows", V.ref q8),("late_rows", V.ref q9),("spans", V.ref q10),("due_sums", V.ref q11)])=H11 at k11 s11 e11 L11 ⊢
 nofun
 refine h ⟨dx,c,q3,q4,q5,q6,q7,q8,q9,q10,q11⟩ ⟨kd,g,es,r4,r5,r6,r7,r8,r9,r10,r11⟩ H11 s11 ⟨e11,hc.same s11,⟨xs,(k4.trans (k5.trans (k6.trans (k7.trans (k8.trans (k9.trans (k10.trans (k11.trans zbK)))))))) _ _ L3,hE.same s11⟩,L4.same (k5.trans (k6.trans (k7.trans (k8.trans (k9.trans (k10.trans (k11.trans zbK))))))),L5.same (k6.trans (k7.trans (k8.trans (k9.trans (k10.trans (k11.trans zbK)))))),L6.same (k7.trans (k8.trans (k9.trans (k10.trans (k11.trans zbK))))),(k8.trans (k9.trans (k10.trans (k11.trans zbK)))) _ _ L7,L8.same (k9.trans (k10.trans (k11.trans zbK))),L9.same (k10.trans (k11.trans zbK)),L10.same (k11.trans zbK),L11.same zbK⟩ ⟨T4,T5,T6,T7,⟨T8,T8'⟩,⟨T9,T9'⟩,⟨J10,V10⟩,T11⟩ rfl rfl rfl
def zhu (K:W.Frag):Sp:=fun vs H Q _=>L2.Ee4 fun r k d x=>L2.Aa4 (vs=[.ref r]) (H r=some (.tup (zaK k d x))) (k≠.base) (∀ a dx H',Same H H'->H a=none->ziH K H' a dx k d x->Q (.ref a) H')
theorem zcn:zk ["_law_spec_here", "_law_word", "_law_day", "_law_thing"] qbi (zi zcN):=by walk_at "sp"
theorem zlX (S:Src K mg "_law_entry" zcN qbi) (T:Txt K mg) (zgV:zG P w K mg base 2 (cA K "Out") "__init__" qad (zax K)) (zhh:zG P w K mg base 2 (cA K "Pay") "__init__" qad (zax K)) (zha:zG P w K mg base 2 (cA K "Due") "__init__" qad (zax K)) (zhe:zG P w K mg base 2 (cA K "Fee") "__init__" qad (zax K)) (zfQ:zG P w K mg base 2 (cA K "Rate") "__init__" qaj (zcf K)) (zfU:zG P w K mg base 2 (cA K "Late") "__init__" qaj (zcf K)) (zfc:zG P w K mg base 2 (cA K "Still") "__init__" qap (zht K)) (zfN:zG P w K mg base 1 (cA K "Turn") "__init__" qag (za2 K)):Def P w K mg base 4 "_law_entry" qbi (zhu K):=by
 exists S.ok,zcn,0
 all_goals obtain ⟨r,k,d,x,rfl,e,h2,h⟩:=h
 ·rfl
 refine ⟨_,(ze (zcl (pv 0) (zgs rfl (zal (zF (i:=1) zcn.nd rfl (by walk_at "lc")) (zal (zF (i:=2) zcn.nd rfl (by walk_at "lc")) (zal (zF (i:=3) zcn.nd rfl (by walk_at "lc")) zeN)))))
  (ze (zK (zr zaa (pv 1) zv (nomark _))
  (zg (zj (zby T.zm8 zgV hr T.zox (za (pv 2) (za (pv 3) zc)))))
   zA)
  (ze (zK (zr zaa (pv 1) zv (nomark _))
  (zg (zj (zby T.zm5 zhh hr T.zoR (za (pv 2) (za (pv 3) zc)))))
   zA)
  (ze (zK (zr zaa (pv 1) zv (nomark _))
  (zg (zj (zby T.znh zha hr T.zoG (za (pv 2) (za (pv 3) zc)))))
   zA)
  (ze (zK (zr zaa (pv 1) zv (nomark _))
  (zg (zj (zby T.zmD zhe hr T.zoE (za (pv 2) (za (pv 3) zc)))))
   zA)
  (ze (zK (zr zaa (pv 1) zv (nomark _))
  (zg (zj (zby T.zkn zfQ hr T.zmP (za (pv 2) (za (pv 3) zc)))))
   zA)
  (ze (zK (zr zaa (pv 1) zv (nomark _))
  (zg (zj (zby T.zkx zfU hr T.zmk (za (pv 2) (za (pv 3) zc)))))
   zA)
  (ze (zK (zr zaa (pv 1) zv (nomark _))
  (zg (zj (zby T.zjb zfc hr T.zkt (za (pv 2) (za (pv 3) zc)))))
   zA)
  (zg (zj (zby T.zjW zfN hr T.zmB (za (pv 2) zc)))))))))))),?_⟩
 cases k with
 | base=>exact absurd rfl h2
 | turn =>
  dsimp only [zaK,Ek.word] at e
  nofun
  refine ⟨r,_,rfl,SqT.of e,rfl,?_⟩
  nofun
  intro a dx na nd ne
  refine ⟨a,_,dx,[],d,rfl,zf,T.clE .turn,T.zaT .turn,by decide,rfl,?_⟩
  rw[zaA]
  exact h a dx _ ((zb nd _).trans (zb (by rw[zt ne.symm];exact na) _)) na zf
 | out =>
  dsimp only [zaK,Ek.word] at e
  nofun
  refine ⟨r,_,rfl,SqT.of e,rfl,?_⟩
  nofun
  intro a dx na nd ne
  refine ⟨a,_,dx,d,x,rfl,zf,T.clE .out,T.zaT .out,T.zc3 .out,rfl,?_⟩
  rw[zaA]
  nofun
  exact h a dx _ ((zb nd _).trans (zb (by rw[zt ne.symm];exact na) _)) na zf
 | fee =>
  dsimp only [zaK,Ek.word] at e
  nofun
  refine ⟨r,_,rfl,SqT.of e,rfl,?_⟩
  nofun
  intro a dx na nd ne
  refine ⟨a,_,dx,d,x,rfl,zf,T.clE .fee,T.zaT .fee,T.zc3 .fee,rfl,?_⟩
  rw[zaA]
  nofun
  exact h a dx _ ((zb nd _).trans (zb (by rw[zt ne.symm];exact na) _)) na zf
 | pay =>
  dsimp only [zaK,Ek.word] at e
  nofun
  refine ⟨r,_,rfl,SqT.of e,rfl,?_⟩
  nofun
  intro a dx na nd ne
  refine ⟨a,_,dx,d,x,rfl,zf,T.clE .pay,T.zaT .pay,T.zc3 .pay,rfl,?_⟩
  rw[zaA]
  nofun
  exact h a dx _ ((zb nd _).trans (zb (by rw[zt ne.symm];exact na) _)) na zf
 | due =>
  dsimp only [zaK,Ek.word] at e
  nofun
  refine ⟨r,_,rfl,SqT.of e,rfl,?_⟩
  nofun
  intro a dx na nd ne
  refine ⟨a,_,dx,d,x,rfl,zf,T.clE .due,T.zaT .due,T.zc3 .due,rfl,?_⟩
  rw[zaA]
  nofun
  exact h a dx _ ((zb nd _).trans (zb (by rw[zt ne.symm];exact na) _)) na zf
 | rate =>
  dsimp only [zaK,Ek.word] at e
  nofun
  refine ⟨r,_,rfl,SqT.of e,rfl,?_⟩
  nofun
  intro a dx na nd ne
  refine ⟨a,_,dx,d,x,rfl,zf,T.clE .rate,T.zaT .rate,T.zi9 .rate,rfl,?_⟩
  rw[zaA]
  nofun
  exact h a dx _ ((zb nd _).trans (zb (by rw[zt ne.symm];exact na) _)) na zf
 | late =>
  dsimp only [zaK,Ek.word] at e
  nofun
  refine ⟨r,_,rfl,SqT.of e,rfl,?_⟩
  nofun
  intro a dx na nd ne
  refine ⟨a,_,dx,d,x,rfl,zf,T.clE .late,T.zaT .late,T.zi9 .late,rfl,?_⟩
  rw[zaA]
  nofun
  exact h a dx _ ((zb nd _).trans (zb (by rw[zt ne.symm];exact na) _)) na zf
 | still =>
  dsimp only [zaK,Ek.word] at e
  nofun
  refine ⟨r,_,rfl,SqT.of e,rfl,?_⟩
  nofun
  intro a dx na nd ne
  refine ⟨a,_,dx,d,x,rfl,zf,T.clE .still,T.zaT .still,T.zib .still,rfl,?_⟩
  rw[zaA]
  nofun
  exact h a dx _ ((zb nd _).trans (zb (by rw[zt ne.symm];exact na) _)) na zf
def zh0 (K:W.Frag):Sp:=fun vs H Q _=>∃ a A c a' A' c' t u m b g g' es es',vs=[.ref a,.ref a',.ref t,.ref u,.int b,.int m]/\zav K H a A c/\zav K H a' A' c'/\zd2 H t b g es/\zd2 H u b g' es'/\(1<=m/\m<=130) /\
 (∀ k:Nat,k<130->zjs c c' (b+k)=rwF b g' es' 0 k-rwF b g es 0 k+rwF b g' es' 1 k-rwF b g es 1 k)/\Q (.bl true) H
theorem zfl:zk ["_law_one", "_law_other", "_law_mine", "_law_yours", "_law_base", "_law_many", "_law_k", "_law_paid"] qbj (zi zdJ):=by walk_at "sp"
theorem znS (S:Src K mg "_law_gaps" zdJ qbj) (T:Txt K mg) (zbZ:Def P w K mg base 3 "gap_at" qar (zhE K)):Def P w K mg base 4 "_law_gaps" qbj (zh0 K):=by
 exists S.okF,zfl,0
 all_goals obtain ⟨a,A,c,a',A',c',t,u,m,b,g,g',es,es',rfl,B,C,TA,UA,⟨m0,m1⟩,eq,h⟩:=h
 ·rfl
 refine ⟨_,(ze (zaE PassesOwn.never rfl (zV (zR (za zd (za (zh zad (pv 5) zd) (za (zh zad (pv 5) zd) (za (zh zaj (pv 5) zd) zc)))))) (zF (i:=6) zfl.nd rfl (by walk_at "lc"))
  (ze (zo (i:=7) zfl.nd rfl (by walk_at "lc") (zh zaj (zq zC (zq zC (zq zO (pv 3) zd (fun _ _=>rfl)) zd (fun _ _=>rfl)) (pv 6) (fun _ _=>rfl)) (zq zC (zq zC (zq zO (pv 2) zd (fun _ _=>rfl)) zd (fun _ _=>rfl)) (pv 6) (fun _ _=>rfl))))
  (zg (zK (zr zoY (zl zbZ hr (za (pv 0) (za (pv 1) (za (zh zD (pv 4) (pv 6)) zc)))) (zh zaj (zh zD (pv 7) (zq zC (zq zC (zq zO (pv 3) zd (fun _ _=>rfl)) zd (fun _ _=>rfl)) (pv 6) (fun _ _=>rfl))) (zq zC (zq zC (zq zO (pv 2) zd (fun _ _=>rfl)) zd (fun _ _=>rfl)) (pv 6) (fun _ _=>rfl))) (nomark _))
  (zg (zj zaG))
   zA))))
  (zg (zj zaG))),?_⟩
 have sz:=sizeLine_eq
 obtain ⟨o1,r1,rs1,t1,t2,t3,t4⟩:=TA.is_
 obtain ⟨o2,r2,rs2,u1,u2,u3,u4⟩:=UA.is_
 nofun
 intro q nq
 have s0:=zb nq (.lst [.int 0,.int (m / 3),.int (m / 2),.int (m-1)])
 have e0:=zp (.lst [.int 0,.int (m / 3),.int (m / 2),.int (m-1)]) nq
 generalize upd H q (.lst [.int 0,.int (m / 3),.int (m / 2),.int (m-1)])=H0 at s0 e0 ⊢
 nofun
 refine ⟨⟨_,SqL.of e0⟩,zbz (xs:=[.int 0,.int (m / 3),.int (m / 2),.int (m-1)]) (fun i σ H'=>H0=H'/\∃ y1 y2:Option V,σ=[some (.ref a),some (.ref a'),some (.ref t),some (.ref u),some (.int b),some (.int m),y1,y2]) ⟨rfl,_,_,rfl⟩ ?_ ?_ ?_⟩
 ·rintro i σ H' _ ⟨rfl,_⟩
  exact SqL.of e0
 ·rintro i x σ H' hx ⟨rfl,y1,y2,rfl⟩
  obtain ⟨k,rfl,k0⟩:=(zQ ⟨0,rfl,by ac_rfl⟩ (zQ ⟨(m / 3).toNat,by rw[show (((m / 3).toNat:Nat):Int)=m / 3 by ac_rfl],by ac_rfl⟩ (zQ ⟨(m / 2).toNat,by rw[show (((m / 2).toNat:Nat):Int)=m / 2 by ac_rfl],by ac_rfl⟩ (zQ ⟨(m-1).toNat,by rw[show (((m-1).toNat:Nat):Int)=m-1 by ac_rfl],by ac_rfl⟩ zen))):∀ v∈([.int 0,.int (m / 3),.int (m / 2),.int (m-1)]:List V),∃ k:Nat,v=.int k/\k<130) x (yah hx)
  have t1':=s0 _ _ t1
  have u1':=s0 _ _ u1
  obtain ⟨p1,p2,pe,ps,f1,f2⟩:∃ p1 p2 rest,rs1=.ref p1::.ref p2::rest/\H p1=some (.lst ((tb (rwF b g es 0)).map V.int))/\H p2=some (.lst ((tb (rwF b g es 1)).map V.int)):=by
   cases t4 with
   | cons x1 t4 =>
    cases t4 with
    | cons x2 t4 =>
     obtain ⟨p1,rfl,z1⟩:=x1
     obtain ⟨p2,rfl,z2⟩:=x2
     exact ⟨p1,p2,_,rfl,z1,z2⟩
  obtain ⟨w1,w2,we,ws,g1,g2⟩:∃ p1 p2 rest,rs2=.ref p1::.ref p2::rest/\H p1=some (.lst ((tb (rwF b g' es' 0)).map V.int))/\H p2=some (.lst ((tb (rwF b g' es' 1)).map V.int)):=by
   cases u4 with
   | cons x1 u4 =>
    cases u4 with
    | cons x2 u4 =>
     obtain ⟨p1,rfl,z1⟩:=x1
     obtain ⟨p2,rfl,z2⟩:=x2
     exact ⟨p1,p2,_,rfl,z1,z2⟩
  have i0:∀ (x y:V) (r:List V),atI (x::y::r) 0=some x:=fun x y r=>zay (j:=0) rfl
  have i1:∀ (x y:V) (r:List V),atI (x::y::r) 1=some y:=fun x y r=>zay (j:=1) rfl
  subst ps ws
  have er1:=SqL.of (K:=K) (s0 _ _ t3)
  have er2:=SqL.of (K:=K) (s0 _ _ u3)
  nofun
  refine ⟨r2,_,_,_,rfl,rfl,er2,i0 _ _ _,?_⟩
  nofun
  refine ⟨w1,_,_,_,rfl,rfl,SqL.of (s0 _ _ g1),zcm (k:=k) rfl k0,?_⟩
  nofun
  refine ⟨r1,_,_,_,rfl,rfl,er1,i0 _ _ _,?_⟩
  nofun
  refine ⟨p1,_,_,_,rfl,rfl,SqL.of (s0 _ _ f1),zcm (k:=k) rfl k0,?_⟩
  nofun
  refine ⟨a,A,c,a',A',c',b+k,rfl,B.same s0,C.same s0,?_⟩
  nofun
  refine ⟨r2,_,_,_,rfl,rfl,er2,i1 _ _ _,?_⟩
  nofun
  refine ⟨w2,_,_,_,rfl,rfl,SqL.of (s0 _ _ g2),zcm (k:=k) rfl k0,?_⟩
  nofun
  refine ⟨r1,_,_,_,rfl,rfl,er1,i1 _ _ _,?_⟩
  nofun
  refine ⟨p2,_,_,_,rfl,rfl,SqL.of (s0 _ _ f2),zcm (k:=k) rfl k0,?_⟩
  nofun
  ·rename_i z
   exact absurd (eq k k0) z
  ·exact ⟨_,_,rfl⟩
 ·rintro σ H' ⟨rfl,y1,y2,rfl⟩
  nofun
  exact h
def zcI (K:W.Frag):Sp:=fun vs H Q _=>L2.Ee6 fun a A (b:BkT) a' A' (c:BkT)=>L2.Aa4 (vs=[.ref a,.ref a']) ((zav K H a A b/\BOk b)) ((zav K H a' A' c/\BOk c)) (∀ v:Bool,(v=true↔(∀ d:Int,0<=d->d<=999999->chv b.rates b.spans d<=chv c.rates c.spans d)/\∀ d:Int,0<=d->d<=999999->chv b.lates b.spans d<=chv c.lates c.spans d)->Q (.bl v) H)
theorem zbo:zk ["one", "other", "rates", "lates"] qab (zi zaO):=by walk_at "sp"
theorem zhf (S:Src K mg "is_charged_no_more" zaO qab) (T:Txt K mg) (zae:Def P w K mg base 3 "is_never_above" qab (zcc K)) (zb0:Def P w K mg base 4 "charging" qbh (zi0 K)) (za5:zG P w K mg base 1 (cA K "Book") "stills" qaa (zgH K)) (zcY:zG P w K mg base 1 (cA K "Book") "rates" qaa (zhn K)) (zcW:zG P w K mg base 1 (cA K "Book") "lates" qaa (zhr K)):Def P w K mg base 5 "is_charged_no_more" qab (zcI K):=by
 exists S.okF,zbo,0
 all_goals obtain ⟨a,A,b,a',A',c,rfl,⟨B,O⟩,⟨C,O'⟩,h⟩:=h
 ·rfl
 refine ⟨_,(ze (zo (i:=2) zbo.nd rfl (by walk_at "lc") (zl zae hr (za (zl zb0 hr (za (zP zcY T.zx hr (pv 0)) (za (zP za5 T.zx hr (pv 0)) zc))) (za (zl zb0 hr (za (zP zcY T.zx hr (pv 1)) (za (zP za5 T.zx hr (pv 1)) zc))) zc))))
  (ze (zo (i:=3) zbo.nd rfl (by walk_at "lc") (zl zae hr (za (zl zb0 hr (za (zP zcW T.zx hr (pv 0)) (za (zP za5 T.zx hr (pv 0)) zc))) (za (zl zb0 hr (za (zP zcW T.zx hr (pv 1)) (za (zP za5 T.zx hr (pv 1)) zc))) zc))))
  (zg (zj (zbR (pv 2) (zdl (pv 3))))))),?_⟩
 have sz:=sizeLine_eq
 nofun
 have B1:=B.same (Same.refl _)
 refine ⟨a,A.dx,_,rfl,B1.ins,rfl,a,A,b,rfl,B1,fun q1 x1 nq1 r1 l1=>?_⟩
 have t1:=zb nq1 (.lst x1)
 have e1:=zp (.lst x1) nq1
 have R1:=r1.same t1
 generalize upd H q1 (.lst x1)=H1 at t1 e1 R1 ⊢
 nofun
 have B2:=B.same (t1)
 refine ⟨a,A.dx,_,rfl,B2.ins,rfl,a,A,b,rfl,B2,fun q2 x2 nq2 r2 l2=>?_⟩
 have t2:=zb nq2 (.lst x2)
 have e2:=zp (.lst x2) nq2
 have R2:=r2.same t2
 generalize upd H1 q2 (.lst x2)=H2 at t2 e2 R2 ⊢
 nofun
 refine ⟨q1,q2,x1,x2,b.rates,b.spans,rfl,⟨t2 _ _ e1,R1.same t2,O.ru,fun s hs=>(O.rn s hs).1⟩,⟨e2,R2,O.jn⟩,by have:=O.sz;ac_rfl,fun p3 w3 v3 H3 np3 t3 e3 R3 l3 up3 nn3 vv3=>?_⟩
 nofun
 have C4:=C.same (t1.trans (t2.trans (t3)))
 refine ⟨a',A'.dx,_,rfl,C4.ins,rfl,a',A',c,rfl,C4,fun q4 x4 nq4 r4 l4=>?_⟩
 have t4:=zb nq4 (.lst x4)
 have e4:=zp (.lst x4) nq4
 have R4:=r4.same t4
 generalize upd H3 q4 (.lst x4)=H4 at t4 e4 R4 ⊢
 nofun
 have C5:=C.same (t1.trans (t2.trans (t3.trans (t4))))
 refine ⟨a',A'.dx,_,rfl,C5.ins,rfl,a',A',c,rfl,C5,fun q5 x5 nq5 r5 l5=>?_⟩
 have t5:=zb nq5 (.lst x5)
 have e5:=zp (.lst x5) nq5
 have R5:=r5.same t5
 generalize upd H4 q5 (.lst x5)=H5 at t5 e5 R5 ⊢
 nofun
 refine ⟨q4,q5,x4,x5,c.rates,c.spans,rfl,⟨t5 _ _ e4,R4.same t5,O'.ru,fun s hs=>(O'.rn s hs).1⟩,⟨e5,R5,O'.jn⟩,by have:=O'.sz;ac_rfl,fun p6 w6 v6 H6 np6 t6 e6 R6 l6 up6 nn6 vv6=>?_⟩
 nofun
 refine ⟨p3,p6,w3,w6,v3,v6,rfl,⟨(t4.trans (t5.trans t6)) _ _ e3,R3.same (t4.trans (t5.trans t6)),l3,up3,nn3⟩,⟨e6,R6,l6,up6,nn6⟩,fun b1 hb1=>?_⟩
 have k1:b1=true↔∀ d:Int,0<=d->d<=999999->chv b.rates b.spans d<=chv c.rates c.spans d:=hb1.trans ⟨fun z d d0 d1=>by rw[<-vv3 d d0 d1,<-vv6 d d0 d1];exact z d d0 d1,fun z d d0 d1=>by rw[vv3 d d0 d1,vv6 d d0 d1];exact z d d0 d1⟩
 nofun
 have B7:=B.same (t1.trans (t2.trans (t3.trans (t4.trans (t5.trans (t6))))))
 refine ⟨a,A.dx,_,rfl,B7.ins,rfl,a,A,b,rfl,B7,fun q7 x7 nq7 r7 l7=>?_⟩
 have t7:=zb nq7 (.lst x7)
 have e7:=zp (.lst x7) nq7
 have R7:=r7.same t7
 generalize upd H6 q7 (.lst x7)=H7 at t7 e7 R7 ⊢
 nofun
 have B8:=B.same (t1.trans (t2.trans (t3.trans (t4.trans (t5.trans (t6.trans (t7)))))))
 refine ⟨a,A.dx,_,rfl,B8.ins,rfl,a,A,b,rfl,B8,fun q8 x8 nq8 r8 l8=>?_⟩
 have t8:=zb nq8 (.lst x8)
 have e8:=zp (.lst x8) nq8
 have R8:=r8.same t8
 generalize upd H7 q8 (.lst x8)=H8 at t8 e8 R8 ⊢
 nofun
 refine ⟨q7,q8,x7,x8,b.lates,b.spans,rfl,⟨t8 _ _ e7,R7.same t8,O.lu,fun s hs=>(O.ln s hs).1⟩,⟨e8,R8,O.jn⟩,by have:=O.sz;ac_rfl,fun p9 w9 v9 H9 np9 t9 e9 R9 l9 up9 nn9 vv9=>?_⟩
 nofun
 have C10:=C.same (t1.trans (t2.trans (t3.trans (t4.trans (t5.trans (t6.trans (t7.trans (t8.trans (t9)))))))))
 refine ⟨a',A'.dx,_,rfl,C10.ins,rfl,a',A',c,rfl,C10,fun q10 x10 nq10 r10 l10=>?_⟩
 have t10:=zb nq10 (.lst x10)
 have e10:=zp (.lst x10) nq10
 have R10:=r10.same t10
 generalize upd H9 q10 (.lst x10)=H10 at t10 e10 R10 ⊢
 nofun
 have C11:=C.same (t1.trans (t2.trans (t3.trans (t4.trans (t5.trans (t6.trans (t7.trans (t8.trans (t9.trans (t10))))))))))
 refine ⟨a',A'.dx,_,rfl,C11.ins,rfl,a',A',c,rfl,C11,fun q11 x11 nq11 r11 l11=>?_⟩
 have t11:=zb nq11 (.lst x11)
 have e11:=zp (.lst x11) nq11
 have R11:=r11.same t11
 generalize upd H10 q11 (.lst x11)=H11 at t11 e11 R11 ⊢
 nofun
 refine ⟨q10,q11,x10,x11,c.lates,c.spans,rfl,⟨t11 _ _ e10,R10.same t11,O'.lu,fun s hs=>(O'.ln s hs).1⟩,⟨e11,R11,O'.jn⟩,by have:=O'.sz;ac_rfl,fun p12 w12 v12 H12 np12 t12 e12 R12 l12 up12 nn12 vv12=>?_⟩
 nofun
 refine ⟨p9,p12,w9,w12,v9,v12,rfl,⟨(t10.trans (t11.trans t12)) _ _ e9,R9.same (t10.trans (t11.trans t12)),l9,up9,nn9⟩,⟨e12,R12,l12,up12,nn12⟩,fun b2 hb2=>?_⟩
 have k2:b2=true↔∀ d:Int,0<=d->d<=999999->chv b.lates b.spans d<=chv c.lates c.spans d:=hb2.trans ⟨fun z d d0 d1=>by rw[<-vv9 d d0 d1,<-vv12 d d0 d1];exact z d d0 d1,fun z d d0 d1=>by rw[vv9 d d0 d1,vv12 d d0 d1];exact z d d0 d1⟩
 have sH:=t1.trans (t2.trans (t3.trans (t4.trans (t5.trans (t6.trans (t7.trans (t8.trans (t9.trans (t10.trans (t11.trans (t12)))))))))))
 nofun
 cases b1 with
 | false=>exact ⟨sH,h false ⟨(fun z=>by cases z),fun z=>absurd (k1.mpr z.1) (by decide)⟩⟩
 | true =>
  nofun
  exact h b2 ⟨fun z=>⟨k1.mp rfl,k2.mp z⟩,fun z=>k2.mpr z.2⟩
theorem zsi:∀ k c:Kd,V.str (nm k)=V.str (nm c)->k=c:=by
 intro k c
 cases k <;> cases c <;> first | exact fun _=>rfl | (intro h;injection h with h;exact absurd h (by decide +kernel))
def zhR (K:W.Frag):Sp:=fun vs H Q _=>L2.Ee6 fun a A (b:BkT) a' A' (c:BkT)=>L2.Aa4 (vs=[.ref a,.ref a']) ((zav K H a A b/\BOk b/\FOk b/\b.turns.length<32)) ((zav K H a' A' c/\BOk c/\FOk c/\c.turns.length<32)) (∀ v:Bool,(v=true↔Kinder b c)->Q (.bl v) H)
theorem zlQ:zk qab qab (zi zdU):=by walk_at "sp"
theorem znB (S:Src K mg "is_kinder" zdU qab) (T:Txt K mg) (zdF:zG P w K mg base 1 (cA K "Book") "outs" qaa (zhL K)) (zgW:∀ kd:Kd,zG P w K mg base 1 (cA K kd.cls) "name" qaa (zcL kd K)) (zcU:zG P w K mg base 1 (cA K "Book") "count" qaa (zhv K)) (zc6:zG P w K mg base 1 (cA K "Book") "turns" qaa (zhA K)) (zbu:Def P w K mg base 5 "is_charged_no_more" qab (zcI K)) (zbX:Def P w K mg base 4 "is_asked_no_more" qab (zdo K)):Def P w K mg base 6 "is_kinder" qab (zhR K):=by
 exists S.okF,zlQ,0
 all_goals obtain ⟨a,A,b,a',A',c,rfl,⟨B,O,F,tb⟩,⟨C,O',F',tc⟩,h⟩:=h
 ·rfl
 refine ⟨_,(ze (zK (PW.pt (zlG (zr zoY (zkW zgW T.cls hr (zP zcU T.zx hr (pv 0))) (zkW zgW T.cls hr (zP zcU T.zx hr (pv 1))) (nomark _)) (zmF (zr (zmK hr.units) (zP zdF T.zx hr (pv 0)) (zP zdF T.zx hr (pv 1)) (nomark _)))))
  (zg (zj zaG))
   zA)
  (ze (zK (zr zdK (zw znu rfl T.zbx PySem.boot_len (za (zh zpB (zW (zfz rfl) rfl T.zij PyProof.Rows.boot_set (za (zP zc6 T.zx hr (pv 0)) zc)) (zW (zfz rfl) rfl T.zij PyProof.Rows.boot_set (za (zP zc6 T.zx hr (pv 1)) zc))) zc)) zd (nomark _))
  (zg (zj zaG))
   zA)
  (zg (zj (zbR (zl zbX hr (za (pv 0) (za (pv 1) zc))) (zdl (zl zbu hr (za (pv 0) (za (pv 1) zc))))))))),?_⟩
 have sz:=sizeLine_eq
 nofun
 refine ⟨a,A.dx,_,rfl,B.ins,rfl,a,A,b,rfl,B,?_⟩
 nofun
 refine ⟨b.kd,A.c,rfl,B.cnt,?_⟩
 nofun
 refine ⟨a',A'.dx,_,rfl,C.ins,rfl,a',A',c,rfl,C,?_⟩
 nofun
 refine ⟨c.kd,A'.c,rfl,C.cnt,?_⟩
 nofun
 ·rename_i n
  exact ⟨Same.refl _,h false ⟨(fun z=>by cases z),fun z=>absurd (by rw[z.kd]) n⟩⟩
 rename_i n
 have ek:=zsi _ _ n
 clear n
 nofun
 refine ⟨a,A.dx,_,rfl,B.ins,rfl,a,A,b,rfl,B,fun q1 x1 nq1 r1 l1=>?_⟩
 have t1:=zb nq1 (.lst x1)
 have e1:=zp (.lst x1) nq1
 have R1:=r1.same t1
 generalize upd H q1 (.lst x1)=H1 at t1 e1 R1 ⊢
 have C1:=C.same t1
 nofun
 refine ⟨a',A'.dx,_,rfl,C1.ins,rfl,a',A',c,rfl,C1,fun q2 x2 nq2 r2 l2=>?_⟩
 have t2:=zb nq2 (.lst x2)
 have e2:=zp (.lst x2) nq2
 have R2:=r2.same t2
 generalize upd H1 q2 (.lst x2)=H2 at t2 e2 R2 ⊢
 refine ⟨_,_,.lst (SqL.of (t2 _ _ e1)) (R1.same t2).rd,.lst (SqL.of e2) R2.rd,ziT _,ziT _,?_⟩
 rw[zpf]
 have sA:=t1.trans t2
 by_cases eo:b.outs=c.outs
 rotate_left
 ·rw[decide_eq_false eo]
  nofun
  exact h false ⟨(fun z=>by cases z),fun z=>absurd z.outs eo⟩
 rw[decide_eq_true eo]
 have B2:=B.same sA
 have C2:=C.same sA
 clear t1 t2 e1 e2 R1 R2 r1 r2
 nofun
 refine ⟨a,A.dx,_,rfl,B2.ins,rfl,a,A,b,rfl,B2,fun q3 nq3=>?_⟩
 have t3:=zb nq3 (.lst (b.turns.map V.int))
 have e3:=zp (.lst (b.turns.map V.int)) nq3
 generalize upd H2 q3 (.lst (b.turns.map V.int))=H3 at t3 e3 ⊢
 nofun
 refine ⟨q3,b.turns,rfl,SqL.of e3,by ac_rfl,fun p3 H4 m3 np3 t4 e4 nd3 mm3 ml3=>?_⟩
 have C4:=C2.same (t3.trans t4)
 nofun
 refine ⟨a',A'.dx,_,rfl,C4.ins,rfl,a',A',c,rfl,C4,fun q5 nq5=>?_⟩
 have t5:=zb nq5 (.lst (c.turns.map V.int))
 have e5:=zp (.lst (c.turns.map V.int)) nq5
 generalize upd H4 q5 (.lst (c.turns.map V.int))=H5 at t5 e5 ⊢
 nofun
 refine ⟨q5,c.turns,rfl,SqL.of e5,by ac_rfl,fun p6 H6 m6 np6 t6 e6 nd6 mm6 ml6=>?_⟩
 nofun
 refine ⟨p3,p6,m3,m6,rfl,rfl,t6 _ _ (t5 _ _ e4),e6,by ac_rfl,by ac_rfl,fun p7 H7 ls np7 t7 e7 mm7=>?_⟩
 have sB:=t3.trans (t4.trans (t5.trans (t6.trans t7)))
 have s7:=sA.trans sB
 have B7:=B2.same sB
 have C7:=C2.same sB
 have sub:ls=[]↔∀ d∈b.turns,d∈c.turns:=by
  constructor
  ·intro z d hd
   apply Classical.byContradiction
   intro q
   have:d∈ls:=(mm7 d).mpr ⟨(mm3 d).mpr hd,fun y=>q ((mm6 d).mp y)⟩
   rw[z] at this
   cases this
  ·intro z
   cases e:ls with
   | nil=>rfl
   | cons d l =>
    have:=(mm7 d).mp (by rw[e];exact yal)
    exact absurd ((mm6 d).mpr (z d ((mm3 d).mp this.1))) this.2
 clear t3 t4 t5 t6 t7 mm7 mm3 mm6
 nofun
 refine ⟨p7,ls,rfl,e7,?_⟩
 nofun
 ·rename_i n
  exact h false ⟨(fun z=>by cases z),fun z=>absurd (sub.mpr z.turns) (fun q=>by rw[q] at n;exact absurd n (by decide))⟩
 rename_i n
 have es:ls=[]:=by
  cases ls with
  | nil=>rfl
  | cons d l=>exact absurd (show (0:Int)<((l.length+1:Nat):Int) by ac_rfl) n
 nofun
 refine ⟨a,A,b,a',A',c,rfl,⟨B7,O,F⟩,⟨C7,O',F'⟩,fun v1 h1=>?_⟩
 cases v1 with
 | false =>
  nofun
  exact h false ⟨(fun z=>by cases z),fun z=>absurd (h1.mpr ⟨z.pays,z.fees,z.dues⟩) (by decide)⟩
 | true =>
  obtain ⟨k1,k2,k3⟩:=h1.mp rfl
  nofun
  refine ⟨a,A,b,a',A',c,rfl,⟨B7,O⟩,⟨C7,O'⟩,fun v2 h2=>?_⟩
  exact ⟨s7,h v2 ⟨fun z=>⟨ek,eo,sub.mp es,k1,k2,k3,(h2.mp z).1,(h2.mp z).2⟩,fun z=>h2.mpr ⟨z.rates,z.lates⟩⟩⟩
def zh5 (K:W.Frag):Sp:=fun vs H Q _=>L2.Ee5 fun q n g rs (es:List Er)=>L2.Aa7 (vs=[.ref q,.int n,.int g]) ((0<=g/\g<=366)) (SqL K H q rs) (LL (fun v e=>∃ t,v=.ref t/\H t=some (.tup (zaK e.1 e.2.1 e.2.2))) rs es) (es.length<=61) ((∀ e∈es,e.1≠.base/\0<=e.2.1)) (∀ a A (b:BkT) H',H a=none->Same H H'->zav K H' a A b->zbp b->b.kd=kdN n->b.g=g->b.es=es->Q (.ref a) H')
theorem zml:zk qav qav (zi zdD):=by walk_at "sp"
theorem znv (S:Src K mg "_law_book" zdD qav) (T:Txt K mg) (zgg:zG P w K mg base 4 (cA K "Book") "__init__" qau (zh1 K)) (zeV:Def P w K mg base 4 "_law_entry" qbi (zhu K)) (ze5:Def P w K mg base 1 "_law_count" qam (zhs K)):Def P w K mg base 6 "_law_book" qav (zh5 K):=by
 exists S.ok,zml,0
 all_goals obtain ⟨q,n,g,rs,es,rfl,hg,hq,hL,hl,ok,h⟩:=h
 ·rfl
 refine ⟨_,(zg (zj (zby T.zj9 zgg hr T.znf (za (zl ze5 hr (za (pv 1) zc)) (za (pv 2) (za (zcG (ix:=[]) ⟨rfl,by decide +kernel,rfl,by decide +kernel,rfl,(show (["_law_spec_here"]:List Str).Nodup by decide +kernel),by walk_at "cap", by walk_at "sub", by walk_at "has"⟩ (zV (pv 0)) (fun b=>(zl zeV hr (za (pv 0) zc)))) zc)))))),?_⟩
 have sz:=sizeLine_eq
 have xl:=hL.length
 nofun
 intro c H1 nc s1 hc
 nofun
 refine ⟨⟨_,s1.seq hq⟩,fun l nl=>?_⟩
 refine comp_map (zap (s1.seq hq)) nl (by ac_rfl) es xl.symm (fun H' v e=>∃ a dx,v=.ref a/\ziH K H' a dx e.1 e.2.1 e.2.2) (fun v e H1 H2 s ⟨t,dx,e1,e2⟩=>⟨t,dx,e1,s _ _ e2⟩) (fun v e H1 ys zs hL ⟨t,dx,e1,e2⟩=>⟨t,dx,e1,by rw[ziH,zt (za6 e2 hL (by intro z;cases z))];exact e2⟩) ?_ ?_
 ·rintro i x e H' Q' hx he sH hq'
  obtain ⟨e',he',t,rfl,ht⟩:=hL.get hx
  obtain rfl:e'=e:=Option.some.inj (he'.symm.trans he)
  nofun
  refine ⟨t,e'.1,e'.2.1,e'.2.2,rfl,sH _ _ (s1 _ _ ht),(ok e' (yah he)).1,fun a dx H2 s2 na ha=>?_⟩
  exact hq' _ _ s2 ⟨a,dx,rfl,ha⟩
 ·rintro ys H2 s2 eL hE
  nofun
  intro a dx na nd ne
  have s3:Same H2 (upd (upd H2 dx (.own a)) a (.ins (cA K "Book") dx [])):=(zb nd _).trans (zb (by rw[zt ne.symm];exact na) _)
  refine ⟨a,dx,c,l,kdN n,g,ys,es,H2,rfl,zf,⟨na,s3⟩,hc.same s2,hg,SqL.of eL,hE,hl,fun e he=>(ok e he).2,fun A b H3 sH3 B I e1 e2 e3=>⟨rfl,?_⟩⟩
  exact h a A b H3 (zy (s1.trans s2) na) (s1.trans (s2.trans sH3)) B I e1 e2 e3
def zhF (K:W.Frag):Sp:=fun vs H Q _=>L2.Ee7 fun a A (b:BkT) a' A' (c:BkT) (v:Bool)=>L2.Aa5 (vs=[.ref a,.ref a',.bl v]) ((zav K H a A b/\BOk b/\FOk b/\b.turns.length<32)) ((zav K H a' A' c/\BOk c/\FOk c/\c.turns.length<32)) ((v=true↔Kinder b c)) (Q (.bl true) H)
theorem zig:zk ["_law_one", "_law_other", "_law_due", "_law_found"] qbk (zi zdV):=by walk_at "sp"
theorem znx (S:Src K mg "_law_says" zdV qbk) (T:Txt K mg) (zf6:Def P w K mg base 6 "is_kinder" qab (zhR K)):Def P w K mg base 7 "_law_says" qbk (zhF K):=by
 exists S.ok,zig,0
 all_goals obtain ⟨a,A,b,a',A',c,v,rfl,hb,hc,hv,h⟩:=h
 ·rfl
 refine ⟨_,(ze (zo (i:=3) zig.nd rfl (by walk_at "lc") (zl zf6 hr (za (pv 0) (za (pv 1) zc))))
  (zg (zj (zbR (zw zfR rfl T.zbk PyProof.Rows.boot_isinstance (za (pv 3) (za (zj1 (v:=.ty "bool") rfl T.zjz PyProof.Rows.boot_bool rfl) zc))) (zdl (zeK zaa (pv 3) (pv 2) (nomark _))))))),?_⟩
 nofun
 refine ⟨a,A,b,a',A',c,rfl,hb,hc,fun u hu=>?_⟩
 have e:u=v:=by rw[Bool.eq_iff_iff,hu,hv]
 subst e
 nofun
 refine ⟨_,_,_,true,rfl,.bl u,(by rfl),?_⟩
 nofun
 refine qb h ?_
 simp
theorem okB {c:BkT} (I:zbp c) {b:Int} (ok:Sps 3 b c.es) (b0:0<=b) (g0:0<=c.g) (hl:c.es.length<=31):BOk c/\FOk c/\c.turns.length<32:=by
 refine ⟨zsc I b0 g0 (fun e he=>(ok e he).lo) (fun w hw s hs=>?_) hl,⟨I.fees.up,fun s hs=>?_,?_⟩,?_⟩
 ·obtain ⟨e,he,rfl⟩:=yae.mp hs
  obtain ⟨x1,x2⟩:=yaq.mp he
  exact (ok e x1).rate hw x2
 ·obtain ⟨u,hu,e⟩:=yae.mp ((I.fees.mem s.1).mp (yaz hs))
  have:=(zgp ok _ u hu).1
  omega
 ·have:=zhK (Sby.zgR I.fees.up) fun k hk=>(I.fees.mem k).mp hk
  have pl:=zeO (w:="fee") (es:=c.es)
  rw[yab,yab] at this
  omega
 ·have:=zhK (Sby.zgR I.turns.up) fun k hk=>(I.turns.mem k).mp hk
  have pl:(dys "turn" c.es).length<=c.es.length:=by unfold dys;rw[yab];exact ybb _ _
  omega
theorem zjO {c c':BkT} (I:zbp c) (I':zbp c') (d:Int):zjs c c' d=upto (prs "pay" c.es) d-upto (prs "pay" c'.es) d+upto (prs "fee" c'.es) d-upto (prs "fee" c.es) d:=by
 unfold zjs
 rw[zah I.pays,zah I'.pays,zah I.fees,zah I'.fees]
def zlK (K:W.Frag):Sp:=fun vs H Q _=>∃ (a:Addr) (ns:List Int),vs=[.ref a]/\SqL K H a (ns.map V.int)/\ns.length<=63/\∀ H',Q (.bl true) H'
theorem zar:zk ["_law_script", "_law_base", "_law_many", "_law_specs_here", "_law_others", "_law_k", "_law_grace", "_law_late", "_law_way", "_law_alike", "_law_one", "_law_other", "_law_mine", "_law_yours", "_law_bare", "_law_paid", "_law_gaps_here", "_law_again"] qbl (zi zjI):=by walk_at "sp"
theorem ztk (S:Src K mg "law" zjI qbl) (T:Txt K mg) (zX:Def P w K mg base 2 "_law_cell" qak (zeW K)) (zfm:Def P w K mg base 3 "_law_specs" qbg (zhm K)) (zdA:Def P w K mg base 2 "_law_changed" qbe (zfF K)) (zeo:Def P w K mg base 1 "_law_turned" qai (zgr K)) (zd5:Def P w K mg base 1 "_law_parted" qai (zgv K)) (zbd:Def P w K mg base 6 "_law_book" qav (zh5 K)) (zde:Def P w K mg base 2 "_law_tells" qbf (zhx K)) (zas:Def P w K mg base 7 "_law_says" qbk (zhF K)) (zcy:Def P w K mg base 1 "_law_kinder" qbc (zgJ K)) (zfO:Def P w K mg base 4 "_law_gaps" qbj (zh0 K)) (zbZ:Def P w K mg base 3 "gap_at" qar (zhE K)):Def P w K mg base 8 "law" qbl (zlK K):=by
 exists S.ok,zar,0
 all_goals obtain ⟨a,ns,rfl,hS,hl,h⟩:=h
 ·rfl
 refine ⟨_,(ze (zo (i:=1) zar.nd rfl (by walk_at "lc") (zh zH (zl zX hr (za (pv 0) (za zd zc))) zd))
  (ze (zcZ (zK (zr zaa (zh zH (zl zX hr (za (pv 0) (za zd zc))) zd) zd (nomark _))
  (zg (zo (i:=1) zar.nd rfl (by walk_at "lc") (zh zaj zd (zh zH (zl zX hr (za (pv 0) (za zd zc))) zd))))
   zA))
  (ze (zo (i:=2) zar.nd rfl (by walk_at "lc") (zw (zbq rfl) rfl T.zc5 PyProof.Rows.boot_min (za zd (za (zh zaj zd (pv 1)) zc))))
  (ze (zo (i:=3) zar.nd rfl (by walk_at "lc") (zl zfm hr (za (pv 0) (za zd (za zd (za (pv 1) zc))))))
  (ze (zo (i:=4) zar.nd rfl (by walk_at "lc") (zW zaq rfl T.zbJ PyProof.Rows.boot_list (za (pv 3) zc)))
  (ze (zaE PassesOwn.never rfl (zfE rfl T.zbN (za (zh zH (zl zX hr (za (pv 0) (za zd zc))) zd) zc)) (zF (i:=5) zar.nd rfl (by walk_at "lc"))
  (zg (zo (i:=4) zar.nd rfl (by walk_at "lc") (zl zdA hr (za (pv 4) (za (zl zX hr (za (pv 0) (za (zh zD zd (pv 5)) zc))) (za (pv 1) zc)))))))
  (ze (zo (i:=4) zar.nd rfl (by walk_at "lc") (zl zeo hr (za (zl zd5 hr (za (pv 4) (za (zl zX hr (za (pv 0) (za zd zc))) zc))) (za (zl zX hr (za (pv 0) (za zd zc))) zc))))
  (ze (zo (i:=6) zar.nd rfl (by walk_at "lc") (zh zH (zl zX hr (za (pv 0) (za zd zc))) zd))
  (ze (zo (i:=7) zar.nd rfl (by walk_at "lc") (zw (zaP rfl) rfl T.zcr PyProof.Rows.boot_max (za zd (za (zw (zbq rfl) rfl T.zc5 PyProof.Rows.boot_min (za zd (za (zh zD (pv 6) (zq zC (zR (za zd (za zd (za zd (za (ziA zgh zd) zc))))) (zh zH (zh zad (zl zX hr (za (pv 0) (za zd zc))) zd) zd) (fun _ _=>rfl))) zc))) zc))))
  (ze (zo (i:=8) zar.nd rfl (by walk_at "lc") (zl zX hr (za (pv 0) (za zd zc))))
  (ze (zo (i:=9) zar.nd rfl (by walk_at "lc") (zeK zoY (zh zH (zh zad (pv 8) zd) zd) zd (nomark _)))
  (ze (zo (i:=10) zar.nd rfl (by walk_at "lc") (zl zbd hr (za (pv 3) (za (pv 8) (za (pv 6) zc)))))
  (ze (zo (i:=11) zar.nd rfl (by walk_at "lc") (zl zbd hr (za (pv 4) (za (zh zD (pv 8) (zW zfA rfl T.zfD PyProof.Rows.boot_int (za (zmm (pv 9)) zc))) (za (pv 7) zc)))))
  (ze (zo (i:=12) zar.nd rfl (by walk_at "lc") (zl zde hr (za (pv 3) (za (pv 6) (za (pv 1) zc)))))
  (ze (zo (i:=13) zar.nd rfl (by walk_at "lc") (zl zde hr (za (pv 4) (za (pv 7) (za (pv 1) zc)))))
  (ze (zK (zd4 (zch (zl zas hr (za (pv 10) (za (pv 11) (za (zbR (pv 9) (zdl (zl zcy hr (za (pv 12) (za (pv 13) (za (pv 2) zc)))))) zc))))))
  (zg (zj zaG))
   zA)
  (ze (zK (zd4 (zch (zl zas hr (za (pv 11) (za (pv 10) (za (zbR (pv 9) (zdl (zl zcy hr (za (pv 13) (za (pv 12) (za (pv 2) zc)))))) zc))))))
  (zg (zj zaG))
   zA)
  (ze (zK (zd4 (zch (zl zfO hr (za (pv 10) (za (pv 11) (za (pv 12) (za (pv 13) (za (pv 1) (za (pv 2) zc)))))))))
  (zg (zj zaG))
   zA)
  (ze (zo (i:=14) zar.nd rfl (by walk_at "lc") (zl zbd hr (za (zR zc) (za (pv 8) (za (pv 6) zc)))))
  (ze (zo (i:=15) zar.nd rfl (by walk_at "lc") (zl zbd hr (za (zR (za (zab (za zv (za (pv 1) (za zd zc)))) zc)) (za (pv 8) (za (pv 6) zc)))))
  (ze (zK (PW.pt (zlG (zd4 (zch (zl zas hr (za (pv 14) (za (pv 14) (za zaG zc)))))) (zlG (zd4 (zch (zl zas hr (za (pv 15) (za (pv 14) (za zaG zc)))))) (zmF (zd4 (zch (zl zas hr (za (pv 14) (za (pv 15) (za zaG zc))))))))))
  (zg (zj zaG))
   zA)
  (ze (zo (i:=16) zar.nd rfl (by walk_at "lc") (zR (za (zl zbZ hr (za (pv 15) (za (pv 14) (za (pv 1) zc)))) (za (zl zbZ hr (za (pv 14) (za (pv 15) (za (pv 1) zc)))) (za (zl zbZ hr (za (pv 15) (za (pv 14) (za (zw (zaP rfl) rfl T.zcr PyProof.Rows.boot_max (za zd (za (zh zaj (pv 1) zd) zc))) zc)))) zc)))))
  (ze (zK (zr (zmK hr.units) (pv 16) (zR (za zd (za (zh zaj zd zd) (za (zW zkP rfl T.zfD PyProof.Rows.boot_int (za (zeK zaa (pv 1) zd (nomark _)) zc)) zc)))) (nomark _))
  (zg (zj zaG))
   zA)
  (ze (zo (i:=17) zar.nd rfl (by walk_at "lc") (zl zbd hr (za (pv 4) (za (zh zD (pv 8) (zW zfA rfl T.zfD PyProof.Rows.boot_int (za (zmm (pv 9)) zc))) (za (pv 7) zc)))))
  (zg (zj (zbR (zl zas hr (za (pv 10) (za (pv 10) (za zaG zc)))) (zbR (zl zas hr (za (pv 11) (za (pv 17) (za zaG zc)))) (zdl (zl zas hr (za (pv 17) (za (pv 11) (za zaG zc))))))))))))))))))))))))))))))))),?_⟩
 have sz:=sizeLine_eq
 nofun
 refine ⟨fun σ' H'=>H=H'/\∃ b:Int,(0<=b/\b<=999999)/\σ'=[some (.ref a),some (.int b),none,none,none,none,none,none,none,none,none,none,none,none,none,none,none,none],?_,?_⟩
 ·nofun
  ·exact ⟨_,⟨by ac_rfl,by ac_rfl⟩,rfl⟩
  ·exact ⟨_,⟨by ac_rfl,by ac_rfl⟩,rfl⟩
 rintro σ' H' ⟨rfl,b,⟨b0,b1⟩,rfl⟩
 obtain ⟨m,hm⟩:∃ m:Int,m=if 1000000-b<130 then 1000000-b else 130:=⟨_,rfl⟩
 have m0:1<=m/\m<=130:=by rw[hm];split <;> ac_rfl
 nofun
 rw[<-hm]
 refine ⟨a,ns,b,rfl,hS,⟨b0,b1⟩,fun q1 rs1 es1 H1 nq1 s1 e1 R1 ok1 ⟨l1,l1'⟩=>?_⟩
 nofun
 refine ⟨q1,rs1,rfl,.inl (SqL.of e1),fun q2 nq2=>?_⟩
 have s2:=s1.trans (zb nq2 (.lst rs1))
 have e2:=zp (.lst rs1) nq2
 have e12:=zb nq2 (.lst rs1) _ _ e1
 have R2:=R1.same (zb nq2 (.lst rs1))
 generalize upd H1 q2 (.lst rs1)=H2 at s2 e2 e12 R2 ⊢
 have hS2:=s2.seq hS
 nofun
 rename_i r r0 r1
 refine zbW (fun j σ H'=>L2.Ee4 fun (q:Addr) (rs:List V) (es:List Er) (z:Option V)=>L2.Aa3 ((Same H2 H'/\H' q=some (.lst rs)/\RL3 H' rs es)) ((Sps (j:Nat) b es/\es1.length<=es.length+j/\es.length<=es1.length+j)) (σ=[some (.ref a),some (.int b),some (.int m),some (.ref q1),some (.ref q),z,none,none,none,none,none,none,none,none,none,none,none,none]))
  ⟨q2,rs1,es1,none,⟨Same.refl _,e2,R2⟩,⟨ok1,by ac_rfl,by ac_rfl⟩,rfl⟩ ?_ ?_
 ·rintro j σ H' hj ⟨q,rs,es,z,⟨sH,eq,hR⟩,⟨ok,la,lb⟩,rfl⟩
  have hSH:=(s2.trans sH).seq hS
  nofun
  rename_i y y0 y1
  refine ⟨q,rs,es,y,b,j,rfl,SqL.of eq,hR,⟨by ac_rfl,ok⟩,⟨by ac_rfl,by ac_rfl⟩,y0,⟨b0,b1⟩,fun q' rs' es' H3 nq' s3 eq' R' ok' ⟨lc,ld⟩=>?_⟩
  refine ⟨q',rs',es',_,⟨sH.trans s3,eq',R'⟩,⟨?_,by ac_rfl,by ac_rfl⟩,rfl⟩
  rw[show ((j+1:Nat):Int)=(j:Int)+1 by ac_rfl]
  exact ok'
 rintro σ H3 ⟨q3,rs3,es3,z,⟨s3,e3,R3⟩,⟨ok3,la3,lb3⟩,rfl⟩
 have ok3:=ok3.more (m:=3) (by ac_rfl)
 have hS3:=(s2.trans s3).seq hS
 have l3:2<=es3.length/\es3.length<=19:=by ac_rfl
 clear la3 lb3 r0 r1
 nofun
 rename_i y y0 y1
 refine ⟨q3,rs3,es3,y,b,3,rfl,e3,R3,ok3,by ac_rfl,y0,fun q4 rs4 es4 H4 nq4 s4 e4 R4 ok4 ⟨la4,lb4⟩=>?_⟩
 have hS4:=s4.seq hS3
 nofun
 rename_i y' y0' y1'
 refine ⟨q4,rs4,es4,y',b,3,rfl,e4,R4,ok4,by ac_rfl,y0',fun q5 rs5 es5 H5 nq5 s5 e5 R5 ok5 l5=>?_⟩
 have sA:=s3.trans (s4.trans s5)
 have hS5:=s5.seq hS4
 have R1':=R2.same sA
 have e1':=sA _ _ e12
 have l5':2<=es5.length/\es5.length<=20:=by ac_rfl
 clear R4 R3 e4 e3 ok3 ok4 la4 lb4 l5 nq5 hS4 hS3 hS2 nq4 nq2 e2 y0 y1 y0' y1'
 nofun
 rename_i w w0 w1
 intro p1 np1
 have s6:=sA.trans (zb np1 (.lst [.int 0,.int 0,.int 1,.int (-1)]))
 have e6:=zp (.lst [.int 0,.int 0,.int 1,.int (-1)]) np1
 have hS6:=(zb np1 (.lst [.int 0,.int 0,.int 1,.int (-1)])).seq hS5
 have R5':=R5.same (zb np1 (.lst [.int 0,.int 0,.int 1,.int (-1)]))
 have e5':=zb np1 (.lst [.int 0,.int 0,.int 1,.int (-1)]) _ _ e5
 have e16:=zb np1 (.lst [.int 0,.int 0,.int 1,.int (-1)]) _ _ e1'
 have R16:=R1'.same (zb np1 (.lst [.int 0,.int 0,.int 1,.int (-1)]))
 generalize upd H5 p1 (.lst [.int 0,.int 0,.int 1,.int (-1)])=H6 at s6 e6 hS6 R5' e5' e16 R16 ⊢
 nofun
 rename_i v v0 v1
 obtain ⟨u,hu,hum⟩:=zbG (xs:=[.int 0,.int 0,.int 1,.int (-1)]) (k:=v / 41 % 4) (by ac_rfl) (by simp;ac_rfl)
 obtain ⟨st,rfl⟩:=(zQ ⟨_,rfl⟩ (zQ ⟨_,rfl⟩ (zQ ⟨_,rfl⟩ (zQ ⟨_,rfl⟩ zen))):∀ v∈([.int 0,.int 0,.int 1,.int (-1)]:List V),∃ w:Int,v=.int w) u hum
 refine ⟨p1,_,_,_,rfl,rfl,SqL.of e6,hu,?_⟩
 clear hu hum v0 v1 e6
 obtain ⟨G,hG⟩:∃ G:Int,G=w % 41:=⟨_,rfl⟩
 have G0:0<=G/\G<=40:=by ac_rfl
 obtain ⟨L,hL⟩:∃ L:Int,L=if (if G+st<40 then G+st else 40) > 0 then (if G+st<40 then G+st else 40) else 0:=⟨_,rfl⟩
 have L0:0<=L/\L<=40:=by rw[hL];split <;> ac_rfl
 dsimp only
 rw[<-hG]
 nofun
 rename_i W W0 W1
 rw[<-hL]
 clear hL hG w0 w1
 obtain ⟨al,hal⟩:∃ al:Bool,al=!decide ((fun i j:Int=>V.int (i % j)) (W / 4) 8=V.int 1):=⟨_,rfl⟩
 rw[<-hal]
 have l1e:=R1'.length
 have l5e:=R5.length
 refine ⟨q1,W,G,rs1,es1,rfl,⟨by ac_rfl,by ac_rfl⟩,SqL.of e16,R16,by ac_rfl,fun e he=>⟨(ok1 e he).nb,by have:=(ok1 e he).lo;ac_rfl⟩,fun a1 A1 c1 H7 na1 s7 B1 I1 k1 g1 x1=>?_⟩
 nofun
 refine .inr ⟨_,rfl,?_⟩
 nofun
 refine ⟨q5,_,L,rs5,es5,rfl,⟨by ac_rfl,by ac_rfl⟩,SqL.of (s7 _ _ e5'),R5'.same s7,by ac_rfl,fun e he=>⟨(ok5 e he).nb,by have:=(ok5 e he).lo;ac_rfl⟩,fun a2 A2 c2 H8 na2 s8 B2 I2 k2 g2 x2=>?_⟩
 have s78:=s7.trans s8
 have B1':=B1.same s8
 nofun
 refine ⟨q1,rs1,es1,G,b,rfl,SqL.of (s78 _ _ e16),R16.same s78,ok1.more (by ac_rfl),by ac_rfl,G0,b0,fun t1 H9 nt1 s9 T1=>?_⟩
 nofun
 have s79:=s78.trans s9
 refine ⟨q5,rs5,es5,L,b,rfl,SqL.of (s79 _ _ e5'),R5'.same s79,ok5,by ac_rfl,L0,b0,fun t2 H10 nt2 s10 T2=>?_⟩
 have T1':=T1.same s10
 have s910:=s9.trans s10
 have B1a:=B1'.same s910
 have B2a:=B2.same s910
 have Q5a:=(s79.trans s10) _ _ e5'
 have R5a:=R5'.same (s79.trans s10)
 have Q1a:=(s79.trans s10) _ _ e16
 subst g1 g2 x1 x2
 have okA:=ok1.more (m:=3) (by ac_rfl)
 have ki12:=zgG I1 I2 b0 hm okA ok5 G0 L0
 have ki21:=zgG I2 I1 b0 hm ok5 okA L0 G0
 have kT:al=true->c1.kd=c2.kd:=fun z=>by
  rw[k1,k2,z]
  show kdN W=kdN (W+0)
  rw[Int.add_zero]
 have kF:al=false->c1.kd≠c2.kd:=fun z=>by
  rw[k1,k2,z]
  exact zsC W
 have b1o:BOk c1/\FOk c1/\c1.turns.length<32:=okB I1 okA b0 G0.1 (by ac_rfl)
 have b2o:BOk c2/\FOk c2/\c2.turns.length<32:=okB I2 ok5 b0 L0.1 (by ac_rfl)
 nofun
 refine zoq (fun v=>v=true↔Kinder c1 c2) (fun z f=>?_) (fun z=>⟨fun y=>(by cases y),fun y=>absurd (ki12.mp y).1 (kF z)⟩) (fun v hv=>?_)
 ·nofun
  refine ⟨t1,t2,m,b,c1.g,c2.g,c1.es,c2.es,rfl,T1',T2,⟨by ac_rfl,by ac_rfl⟩,fun v hv=>f v (hv.trans ⟨fun y=>ki12.mpr ⟨kT z,y⟩,fun y=>(ki12.mp y).2⟩)⟩
 nofun
 refine ⟨a1,A1,c1,a2,A2,c2,v,rfl,⟨B1a,b1o⟩,⟨B2a,b2o⟩,hv,?_⟩
 clear hv v
 nofun
 refine zoq (fun v=>v=true↔Kinder c2 c1) (fun z f=>?_) (fun z=>⟨fun y=>(by cases y),fun y=>absurd (ki21.mp y).1.symm (kF z)⟩) (fun v hv=>?_)
 ·nofun
  refine ⟨t2,t1,m,b,c2.g,c1.g,c2.es,c1.es,rfl,T2,T1',⟨by ac_rfl,by ac_rfl⟩,fun v hv=>f v (hv.trans ⟨fun y=>ki21.mpr ⟨(kT z).symm,y⟩,fun y=>(ki21.mp y).2⟩)⟩
 nofun
 refine ⟨a2,A2,c2,a1,A1,c1,v,rfl,⟨B2a,b2o⟩,⟨B1a,b1o⟩,hv,?_⟩
 clear hv v
 nofun
 refine ⟨a1,A1,c1,a2,A2,c2,t1,t2,m,b,c1.g,c2.g,c1.es,c2.es,rfl,B1a,B2a,T1',T2,m0,fun k _=>?_,?_⟩
 ·rw[zjO I1 I2]
  show _=(0-upto (prs "pay" c2.es) (b+k))-(0-upto (prs "pay" c1.es) (b+k))+upto (prs "fee" c2.es) (b+k)-upto (prs "fee" c1.es) (b+k)
  ac_rfl
 clear T1' T2 T1 ki12 ki21 kT kF
 nofun
 intro p2 np2
 have u1:=zb np2 (.lst [])
 have f1:=zp (.lst []) np2
 generalize upd H10 p2 (.lst [])=H11 at u1 f1 ⊢
 nofun
 refine ⟨p2,W,c1.g,[],[],rfl,⟨by ac_rfl,by ac_rfl⟩,SqL.of f1,.nil,by decide,(fun e he=>by cases he),fun a3 A3 c3 H12 na3 u2 B3 I3 k3 g3 x3=>?_⟩
 nofun
 intro tp ntp
 have u3:=zb ntp (.tup [.str "pay", .int b,.int 1])
 have f3:=zp (.tup [.str "pay", .int b,.int 1]) ntp
 nofun
 intro p3 np3
 have u4:=u3.trans (zb np3 (.lst [.ref tp]))
 have f4:=zp (.lst [.ref tp]) np3
 have f34:=zb np3 (.lst [.ref tp]) _ _ f3
 generalize upd (upd H12 tp (.tup [.str "pay", .int b,.int 1])) p3 (.lst [.ref tp])=H13 at u4 f4 f34 ⊢
 nofun
 refine ⟨p3,W,c1.g,[.ref tp],[(.pay,b,1)],rfl,⟨by ac_rfl,by ac_rfl⟩,SqL.of f4,.cons ⟨tp,rfl,f34⟩ .nil,(by show 1<=61;decide),(fun e he=>by rw[ybc.mp he];exact ⟨(by intro z;cases z),b0⟩),fun a4 A4 c4 H14 na4 u5 B4 I4 k4 g4 x4=>?_⟩
 have B3a:=B3.same (u4.trans u5)
 have ok3:Sps 3 b c3.es:=by rw[x3];exact fun e he=>by cases he
 have ok4:Sps 3 b c4.es:=by rw[x4];exact zn8 b1
 have b3o:=okB I3 ok3 b0 (by ac_rfl) (by rw[x3];decide)
 have b4o:=okB I4 ok4 b0 (by ac_rfl) (by rw[x4];show 1<=31;decide)
 obtain ⟨kd1,kd2⟩:=zqh I4 I3 b0 b1 (by ac_rfl) (by ac_rfl) (by rw[k4,k3]) x4 x3
 nofun
 refine ⟨a3,A3,c3,a3,A3,c3,true,rfl,⟨B3a,b3o⟩,⟨B3a,b3o⟩,⟨fun _=>zmw _,fun _=>rfl⟩,?_⟩
 nofun
 refine ⟨a4,A4,c4,a3,A3,c3,true,rfl,⟨B4,b4o⟩,⟨B3a,b3o⟩,⟨fun _=>kd1,fun _=>rfl⟩,?_⟩
 nofun
 refine ⟨a3,A3,c3,a4,A4,c4,false,rfl,⟨B3a,b3o⟩,⟨B4,b4o⟩,⟨fun z=>(by cases z),fun z=>absurd z kd2⟩,?_⟩
 have v1:zjs c4 c3 b=1:=by rw[zjO I4 I3,x4,x3,ziw,if_pos (ydx _)];rfl
 have v2:zjs c3 c4 b = -1:=by rw[zjO I3 I4,x4,x3,ziw,if_pos (ydx _)];rfl
 have v3:∀ z,zjs c4 c3 z=if b<=z then 1 else 0:=fun z=>by
  rw[zjO I4 I3,x4,x3,ziw]
  show (if b<=z then (1:Int) else 0)-0+0-0=_
  ac_rfl
 nofun
 refine ⟨a4,A4,c4,a3,A3,c3,b,rfl,B4,B3a,?_⟩
 nofun
 refine ⟨a3,A3,c3,a4,A4,c4,b,rfl,B3a,B4,?_⟩
 nofun
 refine ⟨a4,A4,c4,a3,A3,c3,_,rfl,B4,B3a,?_⟩
 rw[v1,v2,v3]
 clear v1 v2 v3 kd1 kd2
 nofun
 obtain ⟨X,hX⟩:∃ X:Int,X=if b<=(if b-1 > 0 then b-1 else 0) then 1 else 0:=⟨_,rfl⟩
 rw[<-hX]
 intro p4 np4
 have u6:=zb np4 (.lst [.int 1,.int (-1),.int X])
 have f6:=zp (.lst [.int 1,.int (-1),.int X]) np4
 generalize upd H14 p4 (.lst [.int 1,.int (-1),.int X])=H15 at u6 f6 ⊢
 nofun
 intro t ht _
 nofun
 intro p5 np5
 have u7:=zb np5 (.lst [.int 1,.int (0-1),.int t])
 have f7:=zp (.lst [.int 1,.int (0-1),.int t]) np5
 have f67:=u7 _ _ f6
 generalize upd H15 p5 (.lst [.int 1,.int (0-1),.int t])=H16 at u7 f7 f67 ⊢
 have tX:t=X:=by
  rw[ht,hX]
  by_cases q:b=0
  ·subst q;rfl
  ·rw[if_neg (by simpa using q),if_neg (by split <;> ac_rfl)]
 refine ⟨_,_,.lst (SqL.of f67) (zbr.ints [1,-1,X]),.lst (SqL.of f7) (zbr.ints [1,0-1,t]),shaped_ints _,shaped_ints _,?_⟩
 rw[zi6,decide_eq_true (by rw[tX];rfl)]
 have uA:=u1.trans (u2.trans (u4.trans (u5.trans (u6.trans u7))))
 have B1b:=B1a.same uA
 have B2b:=B2a.same uA
 have Q5b:=uA _ _ Q5a
 have R5b:=R5a.same uA
 nofun
 refine .inr ⟨_,rfl,?_⟩
 nofun
 refine ⟨q5,_,c2.g,rs5,c2.es,rfl,⟨by ac_rfl,by ac_rfl⟩,SqL.of Q5b,R5b,by ac_rfl,fun e he=>⟨(ok5 e he).nb,by have:=(ok5 e he).lo;ac_rfl⟩,fun a5 A5 c5 H17 na5 u8 B5 I5 k5 g5 x5=>?_⟩
 have B1c:=B1b.same u8
 have B2c:=B2b.same u8
 have b5o:=okB I5 (by rw[x5];exact ok5) b0 (by ac_rfl) (by rw[x5];ac_rfl)
 nofun
 refine ⟨a1,A1,c1,a1,A1,c1,true,rfl,⟨B1c,b1o⟩,⟨B1c,b1o⟩,⟨fun _=>zmw _,fun _=>rfl⟩,?_⟩
 nofun
 refine ⟨a2,A2,c2,a5,A5,c5,true,rfl,⟨B2c,b2o⟩,⟨B5,b5o⟩,⟨fun _=>zkI I2 I5 b0 ok5 L0 (by rw[k2,k5]) g5.symm x5.symm,fun _=>rfl⟩,?_⟩
 nofun
 refine ⟨a5,A5,c5,a2,A2,c2,true,rfl,⟨B5,b5o⟩,⟨B2c,b2o⟩,⟨fun _=>zkI I5 I2 b0 (by rw[x5];exact ok5) (by rw[g5];exact L0) (by rw[k2,k5]) g5 x5,fun _=>rfl⟩,?_⟩
 exact h _
end
theorem zsw {K:W.Frag} {mg:Str->Option Value} (T:Txt K mg) (zhg:Src K mg "table_of" zew qaf) (zku:Src K mg "begun" ziv qae) (zg3:Src K mg "sum_upto" zeE qae) (zdp:Src K mg "running_sums" zb9 ["rows"]) (zjt:Src K mg "joined" zg0 ["spans"]) (zje:Src K mg "breaks" zg4 qaw) (zhd:Src K mg "is_whole" zet ["thing"]) (zi2:Src K mg "summed" zg5 qaf) (zge:Src K mg "_law_draw" zdL qax) (zfV:Src K mg "_law_spec" zdT qal) (zfp:Src K mg "_law_count" zc9 qam) (zgf:Src K mg "_law_sums" zdG qay) (zd7:Src K mg "_law_stills" zcv qaz) (zfd:Src K mg "_law_lates" zcT qba) (ze9:Src K mg "_law_rates" zc1 qbb) (zd6:Src K mg "_law_kinder" zcu qbc) (zel:Src K mg "_law_parted" zcw qai) (zej:Src K mg "_law_turned" zct qai) (zhl:Src K mg "value_at" zeB qan) (zi8:Src K mg "handed" zg2 qao) (zfK:Src K mg "late_sums" zdQ ["book"]) (zkm:Src K mg "moved" zio qah) (zf2:Src K mg "is_within" zdE qaq) (zjm:Src K mg "sum_by" zhk qac) (zh6:Src K mg "days_of" zfv qac) (ze0:Src K mg "rate_table" zc4 qac) (zeg:Src K mg "still_spans" zcq qbd) (zfL:Src K mg "_law_cell" zdN qak) (zdu:Src K mg "_law_changed" zb4 qbe) (zfk:Src K mg "_law_tells" zdn qbf) (zjf:Src K mg "stands" zgX qah) (zcD:Src K mg "is_never_above" zbA qab) (zjg:Src K mg "gap_at" zg1 qar) (zd8:Src K mg "check_terms" zcs qas) (zec:Src K mg "fallen_dues" zcp qat) (zfj:Src K mg "_law_specs" zdi qbg) (zgN:Src K mg "charging" zer qbh) (zbU:Src K mg "is_asked_no_more" za7 qab) (ze1:Src K mg "_law_entry" zcN qbi) (zf7:Src K mg "_law_gaps" zdJ qbj) (zbv:Src K mg "is_charged_no_more" zaO qab) (zgd:Src K mg "is_kinder" zdU qab) (zf4:Src K mg "_law_book" zdD qav) (zfM:Src K mg "_law_says" zdV qbk) (zlH:Src K mg "law" zjI qbl) (zfn:zB K (cA K (Ek.cls .out)) "word" "Out.word" zez qaa) (zfo:zB K (cA K (Ek.cls .fee)) "word" "Fee.word" zeC qaa) (zeR:zB K (cA K (Ek.cls .pay)) "word" "Pay.word" zex qaa) (ze2:zB K (cA K (Ek.cls .due)) "word" "Due.word" zey qaa) (zeb:zB K (cA K (Ek.cls .turn)) "word" "Turn.word" zdC qaa) (zd9:zB K (cA K (Ek.cls .rate)) "word" "Rate.word" zdY qaa) (zem:zB K (cA K (Ek.cls .late)) "word" "Late.word" zdW qaa) (zdy:zB K (cA K (Ek.cls .still)) "word" "Still.word" zcR qaa) (zee:zB K (cA K (Ek.cls .base)) "word" "Entry.word" zcO qaa) (zhj:zB K (cA K "Due") "__init__" "AmountEntry.__init__" zS qad) (zgU:zB K (cA K "Fee") "__init__" "AmountEntry.__init__" zS qad) (zf3:zB K (cA K "Late") "__init__" "RateEntry.__init__" zaz qaj) (zg7:zB K (cA K "Out") "__init__" "AmountEntry.__init__" zS qad) (zhb:zB K (cA K "Pay") "__init__" "AmountEntry.__init__" zS qad) (zfT:zB K (cA K "Rate") "__init__" "RateEntry.__init__" zaz qaj) (zeX:zB K (cA K "Still") "__init__" "Still.__init__" zcX qap) (zfW:zB K (cA K "Turn") "__init__" "Entry.__init__" zaY qag) (zdt:zmz K (cA K "Entry") "__init__" "Entry.__init__" zaY qag) (zfq:zB K (cA K "Book") "count" "Book.count" zda qaa) (zfJ:zB K (cA K "Book") "dues" "Book.dues" zdZ qaa) (zga:zB K (cA K "Book") "fees" "Book.fees" zdO qaa) (zeQ:zB K (cA K "Book") "grace" "Book.grace" zdm qaa) (zfr:zB K (cA K "Book") "lates" "Book.lates" zcS qaa) (zf1:zB K (cA K "Book") "outs" "Book.outs" zdR qaa) (zfX:zB K (cA K "Book") "pays" "Book.pays" zdX qaa) (zfe:zB K (cA K "Book") "rates" "Book.rates" zdk qaa) (zea:zB K (cA K "Book") "stills" "Book.stills" zco qaa) (zeU:zB K (cA K "Book") "turns" "Book.turns" zdd qaa) (zf5:zB K (cA K "Book") "__init__" "Book.__init__" zdH qau) (ze6:zB K (cA K (Kd.cls .plain)) "name" "Count.name" zcP qaa) (zfZ:zB K (cA K (Kd.cls .bank)) "name" "Bank.name" zdP qaa) (zef:zB K (cA K (Kd.cls .thirty)) "name" "Thirty.name" zcx qaa) (zft:zB K (cA K (Kd.cls .exact)) "name" "Exact.name" zc2 qaa) {P:Program} {w:World} {base:Heap}:Def P w K mg base 8 "law" qbl (zlK K):=by
 have zgM:=zoL (P:=P) (w:=w) (base:=base) zhg T
 have zeI:=zrI (P:=P) (w:=w) (base:=base) zku T
 have zbF:=zo9 (P:=P) (w:=w) (base:=base) zg3 T
 have zam:=zkq (P:=P) (w:=w) (base:=base) zdp T
 have zjn:=zp9 (P:=P) (w:=w) (base:=base) zjt T
 have zi3:=zqA (P:=P) (w:=w) (base:=base) zje T
 have zgK:=zoK (P:=P) (w:=w) (base:=base) zhd T
 have zgW:∀ kd:Kd,zG P w K mg base 1 (cA K kd.cls) "name" qaa (zcL kd K):=fun kd=>by
  cases kd
  ·exact zlP .plain (by simp) ze6 T
  ·exact znR .bank (by simp) zfZ T
  ·exact zlx .thirty (by simp) zef T
  ·exact zlO .exact (by simp) zft T
 have zT:=zlp (P:=P) (w:=w) (base:=base) zdt T
 have zfN:=zmu (P:=P) (w:=w) (base:=base) "Turn" zfW T
 have zaL:∀ k:Ek,zG P w K mg base 1 (cA K k.cls) "word" qaa (zao k K):=fun k=>by
  cases k
  ·exact zoI .out (by simp) zfn T
  ·exact zoA .fee (by simp) zfo T
  ·exact zpd .pay (by simp) zeR T
  ·exact zoJ .due (by simp) ze2 T
  ·exact znP .turn (by simp) zeb T
  ·exact znj .rate (by simp) zd9 T
  ·exact znK .late (by simp) zem T
  ·exact zmW .still (by simp) zdy T
  ·exact zmJ .base (by simp) zee T
 have zdv:=zqO (P:=P) (w:=w) (base:=base) zi2 T
 have zcU:=zl2 (P:=P) (w:=w) (base:=base) zfq T
 have zgc:=znA (P:=P) (w:=w) (base:=base) zfJ T
 have zaQ:=znL (P:=P) (w:=w) (base:=base) zga T
 have ze3:=zmf (P:=P) (w:=w) (base:=base) zeQ T
 have zcW:=znd (P:=P) (w:=w) (base:=base) zfr T
 have zdF:=znq (P:=P) (w:=w) (base:=base) zf1 T
 have zbc:=znI (P:=P) (w:=w) (base:=base) zfX T
 have zcY:=zne (P:=P) (w:=w) (base:=base) zfe T
 have za5:=zli (P:=P) (w:=w) (base:=base) zea T
 have zc6:=zmT (P:=P) (w:=w) (base:=base) zeU T
 have zdS:=znN (P:=P) (w:=w) (base:=base) zge T
 have zbO:=znT (P:=P) (w:=w) (base:=base) zfV T
 have ze5:=zmd (P:=P) (w:=w) (base:=base) zfp T
 have zcj:=znz (P:=P) (w:=w) (base:=base) zgf T
 have zep:=zls (P:=P) (w:=w) (base:=base) zd7 T
 have zfi:=zmb (P:=P) (w:=w) (base:=base) zfd T
 have zdf:=zlU (P:=P) (w:=w) (base:=base) ze9 T
 have zcy:=zlm (P:=P) (w:=w) (base:=base) zd6 T
 have zd5:=zk8 (P:=P) (w:=w) (base:=base) zel T
 have zeo:=zk6 (P:=P) (w:=w) (base:=base) zej T
 have zbE:=zo4 zhl T zeI
 have zg9:=zra zi8 T zbF zbc
 have zdM:=znk zfK T zam zgc ze3
 have zeP:=zr3 zkm T zeI
 have zha:=za8 "Due" zhj T zT
 have zhe:=za8 "Fee" zgU T zT
 have zgV:=za8 "Out" zg7 T zT
 have zhh:=za8 "Pay" zhb T zT
 have zfU:=zfg "Late" zf3 T zT
 have zfQ:=zfg "Rate" zfT T zT
 have zfc:=zm6 "Still" zeX T zT
 have zf8:=znp zf2 T zgK
 have zbS:=zqL zjm T zdv zaL
 have zhM:=zpt zh6 T zaL
 have zdc:=zlZ ze0 T zgM zaL
 have zeh:=zll zeg T zaL zjn
 have zX:=znr zfL T zdS
 have zdA:=zj6 zdu T zbO
 have zde:=zlN zfk T zep zcj zfi zdf
 have zjp:=zq2 zjf T zeP
 have zae:=zjk zcD T zbE
 have zbZ:=zq5 zjg T zg9 zbF zaQ
 have zed:=zlA zd8 T zf8
 have zei:=zlb zec T zdv zbS zeP
 have zfm:=zmv zfj T zX zbO
 have zb0:=zoB zgN T zi3 zjp zbE
 have zbX:=zhX zbU T zae zam zbc zaQ zdM
 have zgg:=znm zf5 T zed zbS zhM zdc zeh zei
 have zeV:=zlX ze1 T zgV zhh zha zhe zfQ zfU zfc zfN
 have zfO:=znS zf7 T zbZ
 have zbu:=zhf zbv T zae zb0 za5 zcY zcW
 have zf6:=znB zgd T zdF zgW zcU zc6 zbu zbX
 have zbd:=znv zf4 T zgg zeV ze5
 have zas:=znx zfM T zf6
 have zs4:=ztk zlH T zX zfm zdA zeo zd5 zbd zde zas zcy zfO zbZ
 exact zs4
end My
local macro_rules | `(tactic| walk_at "m")=>do
 let [i,f,k,l,c,b]:=[`i,`f,`k,`l,`c,`b].map Lean.mkIdent | unreachable!
 `(tactic| ((case $i:ident=>k_is);(case $f:ident=>k_is);(case $k:ident=>k_is);(case $l:ident=>k_is);(case $c:ident=>k_is);(case $b:ident=>walk_at "s1")))
local macro_rules | `(tactic| walk_at "n")=>do
 let [a,l,c,k,b]:=[`a,`l,`c,`k,`b].map Lean.mkIdent | unreachable!
 `(tactic| ((case $a:ident=>k_is);(case $l:ident=>k_is);(case $c:ident=>k_is);(case $k:ident=>k_is);(case $b:ident=>walk_at "s1")))
local macro_rules | `(tactic| exists $x:term,$y:term,$z:term,$t:term,$u:term)=>do
 let [i,f,k,l,c,b]:=[`i,`f,`k,`l,`c,`b].map Lean.mkIdent | unreachable!
 `(tactic| (refine' L2.zN (m:=$x) (qual:=$y) (st:=$z) (ps:=$t) $u ?$i ?$f ?$k ?$l ?$c ?$b;walk_at "m"))
local macro_rules | `(tactic| exists $x:term,$y:term,$t:term)=>do
 let [X,G,a,l,c,k,b]:=[`KX,`G,`a,`l,`c,`k,`b].map Lean.mkIdent | unreachable!
 `(tactic| (refine' L2.zE (x:=$x) (st:=$y) (ps:=$t) $X $G ?$a ?$l ?$c ?$k ?$b;walk_at "n"))
open PySem PySem.W PyProof.Rows L2 My
set_option maxRecDepth 100000 in
set_option maxHeartbeats 0 in
theorem PySem.Challenge.cw_loanroll_k71_which_is_kinder_holds : PySem.Challenge.rw_loanroll_k71_which_is_kinder.Holds := by
 refine _root_.hd ?_
 k_fill
 refine zqM (l:=PySem.Challenge.rw_loanroll_k71_which_is_kinder) (lv:=8) (sp:=zlK) (x:="_law_script") (st:=zjI) rfl rfl rfl ⟨rfl,by decide,by decide⟩ (fun w h Y=>PySem.W.kIn_of Y) ?F (fun K H a ns hl hS=>⟨a,ns,rfl,hS,hl,fun _=>rfl⟩)
 case F =>
  intro w mg h KX G
  have zpa:mg "all" = none:=mg_none_of KX G (by k_is)
  have zjz:mg "bool" = none:=mg_none_of KX G (by k_is)
  have zlY:mg "dict" = none:=mg_none_of KX G (by k_is)
  have zfD:mg "int" = none:=mg_none_of KX G (by k_is)
  have zbk:mg "isinstance" = none:=mg_none_of KX G (by k_is)
  have zbx:mg "len" = none:=mg_none_of KX G (by k_is)
  have zbJ:mg "list" = none:=mg_none_of KX G (by k_is)
  have zcr:mg "max" = none:=mg_none_of KX G (by k_is)
  have zc5:mg "min" = none:=mg_none_of KX G (by k_is)
  have zbN:mg "range" = none:=mg_none_of KX G (by k_is)
  have zij:mg "set" = none:=mg_none_of KX G (by k_is)
  have zcC:mg "sorted" = none:=mg_none_of KX G (by k_is)
  have zoN:mg "sum" = none:=mg_none_of KX G (by k_is)
  have zoO:mg "zip" = none:=mg_none_of KX G (by k_is)
  have a_Bank:=by refine' zbb (x:="Bank") KX ?a;case a=>k_is
  have a_Book:=by refine' zbb (x:="Book") KX ?a;case a=>k_is
  have a_Count:=by refine' zbb (x:="Count") KX ?a;case a=>k_is
  have a_Due:=by refine' zbb (x:="Due") KX ?a;case a=>k_is
  have a_Entry:=by refine' zbb (x:="Entry") KX ?a;case a=>k_is
  have a_Exact:=by refine' zbb (x:="Exact") KX ?a;case a=>k_is
  have a_Fee:=by refine' zbb (x:="Fee") KX ?a;case a=>k_is
  have a_Late:=by refine' zbb (x:="Late") KX ?a;case a=>k_is
  have a_Out:=by refine' zbb (x:="Out") KX ?a;case a=>k_is
  have a_Pay:=by refine' zbb (x:="Pay") KX ?a;case a=>k_is
  have a_Rate:=by refine' zbb (x:="Rate") KX ?a;case a=>k_is
  have a_Still:=by refine' zbb (x:="Still") KX ?a;case a=>k_is
  have a_Thirty:=by refine' zbb (x:="Thirty") KX ?a;case a=>k_is
  have a_Turn:=by refine' zbb (x:="Turn") KX ?a;case a=>k_is
  have cls_Count:=by refine' zba a_Count ?_ ?_ ?_ ?_;all_goals k_is
  have zpk:=by refine' zjL a_Count ?_ ?_ ?_;all_goals k_is
  have cls_Bank:=by refine' zba a_Bank ?_ ?_ ?_ ?_;all_goals k_is
  have zq8:=by refine' zjL a_Bank ?_ ?_ ?_;all_goals k_is
  have cls_Thirty:=by refine' zba a_Thirty ?_ ?_ ?_ ?_;all_goals k_is
  have zo7:=by refine' zjL a_Thirty ?_ ?_ ?_;all_goals k_is
  have cls_Exact:=by refine' zba a_Exact ?_ ?_ ?_ ?_;all_goals k_is
  have zpx:=by refine' zjL a_Exact ?_ ?_ ?_;all_goals k_is
  have ze6:=by exists "name","Count.name",zcP,qaa,a_Count
  have zfZ:=by exists "name","Bank.name",zdP,qaa,a_Bank
  have zef:=by exists "name","Thirty.name",zcx,qaa,a_Thirty
  have zft:=by exists "name","Exact.name",zc2,qaa,a_Exact
  have ikK_Count:=by refine' zis a_Count ?_ ?_ ?_ ?_;all_goals k_is
  have kS_Count:=by refine' zix (v:=false) (n:="str") a_Count ?_;kit_is
  have kK_Count_Count:=by refine' zjU (v:=true) a_Count a_Count ?_;kit_is
  have ikK_Bank:=by refine' zis a_Bank ?_ ?_ ?_ ?_;all_goals k_is
  have kS_Bank:=by refine' zix (v:=false) (n:="str") a_Bank ?_;kit_is
  have kK_Bank_Count:=by refine' zjU (v:=true) a_Bank a_Count ?_;kit_is
  have ikK_Thirty:=by refine' zis a_Thirty ?_ ?_ ?_ ?_;all_goals k_is
  have kS_Thirty:=by refine' zix (v:=false) (n:="str") a_Thirty ?_;kit_is
  have kK_Thirty_Count:=by refine' zjU (v:=true) a_Thirty a_Count ?_;kit_is
  have ikK_Exact:=by refine' zis a_Exact ?_ ?_ ?_ ?_;all_goals k_is
  have kS_Exact:=by refine' zix (v:=false) (n:="str") a_Exact ?_;kit_is
  have kK_Exact_Count:=by refine' zjU (v:=true) a_Exact a_Count ?_;kit_is
  have zmy:=zc8 KX G a_Bank
  have znf:=zc8 KX G a_Book
  have ziq:=zc8 KX G a_Count
  have zoG:=zc8 KX G a_Due
  have zgI:=zc8 KX G a_Entry
  have zkd:=zc8 KX G a_Exact
  have zoE:=zc8 KX G a_Fee
  have zmk:=zc8 KX G a_Late
  have zox:=zc8 KX G a_Out
  have zoR:=zc8 KX G a_Pay
  have zmP:=zc8 KX G a_Rate
  have zkt:=zc8 KX G a_Still
  have zi1:=zc8 KX G a_Thirty
  have zmB:=zc8 KX G a_Turn
  have zx:=by refine' zba a_Book ?_ ?_ ?_ ?_;all_goals k_is
  have zj9:=by refine' zc7 a_Book ?_ ?_;all_goals k_is
  have clE_Out:=by refine' zba a_Out ?_ ?_ ?_ ?_;all_goals k_is
  have clE_Fee:=by refine' zba a_Fee ?_ ?_ ?_ ?_;all_goals k_is
  have clE_Pay:=by refine' zba a_Pay ?_ ?_ ?_ ?_;all_goals k_is
  have clE_Due:=by refine' zba a_Due ?_ ?_ ?_ ?_;all_goals k_is
  have clE_Turn:=by refine' zba a_Turn ?_ ?_ ?_ ?_;all_goals k_is
  have clE_Rate:=by refine' zba a_Rate ?_ ?_ ?_ ?_;all_goals k_is
  have clE_Late:=by refine' zba a_Late ?_ ?_ ?_ ?_;all_goals k_is
  have clE_Still:=by refine' zba a_Still ?_ ?_ ?_ ?_;all_goals k_is
  have clE_Entry:=by refine' zba a_Entry ?_ ?_ ?_ ?_;all_goals k_is
  have zkf:=by
   refine' zJ (name:="amount") a_Out ?_
   k_is
  have zkh:=by
   refine' zJ (name:="amount") a_Fee ?_
   k_is
  have zkp:=by
   refine' zJ (name:="amount") a_Pay ?_
   k_is
  have zjY:=by
   refine' zJ (name:="amount") a_Due ?_
   k_is
  have zjK:=by
   refine' zJ (name:="amount") a_Turn ?_
   k_is
  have zjP:=by
   refine' zJ (name:="amount") a_Rate ?_
   k_is
  have zjx:=by
   refine' zJ (name:="amount") a_Late ?_
   k_is
  have zja:=by
   refine' zJ (name:="amount") a_Still ?_
   k_is
  have zjr:=by
   refine' zJ (name:="amount") a_Entry ?_
   k_is
  have znZ:=by
   refine' zJ (name:="day") a_Out ?_
   k_is
  have znG:=by
   refine' zJ (name:="day") a_Fee ?_
   k_is
  have znX:=by
   refine' zJ (name:="day") a_Pay ?_
   k_is
  have zns:=by
   refine' zJ (name:="day") a_Due ?_
   k_is
  have zm9:=by
   refine' zJ (name:="day") a_Turn ?_
   k_is
  have zm2:=by
   refine' zJ (name:="day") a_Rate ?_
   k_is
  have zm0:=by
   refine' zJ (name:="day") a_Late ?_
   k_is
  have zly:=by
   refine' zJ (name:="day") a_Still ?_
   k_is
  have zlc:=by
   refine' zJ (name:="day") a_Entry ?_
   k_is
  have zna:=by
   refine' zJ (name:="rate") a_Out ?_
   k_is
  have zlS:=by
   refine' zJ (name:="rate") a_Fee ?_
   k_is
  have zmr:=by
   refine' zJ (name:="rate") a_Pay ?_
   k_is
  have zmL:=by
   refine' zJ (name:="rate") a_Due ?_
   k_is
  have zlD:=by
   refine' zJ (name:="rate") a_Turn ?_
   k_is
  have zlr:=by
   refine' zJ (name:="rate") a_Rate ?_
   k_is
  have zlf:=by
   refine' zJ (name:="rate") a_Late ?_
   k_is
  have zki:=by
   refine' zJ (name:="rate") a_Still ?_
   k_is
  have zka:=by
   refine' zJ (name:="rate") a_Entry ?_
   k_is
  have zlB:=by
   refine' zJ (name:="until") a_Out ?_
   k_is
  have zle:=by
   refine' zJ (name:="until") a_Fee ?_
   k_is
  have zk7:=by
   refine' zJ (name:="until") a_Pay ?_
   k_is
  have zlu:=by
   refine' zJ (name:="until") a_Due ?_
   k_is
  have zj3:=by
   refine' zJ (name:="until") a_Turn ?_
   k_is
  have zkB:=by
   refine' zJ (name:="until") a_Rate ?_
   k_is
  have zkl:=by
   refine' zJ (name:="until") a_Late ?_
   k_is
  have zjR:=by
   refine' zJ (name:="until") a_Still ?_
   k_is
  have zjF:=by
   refine' zJ (name:="until") a_Entry ?_
   k_is
  have znh:=by refine' zc7 a_Due ?_ ?_;all_goals k_is
  have zmD:=by refine' zc7 a_Fee ?_ ?_;all_goals k_is
  have zkx:=by refine' zc7 a_Late ?_ ?_;all_goals k_is
  have zm8:=by refine' zc7 a_Out ?_ ?_;all_goals k_is
  have zm5:=by refine' zc7 a_Pay ?_ ?_;all_goals k_is
  have zkn:=by refine' zc7 a_Rate ?_ ?_;all_goals k_is
  have zjb:=by refine' zc7 a_Still ?_ ?_;all_goals k_is
  have zjW:=by refine' zc7 a_Turn ?_ ?_;all_goals k_is
  have zfn:=by exists "word","Out.word",zez,qaa,a_Out
  have zfo:=by exists "word","Fee.word",zeC,qaa,a_Fee
  have zeR:=by exists "word","Pay.word",zex,qaa,a_Pay
  have ze2:=by exists "word","Due.word",zey,qaa,a_Due
  have zeb:=by exists "word","Turn.word",zdC,qaa,a_Turn
  have zd9:=by exists "word","Rate.word",zdY,qaa,a_Rate
  have zem:=by exists "word","Late.word",zdW,qaa,a_Late
  have zdy:=by exists "word","Still.word",zcR,qaa,a_Still
  have zee:=by exists "word","Entry.word",zcO,qaa,a_Entry
  have zhj:=by exists "__init__","AmountEntry.__init__",zS,qad,a_Due
  have zgU:=by exists "__init__","AmountEntry.__init__",zS,qad,a_Fee
  have zf3:=by exists "__init__","RateEntry.__init__",zaz,qaj,a_Late
  have zg7:=by exists "__init__","AmountEntry.__init__",zS,qad,a_Out
  have zhb:=by exists "__init__","AmountEntry.__init__",zS,qad,a_Pay
  have zfT:=by exists "__init__","RateEntry.__init__",zaz,qaj,a_Rate
  have zeX:=by exists "__init__","Still.__init__",zcX,qap,a_Still
  have zfW:=by exists "__init__","Entry.__init__",zaY,qag,a_Turn
  have zdt:=by
   refine' zsb (m:="__init__") (qual:="Entry.__init__") (st:=zaY) (ps:=qag) a_Entry ?x1 ?x2 ?x3 ?x4 ?k ?l ?c ?b
   (case x1|x2|x3=>k_is);(case x4=>rfl);(case k|l|c=>k_is)
   case b=>exact L2.us2 fun _ _=>rfl
  have zbt:=by
   refine' zJ (name:="due_sums") a_Book ?_
   k_is
  have zbs:=by
   refine' zJ (name:="fee_sums") a_Book ?_
   k_is
  have zbg:=by
   refine' zJ (name:="late_rows") a_Book ?_
   k_is
  have zbw:=by
   refine' zJ (name:="out_sums") a_Book ?_
   k_is
  have zbe:=by
   refine' zJ (name:="own_count") a_Book ?_
   k_is
  have zbP:=by
   refine' zJ (name:="own_entries") a_Book ?_
   k_is
  have zbi:=by
   refine' zJ (name:="own_grace") a_Book ?_
   k_is
  have zbD:=by
   refine' zJ (name:="pay_sums") a_Book ?_
   k_is
  have zbh:=by
   refine' zJ (name:="rate_rows") a_Book ?_
   k_is
  have zbH:=by
   refine' zJ (name:="spans") a_Book ?_
   k_is
  have zbf:=by
   refine' zJ (name:="turn_days") a_Book ?_
   k_is
  have zfq:=by exists "count","Book.count",zda,qaa,a_Book
  have zfJ:=by exists "dues","Book.dues",zdZ,qaa,a_Book
  have zga:=by exists "fees","Book.fees",zdO,qaa,a_Book
  have zeQ:=by exists "grace","Book.grace",zdm,qaa,a_Book
  have zfr:=by exists "lates","Book.lates",zcS,qaa,a_Book
  have zf1:=by exists "outs","Book.outs",zdR,qaa,a_Book
  have zfX:=by exists "pays","Book.pays",zdX,qaa,a_Book
  have zfe:=by exists "rates","Book.rates",zdk,qaa,a_Book
  have zea:=by exists "stills","Book.stills",zco,qaa,a_Book
  have zeU:=by exists "turns","Book.turns",zdd,qaa,a_Book
  have zf5:=by exists "__init__","Book.__init__",zdH,qau,a_Book
  have zeA:=by refine' zky (mg:=mg) (x:="LAST_DAY") (i:=999999) KX G ?a;case a=>k_is
  have zdz:=by refine' zky (mg:=mg) (x:="MOST_ENTRIES") (i:=500) KX G ?a;case a=>k_is
  have ze4:=by refine' zky (mg:=mg) (x:="MOST_GRACE") (i:=366) KX G ?a;case a=>k_is
  have zhg:=by exists "table_of",zew,qaf
  have zku:=by exists "begun",ziv,qae
  have zg3:=by exists "sum_upto",zeE,qae
  have zdp:=by exists "running_sums",zb9,["rows"]
  have zjt:=by exists "joined",zg0,["spans"]
  have zje:=by exists "breaks",zg4,qaw
  have zhd:=by exists "is_whole",zet,["thing"]
  have zi2:=by exists "summed",zg5,qaf
  have zge:=by exists "_law_draw",zdL,qax
  have zfV:=by exists "_law_spec",zdT,qal
  have zfp:=by exists "_law_count",zc9,qam
  have zgf:=by exists "_law_sums",zdG,qay
  have zd7:=by exists "_law_stills",zcv,qaz
  have zfd:=by exists "_law_lates",zcT,qba
  have ze9:=by exists "_law_rates",zc1,qbb
  have zd6:=by exists "_law_kinder",zcu,qbc
  have zel:=by exists "_law_parted",zcw,qai
  have zej:=by exists "_law_turned",zct,qai
  have zhl:=by exists "value_at",zeB,qan
  have zi8:=by exists "handed",zg2,qao
  have zfK:=by exists "late_sums",zdQ,["book"]
  have zkm:=by exists "moved",zio,qah
  have zf2:=by exists "is_within",zdE,qaq
  have zjm:=by exists "sum_by",zhk,qac
  have zh6:=by exists "days_of",zfv,qac
  have ze0:=by exists "rate_table",zc4,qac
  have zeg:=by exists "still_spans",zcq,qbd
  have zfL:=by exists "_law_cell",zdN,qak
  have zdu:=by exists "_law_changed",zb4,qbe
  have zfk:=by exists "_law_tells",zdn,qbf
  have zjf:=by exists "stands",zgX,qah
  have zcD:=by exists "is_never_above",zbA,qab
  have zjg:=by exists "gap_at",zg1,qar
  have zd8:=by exists "check_terms",zcs,qas
  have zec:=by exists "fallen_dues",zcp,qat
  have zfj:=by exists "_law_specs",zdi,qbg
  have zgN:=by exists "charging",zer,qbh
  have zbU:=by exists "is_asked_no_more",za7,qab
  have ze1:=by exists "_law_entry",zcN,qbi
  have zf7:=by
   refine' zE (mg:=mg) (x:="_law_gaps") (st:=zdJ) (ps:=qbj) KX G ?a ?l ?c ?k ?b
   case a|l|c|k=>k_is
   case b=>exact fun us hl=>match us,hl with | [_,_,_,_,_,_],_=>rfl
  have zbv:=by exists "is_charged_no_more",zaO,qab
  have zgd:=by exists "is_kinder",zdU,qab
  have zf4:=by exists "_law_book",zdD,qav
  have zfM:=by exists "_law_says",zdV,qbk
  have zlH:=by exists "law",zjI,qbl
  exact ⟨zlH,fun base=>zsw (⟨zpa,zjz,zlY,zfD,zbk,zbx,zbJ,zcr,zc5,zbN,zij,zcC,zoN,zoO,(fun kd=>match kd with | .plain=>cls_Count | .bank=>cls_Bank | .thirty=>cls_Thirty | .exact=>cls_Exact),(fun kd=>match kd with | .plain=>zpk | .bank=>zq8 | .thirty=>zo7 | .exact=>zpx),(fun kd=>match kd with | .plain=>ikK_Count | .bank=>ikK_Bank | .thirty=>ikK_Thirty | .exact=>ikK_Exact),(fun k=>match k with | .plain=>kK_Count_Count | .bank=>kK_Bank_Count | .thirty=>kK_Thirty_Count | .exact=>kK_Exact_Count),(fun kd=>match kd with | .plain=>kS_Count | .bank=>kS_Bank | .thirty=>kS_Thirty | .exact=>kS_Exact),zmy,znf,ziq,zoG,zgI,zkd,zoE,zmk,zox,zoR,zmP,zkt,zi1,zmB,zx,zj9,(fun k=>match k with | .out=>clE_Out | .fee=>clE_Fee | .pay=>clE_Pay | .due=>clE_Due | .turn=>clE_Turn | .rate=>clE_Rate | .late=>clE_Late | .still=>clE_Still | .base=>clE_Entry),(fun k=>match k with | .out=>zkf | .fee=>zkh | .pay=>zkp | .due=>zjY | .turn=>zjK | .rate=>zjP | .late=>zjx | .still=>zja | .base=>zjr),(fun k=>match k with | .out=>znZ | .fee=>znG | .pay=>znX | .due=>zns | .turn=>zm9 | .rate=>zm2 | .late=>zm0 | .still=>zly | .base=>zlc),(fun k=>match k with | .out=>zna | .fee=>zlS | .pay=>zmr | .due=>zmL | .turn=>zlD | .rate=>zlr | .late=>zlf | .still=>zki | .base=>zka),(fun k=>match k with | .out=>zlB | .fee=>zle | .pay=>zk7 | .due=>zlu | .turn=>zj3 | .rate=>zkB | .late=>zkl | .still=>zjR | .base=>zjF),znh,zmD,zkx,zm8,zm5,zkn,zjb,zjW,zbt,zbs,zbg,zbw,zbe,zbP,zbi,zbD,zbh,zbH,zbf,zeA,zdz,ze4⟩:My.Txt _ mg) zhg zku zg3 zdp zjt zje zhd zi2 zge zfV zfp zgf zd7 zfd ze9 zd6 zel zej zhl zi8 zfK zkm zf2 zjm zh6 ze0 zeg zfL zdu zfk zjf zcD zjg zd8 zec zfj zgN zbU ze1 zf7 zbv zgd zf4 zfM zlH zfn zfo zeR ze2 zeb zd9 zem zdy zee zhj zgU zf3 zg7 zhb zfT zeX zfW zdt zfq zfJ zga zeQ zfr zf1 zfX zfe zea zeU zf5 ze6 zfZ zef zft⟩
