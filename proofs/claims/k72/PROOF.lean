import PyProof.Rows.All
import Wide.All
import OpenK.KSplit
import OpenK.KNot
import OpenK.KApp
import KE.KIsAll
import KE.RegKIsAll
import KE.LcSums
import KE.KItem
import KE.KSortTup
import KE.KSortAsk
import KE.KDictOf
import KE.KItemsList
import Wide.FinOn
import Lean
import PyProof.EqAt
import PyProof.EqKinds
import PyProof.TupleCall
import PySem.Challenge.RW_loanroll_k72_whole_the_kinder_owes_less
set_option Elab.async false
set_option linter.all false
set_option maxRecDepth 100000
set_option maxHeartbeats 20000000
noncomputable section
set_option genSizeOf false
namespace PySem.W.Fast
local macro_rules | `(command| #check [$x,*])=>do
 return Lean.mkNullNode (<-x.getElems.mapM λ x=>`(command| def $(Lean.mkIdent (.mkSimple s!"tw{x.raw.isNatLit?.get!}")):ident:=0))
#check [18431582693463830449,12070494333435192863,9046706918899111342,6204510764643923141,9911597686608685926,861502493610598483,9894359318975158882,951994091122078441,7143520056324069004,13955224368476862882,17437978225849329918,8125905565813277306,4588070733173009051,3627580296062661867,12117474829687734569,9625324600400478904,7927661951936860790,10254530241529151675,15116522159305050132,7774113678449685934,9417670272591341780,8161656369779717402,7500099963899442251,2658320155848399670,15757054237691784606,1099918578628675820,3244086316793181374,4244922878905308065,1742570484267992409,1149798457248472902,3916924956782111165,9869809959619462935,9300808954929066293,10095894221667365369,17271881437230615512,12627051441459223148,16629204123399850450,4408816720484365081,8997383693586321770,786537726763496527,12379931486046079517,12369848792361866835,12921946191010883867,14479964200598819128,4382473104129494423,9586009075069172419,9969077435446430640,2768188642542392010,10282777137419654623,5427034111212743767,7592715696027808041,6125853113672642322,9304451534382375720,18383651708701053236,3520257249291928256,10988312798546598065,12528221419883600679,7484994123860896570,3500664145855060485,9794633275854264654,2216542800690825051,10745233467358560665,17284588472162393981,12297992134047619483,9848817304349107530,16765560720781731146,6284410105664486691,16103829930404553856,4944497897694004105,9320179249941089650,2107523057676978006,5515903443438498500,3099597729799864441,8498532028676091811,2087409540819079288,7374399212775623666,7926090574327391632,885948055608056263,3303267245142563540,14556482736207283325,9637061981482878934,3719891259706897012,9818998656811842119,12182174808115992843,1937721966566455358,16721508838639397229,7882045510503734624,17339309145561079191,1922157984580058403,16873086082458093902,9676783613728631035,599730875272715187,3300454383303005205,7424060955962978353,1293241653719404408,2528511596961503537,1158361714356455011,5101696844757716304,10295913840692754127,13851515409511356469,16947231599799070506,8387090941293194387,16298917771340976007,12670982853097334264,3438699932752214802,16108870410212019532,10799429511968010386,9784134513789038367,2080317491765294665,12887044766017154078,13628181090677844186,4138469717648568751,1840220198017710270,15806707075529380192,14689541978594310382,7480016910919988345,9553971096990549364,7422445781565681216,1000662321505670351,6148498323302512570,2595618661548880785,18127189064453720709,8159993647027272844,16422413458241162112,17508347553164502932,5306753302271460952,9461912720999461741,5832305185047221409,1887573119177674980,15173544498738437827,14833712730911297017,9495317472360511255,13141587033338554882,9972681490609642005,11844019762684407370,11212356425047092601,6170744672141170255,1045582712504079209,13205091638197436094,6701911527682315725,12298192366917762067,2597523674469684444,4884199854448574,16919654943277366748,15805137534098808535,1848955828906020544,17658959251048325594,11757307120078846540,13769103115541136327,8000062065404616838,15685335758407661847,18441984877410159329,1692201390411429781,13547939009206843870,881104292537377597,2990168724187919761,3721919958574915784,2983127059725616120,12058884036946728934,14842496431369740429,8865387616306378214,3641951560692057861,13812277999558781770,8297923619242306668,1864683662541468164,5702276774652866934,15401437161963490237,14842116803066588262,9113380124883318265,14540961386073393648,9223045988441327695,15621415185263527259,12393862125047025020,14424681132571578402,8331849164307833061,539538531456391632,5444512763150141072,6356304189028158447,3671519592330383864,9592521066531166775,10876078143196172821,8392358500681263680,3110587219445414310,4858918184162951299,5874822333441161849,7476452910721959123,6829468419937405859,5649666937502919571,6060609690816243450,12431713363859531893,1956775160557780875,16902085369446701243,3270257207059953099,12772213712371865176,12461081396071149458,8171798328758944481,10879749546641988924,5322009542560784348,2527701527901579348,17483705464198625004]
#check [17334828202450815106,14801369171006070438,306047672372848657,16654469307462801742,11373181179767321252,5994696166404524948,86012387029904805,17680797132471856694,2789304352393801511,5217270863462422736,8278001386518606062,16864618592142003386,14859695947638507448,4313010194945074917,463774138113389760,13257283266767686631,6145912378217320015,9461873434466728008,3953844824629472508,6408400580700104982,13669536469129627823,10297410513487048360,10826640976665885199,1342123614928995077,2244103112122482387,13931877327420345601,2576523973992343609,12076989928817844590,10294118229990073760,14736888041290939073,12488014758255163090,772564365185477556,4026147355466621588,172746767574481773,6128106870883400570,11502921971960690029,12770481643036789091,8006371003960147343,7091221385724896812,14061609134260724683,13127508451798649013,376983999666122830,4766597723019941021,18220031379085947620,10228342955482612591,13053394406489344094,542563422162235373,3456351732281881909,15171223727094530161,17082689572870858151,1442379640649564109,6751970477201280107,1537541725227008683,8833496514701923757,2983494736656345032,10164718903369591474,12901003280762261817,11207431853666184334,2333105410213810865,258204147387103276,13444670453868202053,9646623106273453227,13164499291161521807,13571862603940711859,16086907953836968628,14845619989558847073,9757595895972200118,4096438862311573950,12360465386682457377,10792498714594961201,16409965706819354750,15539815450414544023,10539347186207431242,6208910965292489261,10470340158578859262,13394580363473044415,6575520176995025181,14332157829676619468,6329614223026926184,206757683497733573,17016834523296244275,18361725300881549022,7873786274422454737,11180800956215176064,6472337539984862722,14261769069557060686,384561282630992784,12138319994727072339,4699756791338806529,17678831435119133177,5285915839522022235,16753820520455620202,12652081859355081885,7046044490832178742,12147665669636231765,13055953723892786844,14219159868682941630,12954591660760965231,8318101203651539667,13557862171009465336,17614877247268290040,10373885705245885314,16792556548410726896,15861351967447197489,14081431093454284249,13861969467909019144,8002303944043701648,5388589039460942527,17079817176256170043,17499849576073844966,3971525946579005399,9316815775250114193,7164969610272591079,13349420017058727143,12435058653956393420,5845002605336314091,6733606326906232124,896239598344801917,16145670418848962200,6194202620331982285,1932759071263863916,2392593158011319353,8833860146974802555,12382822922155266910,8996207646774452837,13303234937177203706,8210202977690762169,8272569733616993153,9719393640593047967,16378183091871739711,12330612334027959195,4757880891971583632,4333590680753393835,10713865542653931438,14611616552423853409,9615563845995560447,3846801734645722302,16797375974695604193,8151759404152838978,17267597263503486738,3603697650439363286,13215348057498601715,256182404569192445,7220529860990300233,2046362190076281809,15910123707662034135,17862349074038704544,13313058339493701161,17890440400047909864,14594842627406614536,9215358943560890414,9045458381397004210,13631397514672939371,12810538208386287084,3360331339202195580,18256421414242976788,10183191009430664095,16378607020475074786,17450930235937024225,6934032725831474677,17397653436517662659,11481637867367846703,11489344026974618541,7086961617601330827,2187251505897268136,2167315655227761912,17883462748017686043,1484650774730072618,6248682570935725439,6631347999910079877,9387514328989991554,2314633323536394700,8219003486749837733,8899516883271353254,4039707410889071942,17292613610259460706,13421457143807847188,14537775516033599862,15438627641174518403,4859391219904099992,2595585439558603231,5459702643516471331,3277229846650655979,13539809779269347639,11707130962622978684,15699961213505342161,14577027041581768965,4562827626845409882,6851275008772768644,8432719020341155521,10387345722656961088,3436067635600285980,7538781388859322016,13851971633180934007,17823556299335049440,18384110700954362821,16773468814595293053,2956708394376553000,18003772858949239459,9744259246892133002]
#check [4186743451310774866,3985964047577975286,1663524305781585820,5694767641087392711,9806118890596472461,5233118043267047457,14819390147424179368,3676754643040562684,15481805183316651443,5909976876416983842,15752536640612570366,10624116801336726872,8080008513338510535,13437419889732721216,3997487885647526937,8157277791214410489,3681537716864247207,17613222154834848340,5953359166732830163,18101783494082082527,4334401890000744311,12020253756985099128,4340673293219707767,6325675986683464353,11280630913190679075,11449968299874610285,12524954882073270795,13813618637161013713,2759284407945088205,10388488172074580225,12325864989022198202,10842938092177581297,3652199383789512132,987426779421491659,12408111787983249662,13913613514976480042,5449563278759341024,694261584828832409,4267111383703672358,11384182702204212275,12826555694032677247,4480162626587320490,10236332898609347644,10312438410070409164,8274446707539698164,5137589814051832496,12360917755211006479,17170472223608059050,16116027297012810434,6690350156832105676,6858818405166986180,16248296213531012650,13367274342830030513,6900931685637148767,7520747337044880989,14329579894275425762,9104974531708491489,9947508896943372755,991626836265849350,16615150188913437886,14154597600763967237,5000232492035539693,1532491051758110099,10146569101766770184,17592209452093105858,12315944733273679750,15475723433398761304,1835071406663858368,2015444344454546412,6124413428159637790,2846267367221353805,13082796549270168242,13601115934706021691,15240619367488684849,12936088452001202715,17590705303994421779,6984818610989830729,18105302477358141223,13307065042914920193,9358312197846296583,15565715512253457277,7921390202802761869,6278996535519779258,16756451883985382160,16860917588515726111,7937976987201723653,11738243743197964597,12843764043397292189,18418582437962087742,14196522196718054806,11513857634932158529,11824586356888161845,13953587524928339648,1607123104830579860,14671739901194505220,8374155422468719031,11898673842065290130,16839002366802243188,17518593693041627797,2275282789119773048,1378205811072252300,9116068151291705539,10538165733446703262,8412748745612879247,7943549864190904611,14935156969734317764,17464319187374939960,15577281813014381367,1956260828630720203,15251835097244881130,2400638427578300857,12876709506271813870,11066385474520676512,11263768400469242888,3604082896382514872,4849480874435393781,12091442091272426231,12727641955093265886,16035376269474964883,2813801546833155447,4449799235075362730,7501186508268903616,2295934692909999376,17659185236578331656,5498123283257192965,11863963456291920697,9919008367099125623,1717767836212652739,14074196154385387334,14172470266813156586,11272164335830466941,7764699552788554220,11421057715548341654,15214748959534726111,1941844328875101383,5483103596317574428,10310341975313369176,8185220541750880888,9678289623588505577,429539710256275620,13069393092227542028,6542358382571353910,727924238349540522,140236481695663071,16670775579421159206,7403982271040965895,4490611911172417597,10161179621583223854,2353497105660221152,6508132753307246276,14564479935002850509,12773500944031208451,16053306600634468012,1402340071739887797,13384656265869573321,10576836333797772347,16109456028575089023,5537553045615171315,15042883488752021643,14935467056822913822,1630143524128594353,2692750590507578028,10698057553749749337,11402884983299125971,17980500129456985241,17013487888433625170,10611411778653204182,17187875760726034783,14284835775768690865,4804111812005502284,4704452742865826424,11267315532378154396,12132596417379514657,13385558918117058561,8115137120850386438,354308444213283272,16925712312323332580,9433028549170029634,2931988195819169919,9768418358887946270,7509565986652818475,1474264761786122189,5344687154915797982,8924819469995637033,2078950565319712143,13813548295540068894,15870398105094248349,5221592684559293012,3233987462203235646,2399617604181995578,360634875079729221,10026605065719503897,11434409910335936926,7007286002206832825,12250869413391326473,14202271707224943307,4993863958327201973,12125097214300078407,9530734954097333506,11151835277377553703]
#check [4561898282857576226,13298828918039433023,8909772338491405060,12747814925858328940,16859961878692490766,6056707288978253535,4598271963242535575,523537741815420091,9381626543082597023,17312402878845073609,12930229547647579594,6229817132586351632,4860023922305330110,6549852094080907030,12903330217458380548,11219443903484984970,9977182230042388008,938635154573522699,9510108024173832781,431221854992830470,10159399881129095643,14441679199631801671,13831308528885131752,8521684928402303493,2741014181512449073,17817366049700826239,16728255500844073214,4015202173357781934,14170518179582410385,18328257000508772394,15433366417846715934,5239429619861171699,9536688357841153863,10859743581388371069,13996866031312336078,3433779192033484610,5342471268416680606,13484562703626004877,9879335643197240621,14398111036562950334,13465540834166320765,13142635158332540280,2997480634906808460,15590096980072825465,2132029292895624192,6828597562223498359,5920806927976990809,7933485763601977624,5960047855520388891,4903002758410956813,11076892268299887525,12768989823518198380,8737599933303070863,443766864951011646,9950792792127014553,13872120688422071045,14560624547652848805,615563214671542189,9201617497623189827,8739830900816887780,16212330677787901120,18333273249017474000,16955839230299176341,8356303796347215682,14904681115217272601,3713540243193553862,13135312941875745310,13946496683202179788,11823594873375168262,3238445694619138142,8222940686941784037,17963105932079019327,5467331546851215429,2570914705882880060,643336161829623379,5812350808301622050,10374632558016547081,17184031218471190783,140001813534094272,11525993766095887173,3543459598558145280,8757050672659960515,16723463757517087524,6597789921013551971,6973427100653255629,4309217394794523951,8834805137890396735,6657536258744368796,10956520680868813917,12528533614272120300,14036186469904095446,17558320327384617127,3374319085511977134,4971374062829452455,7557421358154311045,5816495043963226922,7322748291113730364,5890639436620234070,18335596039185421423,7485256538410118956,87601786513091389,1401067106901849026,12468840222048715292,14710976976299594304,13459084325293418506,2333531293284704758,13855379610559885079,2641800013201688601,16151628708876355199,10479991185640055810,5072417060200589145,1142673529048489019,2546767868308347339,699815216081779126,4341293187932698999,14938211915633500526,4051853165826885262,6172094611929405055,17916429707943930468,13937768818610491111,1998347030407657756,14904287247971174143,16132249320637822498,4321966507151631593,7001957589650049515,12314708539913122752,1708089923452030704,18095796173783872564,2474200967059427378,12091130801917272685,12669407529647801677,8122695690928665766,10911716485165742097,1804834754348979943,15036080040530398195,506581581156960101,11215392098479208961,11095110211248682772,547895379624588593,6030501089693204938,16626521671886133394,13885670934486923800,12884060626414724322,3419001889969749887,16260866306193365299,16607193741793207195,5462360663327728810,1495895850433845275,15764947353670896545,4607425872040536859,14387916025512776202,628631919661052299,2629151800749243262,15969335453137586327,609457278022895560,8972062959192195235,12681666616541194006,13705283562680751584,2424988045566436242,3335794202401238526,3328118118096588273,6714880395473160397,14520296925931582552,12738610918357793766,12542895121996172375,10258873121960336067,3831019782443316194,16247262843940693239,18004296560267143027,11368310244458860372,15771247859494662083,9320515035125037321,10149570385669482864,17760279517084355780,17188069144378779261,12099505692703838030,11308061921803828041,866652123128751154,8908233856664302321,3581434408401558974,211337195705725219,8760152093665844161,11161164713144168021,15593559885672580101,12549542988036985293,17360015989920007124,16140922888777852060,10510056951384868246,11063759124802658401,3897268976836264337,6331431999304432861,446995266069924076,7837367980739423823,15012102849882553082,15052318979288761249,14334995849660946996,2925816871977632210,14454166528178196959,8166255043249204926,17163426234232328066]
#check [11033627544408312984,16101134707931498060,2135409205425526673,13032259773685033708,5634867526602368427,8176730645128964420,4938610541543285704,17348111734160510231,18367749455379333440,18400553757987027518,7249310025045793396,15978794797337165890,14617222483516278133,17351735930882485243,16412085850373738351,209982475168477708,11468729153070441980,15326580083554890809,15142666989864626641,7050804516273991350,10988764466652934233,13439652990877377571]
end PySem.W.Fast
set_option maxHeartbeats 0 in
open_top hd for PySem.Challenge.rw_loanroll_k72_whole_the_kinder_owes_less
local macro_rules | `(tactic| walk_at "o") => `(tactic| first | lia | omega)
local macro_rules | `(tactic| ac_rfl)=>`(tactic| walk_at "o")
open List renaming getElem?_eq_getElem→yaa,length_map→yab,getElem?_eq_some_iff→yac,length_append→yad,getD_eq_getElem?_getD→yae,mem_map→yaf,mem_append→yag,mem_of_getElem?→yah,mem_append_right→yai,getElem?_map→yaj,mem_cons_of_mem→yak,mem_cons→yal,mem_cons_self→yam,map_append→yan,size_toArray→yao,mem_filter→yap,length_take→yaq,range→yar,getElem?_eq_none→yas,filter_cons_of_pos→yat,filter_cons_of_neg→yau,length_filter_le→yav,take_of_length_le→yaw,length_cons→yax,mem_map_of_mem→yay,mem_iff_getElem→yaz,mem_singleton→yba,map_cons→ybb,filter_append→ybc,pairwise_iff_getElem→ybd,take_add_one→ybe,filterMap_cons→ybf,mem_append_left→ybg,foldl_cons→ybh,pairwise_map→ybi,mem_iff_getElem?→ybj,getElem?_append_right→ybk,append_nil→ybl,nodup_cons→ybm,map_map→ybn,toArray→ybo,any_eq_true→ybp,pairwise_append→ybq,pairwise_cons→ybr,getElem?_append_left→ybs,length_drop→ybt,map_congr_left→ybu,length_singleton→ybv,pairwise_singleton→ybw,not_mem_nil→ybx,find?_cons_of_pos→yby,find?_cons_of_neg→ybz,findIdx?_eq_some_iff_getElem→yca,append_assoc→ycb,forIn_cons→ycc,eraseIdx_eq_take_drop_succ→ycd,lookup→yce,ext_getElem?→ycf,length_range→ycg,foldl_append→ych,filter_eq_nil_iff→yci,getElem_mem→ycj,take_length→yck,mem_range→ycl,length_eraseIdx_of_lt→ycm,findIdx?_eq_none_iff→ycn,nodup_append→yco,getElem?_zip_eq_some→ycp,length_erase_of_mem→ycq,getElem?_range→ycr,length_pos_of_mem→ycs,any_cons→yct,take_append_drop→ycu,mem_erase_of_ne→ycv,filter_cons→ycw,getElem_map→ycx,all_eq_true→ycy,toList_toArray→ycz,range_succ→yda,find?_eq_none→ydb
open Nat renaming le_refl→ydc,ne_of_lt→ydd,lt_of_le_of_lt→yde,zero_le→ydf,lt_of_lt_of_le→ydg,le_trans→ydh,lt_succ_self→ydi,lt_irrefl→ydj,lt_trichotomy→ydk,ne_of_gt→ydl,lt_succ_of_lt→ydm,lt_trans→ydn,le_succ→ydo,le_of_lt→ydp,not_lt_zero→ydq,sub_self→ydr,zero_add→yds
open PySem.Heap renaming get?_push_of_some→ydt,lt_size→ydu,get?_push_size→ydv,get?_update_ne→ydw,size_push→ydx,get?_update_self→ydy,get?_none_of_le→ydz
open Int renaming le_refl→yea,emod_nonneg→yeb,emod_lt_of_pos→yec,mul_nonneg→yed,le_trans→yee,ediv_le_ediv→yef,zero_add→yeg,toNat_natCast→yeh,lt_trichotomy→yei,mul_add→yej,mul_zero→yek
open Array renaming length_toList→yel,getElem?_eq_getElem→yem,getD_eq_getD_getElem?→yen,forIn_toList→yeo,getElem?_toList→yep,getD→yeq,size_map→yer
namespace L2
open PySem PySem.Spec PyProof.Rows
noncomputable abbrev Key:=Sum Int Str
noncomputable def zvw:Key->Value->Bool
 | .inl k,v=>Value.isInt k v
 | .inr x,v=>Value.isStrOf x v
noncomputable def zye (w:World):Key->Int
 | .inl k=>hashInt k
 | .inr x=>hashStr w x
theorem za9:∀ {k:Key} {v:Value},zvw k v=true->(∃ i t,k=Sum.inl i/\v=Value.int i t)\/(∃ x t,k=Sum.inr x/\v=Value.str x t)
 | .inl i,v,h=>by
  obtain ⟨t,e⟩:=Value.isInt_shape (k:=i) (v:=v) h
  exact .inl ⟨i,t,rfl,e⟩
 | .inr x,v,h=>by
  obtain ⟨t,e⟩:=Value.isStrOf_shape (x:=x) (v:=v) h
  exact .inr ⟨x,t,rfl,e⟩
theorem zwP (a b:Int):decide ((Sum.inl a:Key)=Sum.inl b)=(a == b):=by
 by_cases e:a=b
 ·subst e;simp
 ·have h:¬ (Sum.inl a:Key)=Sum.inl b:=fun q=>e (Sum.inl.inj q)
  rw[decide_eq_false h]
  exact (beq_eq_false_iff_ne.mpr e).symm
theorem zwp (a b:Str):decide ((Sum.inr a:Key)=Sum.inr b)=decide (a=b):=by
 by_cases e:a=b
 ·subst e;simp
 ·have h:¬ (Sum.inr a:Key)=Sum.inr b:=fun q=>e (Sum.inr.inj q)
  rw[decide_eq_false h,decide_eq_false e]
theorem zwN (a:Int) (b:Str):decide ((Sum.inl a:Key)=Sum.inr b)=false:=decide_eq_false (fun q=>nomatch q)
theorem zw6 (a:Str) (b:Int):decide ((Sum.inr a:Key)=Sum.inl b)=false:=decide_eq_false (fun q=>nomatch q)
noncomputable def zwa (prog:Program) (w:World):PySem.KeyKind prog w Key where
 is:=zvw
 hash:=zye w
 inj:=fun v a b ha hb=>by
  rcases za9 ha with ⟨i,t,rfl,rfl⟩ | ⟨x,t,rfl,rfl⟩
  ·rcases za9 hb with ⟨j,u,rfl,e⟩ | ⟨y,u,rfl,e⟩
   ·injection e with e1 _;rw[e1]
   ·exact nomatch e
  ·rcases za9 hb with ⟨j,u,rfl,e⟩ | ⟨y,u,rfl,e⟩
   ·exact nomatch e
   ·injection e with e1 _;rw[e1]
 byValue:=fun k v h=>by
  rcases za9 h with ⟨i,t,rfl,rfl⟩ | ⟨x,t,rfl,rfl⟩ <;> rfl
 pyHash:=fun hv h=>by
  rcases za9 hv with ⟨i,t,rfl,rfl⟩ | ⟨x,t,rfl,rfl⟩
  ·exact wpAny_pyHash_int h
  ·exact wpAny_pyHash_str h
 eqBool:=fun hu hv h=>by
  rcases za9 hu with ⟨i,t,rfl,rfl⟩ | ⟨x,t,rfl,rfl⟩
  ·rcases za9 hv with ⟨j,u,rfl,rfl⟩ | ⟨y,u,rfl,rfl⟩
   ·rw[zwP] at h;exact wpAny_eqBool_int h
   ·rw[zwN] at h;exact SeqAt.EqAt.int_str i t y u _ _ _ _ h
  ·rcases za9 hv with ⟨j,u,rfl,rfl⟩ | ⟨y,u,rfl,rfl⟩
   ·rw[zw6] at h;exact SeqAt.EqAt.str_int x t j u _ _ _ _ h
   ·rw[zwp] at h;exact wpAny_eqBool_str h
 «strs»:=fun k x t v h=>by
  rcases za9 h with ⟨i,u,rfl,e⟩ | ⟨y,u,rfl,e⟩
  ·exact nomatch e
  ·injection e with e1 _
   subst e1
   cases v <;> rfl
inductive V where
 | non | bl (b:Bool) | int (i:Int) | str (x:Str) | byt (b:Array UInt8) | flt (b:UInt64) | ref (a:Addr) | ty (n:String)
 deriving DecidableEq
noncomputable def RelV:V->Value->Prop
 | .non,u=>u=Value.none
 | .bl b,u=>u=Value.bool b
 | .int i,u=>∃ t,u=Value.int i t
 | .str x,u=>∃ t,u=Value.str x t
 | .byt b,u=>∃ t,u=Value.bytes b t
 | .flt b,u=>∃ t,u=Value.float b t
 | .ref a,u=>u=Value.ref a
 | .ty n,u=>u=Value.type n
noncomputable abbrev Vals:List V->List Value->Prop:=Paired RelV
theorem Vals.length {xs:List V} {us:List Value} (r:Vals xs us):xs.length=us.length:=Paired.length r
theorem Vals.get:∀ {xs:List V} {us:List Value} {i:Nat} {x:V},Vals xs us->xs[i]?=some x->∃ u,us[i]?=some u/\RelV x u
 | _,_,_,_,.nil,e=>by simp at e
 | _,_,0,_,.cons r _,e=>by simp at e;subst e;exact ⟨_,rfl,r⟩
 | _,_,i+1,x,.cons _ t,e=>by
  obtain ⟨u,h1,h2⟩:=Vals.get (i:=i) (x:=x) t (by simpa using e)
  exact ⟨u,by simpa using h1,h2⟩
theorem Vals.set {x:V} {u:Value} (r:RelV x u):∀ {xs:List V} {us:List Value} (i:Nat),Vals xs us->Vals (xs.set i x) (us.set i u)
 | _,_,_,.nil=>.nil
 | _,_,0,.cons _ t=>.cons r t
 | _,_,i+1,.cons q t=>.cons q (Vals.set r i t)
theorem Vals.append:∀ {xs ys:List V} {us ws:List Value},Vals xs us->Vals ys ws->Vals (xs++ys) (us++ws)
 | _,_,_,_,.nil,s=>s
 | _,_,_,_,.cons r t,s=>.cons r (Vals.append t s)
theorem Vals.take:∀ {xs:List V} {us:List Value} (n:Nat),Vals xs us->Vals (xs.take n) (us.take n)
 | _,_,0,_=>.nil
 | _,_,_+1,.nil=>.nil
 | _,_,n+1,.cons r t=>.cons r (Vals.take n t)
theorem Vals.drop:∀ {xs:List V} {us:List Value} (n:Nat),Vals xs us->Vals (xs.drop n) (us.drop n)
 | _,_,0,r=>r
 | _,_,_+1,.nil=>.nil
 | _,_,n+1,.cons _ t=>Vals.drop n t
noncomputable def zia:Option V->Option Value->Prop
 | some v,some u=>RelV v u
 | none,none=>True
 | _,_=>False
noncomputable def KV {κ:Type}:List (κ × V)->List (κ × Value)->Prop:=Paired fun (p:κ × V) (q:κ × Value)=>p.1=q.1/\RelV p.2 q.2
inductive HO where
 /-- a list -/
 | lst (xs:List V)
 /-- a tuple (never changes) -/
 | tup (xs:List V)
 /-- a dict whose keys are ints and texts;one whose keys are tuples of ints and texts (the empty one is both) -/
 | dK (kvs:List (Key × V))
 /-- a set of ints: its members,its size -/
 | set (S:Int->Bool) (n:Nat)
 /-- an instance of the class at C,its dict at dx,its attributes -/
 | ins (C dx:Addr) (fs:List (Str × V))
 /-- the dict of the instance at x -/
 | own (x:Addr)
 /-- the dict of an exception -/
 | xd (fs:List (Str × V))
 /-- a bound method,f of x -/
 | met (f x:Addr)
 /-- a range object lo,lo+1,.. below hi -/
 | rng (lo hi:Int)
 /-- a thing that is known to the object (the script;a dict while a loop walks it): read,never written while it is so -/
 | frz (o:Obj) (u:HO)
 /-- a code object's table -/
 | tbl (ps:Array Value)
 /-- any other thing,by what is true of its one object (a def of one's own: zmS a S n:=HO.ext fun h=>..) -/
 | ext (φ:Heap->Prop)
noncomputable abbrev Hp:=Addr->Option HO
noncomputable def upd (H:Hp) (a:Addr) (o:HO):Hp:=fun b=>if b=a then some o else H b
theorem zf {H:Hp} {a:Addr} {o:HO}:upd H a o a=some o:=by unfold upd;rw[if_pos rfl]
theorem zx {H:Hp} {a b:Addr} {o:HO} (h:b≠a):upd H a o b=H b:=by unfold upd;rw[if_neg h]
theorem zX {H:Hp} {a:Addr} {o u:HO}:upd (upd H a o) a u=upd H a u:=by
 funext b;unfold upd;split <;> rfl
theorem zaW {H:Hp} {a b:Addr} {o u:HO} (h:H a=some o) (h':H b=some u) (d:o≠u):a≠b:=by
 intro e;subst e;rw[h] at h';exact d (Option.some.inj h')
theorem zZ {H:Hp} {a b:Addr} {o:HO} (h:H a=some o) (h':H b=none):a≠b:=by
 intro e;subst e;rw[h] at h';cases h'
section
variable (P:Program) (w:World)
noncomputable def zas (H:Hp) (h:Heap) (a:Addr):HO->Prop
 | .lst xs=>xs.length<=sizeLine/\∃ (its:List Value) (n:Nat),Vals xs its/\h.get? a=some { cls:=.type "list", data:=.seq its.toArray n }
 | .tup xs=>xs.length<=sizeLine/\∃ its:List Value,Vals xs its/\IsTup h a its.toArray
 | .dK kvs=>kvs.length<=sizeLine/\(a == sysModules)=false/\∃ vs,KV kvs vs/\h.DictOf (zwa P w) a vs
 | .set S n=>h.SetOf (intKind P w) a S n
 | .ins C dx fs=>H dx=some (.own a)/\fs.length<=1000/\dx≠a/\h.get? a=some (PySem.W.instObj C dx) /\
   ∃ mA,h.Ns1 dx mA/\(∀ f,zia (fs.lookup f) (mA f))/\PySem.Within mA (fs.map (·.1))
 | .own _=>∃ o,h.get? a=some o
 | .xd fs=>∃ mA,h.Ns1 a mA/\∀ f,zia (fs.lookup f) (mA f)
 | .rng lo hi=>∃ t u v,h.get? a=some { cls:=.type "range", data:=.fields #[.int lo t,.int hi u,.int 1 v] }
 | .frz o u=>h.get? a=some o/\zas H h a u
 | .tbl ps=>h.get? a=some { cls:=.none,data:=.fields ps }
 | .met f x=>h.get? a=some (PySem.W.methodObj (.ref f) (.ref x))
 | .ext φ=>φ h/\(∃ o,h.get? a=some o)/\∀ h1 h2:Heap,φ h1->(∀ o,h1.get? a=some o->h2.get? a=some o)->φ h2
def HOk (H:Hp) (h:Heap):Prop:=∀ a o,H a=some o->zas P w H h a o
end
section
variable {P:Program} {w:World} {H H':Hp} {h h':Heap} {a:Addr} {o:HO}
theorem zas.lt (x:zas P w H h a o):a<h.objs.size:=by
 cases o with
 | lst xs=>obtain ⟨_,_,_,_,e⟩:=x;exact ydu e
 | tup xs=>obtain ⟨_,_,_,p⟩:=x;exact p.lt
 | dK kvs=>obtain ⟨_,_,_,_,o,_,_,e,_⟩:=x;exact ydu e
 | set S n=>obtain ⟨o,_,_,_,e,_⟩:=x;exact ydu e
 | ins C dx fs=>obtain ⟨_,_,_,e,_⟩:=x;exact ydu e
 | own y=>obtain ⟨_,e⟩:=x;exact ydu e
 | xd fs=>obtain ⟨_,⟨_,_,_,e,_⟩,_⟩:=x;exact ydu e
 | rng lo hi=>obtain ⟨_,_,_,e⟩:=x;exact ydu e
 | frz ob u=>obtain ⟨e,_⟩:=x;exact ydu e
 | tbl ps=>exact ydu (show h.get? a=some _ from x)
 | met f y=>exact ydu (show h.get? a=some _ from x)
 | ext φ=>obtain ⟨_,⟨_,e⟩,_⟩:=x;exact ydu e
theorem zas.stay (x:zas P w H h a o) (k:∀ b u,(b=a\/H b=some (.own a))->h.get? b=some u->h'.get? b=some u)
  (ho:∀ b,H b=some (.own a)->H' b=some (.own a)) (ht:∀ b xs,H b=some (.tup xs)->H' b=some (.tup xs)):zas P w H' h' a o:=by
 induction o with
 | lst xs=>obtain ⟨z,its,n,r,e⟩:=x;exact ⟨z,its,n,r,k _ _ (.inl rfl) e⟩
 | tup xs=>obtain ⟨z,its,r,ob,e,c⟩:=x;exact ⟨z,its,r,ob,k _ _ (.inl rfl) e,c⟩
 | dK kvs=>obtain ⟨z,y,vs,r,ob,es,ep,e,c⟩:=x;exact ⟨z,y,vs,r,ob,es,ep,k _ _ (.inl rfl) e,c⟩
 | set S n=>obtain ⟨ob,es,ep,t,e,c⟩:=x;exact ⟨ob,es,ep,t,k _ _ (.inl rfl) e,c⟩
 | ins C dx fs =>
  obtain ⟨d,z,ne,e,mA,⟨od,es,ep,e2,c⟩,r⟩:=x
  exact ⟨ho _ d,z,ne,k _ _ (.inl rfl) e,mA,⟨od,es,ep,k _ _ (.inr d) e2,c⟩,r⟩
 | own y=>obtain ⟨ob,e⟩:=x;exact ⟨ob,k _ _ (.inl rfl) e⟩
 | xd fs=>obtain ⟨mA,⟨od,es,ep,e,c⟩,r⟩:=x;exact ⟨mA,⟨od,es,ep,k _ _ (.inl rfl) e,c⟩,r⟩
 | rng lo hi=>obtain ⟨t,u,v,e⟩:=x;exact ⟨t,u,v,k _ _ (.inl rfl) e⟩
 | frz ob u ih=>obtain ⟨e,q⟩:=x;exact ⟨k _ _ (.inl rfl) e,ih q⟩
 | tbl ps =>
  have e:h.get? a=some { cls:=.none,data:=.fields ps }:=x
  show h'.get? a=some { cls:=.none,data:=.fields ps }
  exact k a _ (.inl rfl) e
 | met f y =>
  have e:h.get? a=some (PySem.W.methodObj (.ref f) (.ref y)):=x
  show h'.get? a=some (PySem.W.methodObj (.ref f) (.ref y))
  exact k a _ (.inl rfl) e
 | ext φ=>obtain ⟨p,⟨o,e⟩,st⟩:=x;exact ⟨st _ _ p fun o q=>k _ _ (.inl rfl) q,⟨o,k _ _ (.inl rfl) e⟩,st⟩
theorem HOk.lt (x:HOk P w H h) (e:H a=some o):a<h.objs.size:=(x a o e).lt
theorem HOk.fresh (x:HOk P w H h) (e:h.objs.size<=a):H a=none:=by
 cases q:H a with
 | none=>rfl
 | some u=>exact absurd (ydg (x.lt q) e) (ydj _)
theorem HOk.kept (x:HOk P w H h) (k:∀ b u,h.get? b=some u->h'.get? b=some u):HOk P w H h':=fun a o e =>
 (x a o e).stay (fun b u _ q=>k b u q) (fun _ q=>q) fun _ _ q=>q
theorem HOk.laid (x:HOk P w H h) (k:∀ b u,h.get? b=some u->h'.get? b=some u) (hp:h.objs.size<=a) (new:zas P w (upd H a o) h' a o):HOk P w (upd H a o) h':=fun b u e=>by
 have hn:=x.fresh hp
 by_cases hb:b=a
 ·subst hb;rw[zf] at e;cases e;exact new
 ·rw[zx hb] at e
  exact (x b u e).stay (fun c v _ q=>k c v q) (fun c q=>by rw[zx (zZ q hn)];exact q) fun c xs q=>by rw[zx (zZ q hn)];exact q
end
def Rd (H:Hp) (a:Addr) (u:HO):Prop:=H a=some u\/∃ o,H a=some (.frz o u)
theorem Rd.ok {P:Program} {w:World} {H:Hp} {h:Heap} {a:Addr} {u:HO} (r:Rd H a u) (x:HOk P w H h):zas P w H h a u:=by
 rcases r with r | ⟨o,r⟩
 ·exact x a u r
 ·obtain ⟨_,q⟩:=x a _ r
  exact q
noncomputable def Mut:Option HO->Prop
 | some (.lst _)=>True
 | some (.dK _)=>True
 | some (.set _ _)=>True
 | some (.ins _ _ _)=>True
 | some (.ext _)=>True
 | _=>False
section
variable {P:Program} {w:World} {H:Hp} {h h':Heap} {x e:Addr} {o':HO}
theorem HOk.write (ok:HOk P w H h) (mu:Mut (H x)) (he:e=x\/H e=some (.own x)) (k:∀ b u,b≠e->h.get? b=some u->h'.get? b=some u) (heo:∃ u,h'.get? e=some u)
  (new:zas P w (upd H x o') h' x o'):HOk P w (upd H x o') h':=fun b u q=>by
 have nown:∀ c y,H c=some (.own y)->c≠x:=fun c y r z=>by subst z;rw[r] at mu;exact mu
 have ntup:∀ c xs,H c=some (.tup xs)->c≠x:=fun c xs r z=>by subst z;rw[r] at mu;exact mu
 by_cases hb:b=x
 ·subst hb;rw[zf] at q;cases q;exact new
 ·rw[zx hb] at q
  by_cases hbe:b=e
  ·have q':H b=some (.own x):=by
    rcases he with z | z
    ·exact absurd (hbe.trans z) hb
    ·rw[hbe];exact z
   rw[q] at q';cases q'
   obtain ⟨v,hv⟩:=heo
   exact ⟨v,by rw[hbe];exact hv⟩
  ·refine (ok b u q).stay (fun c v hc r=>k c v ?_ r) (fun c r=>by rw[zx (nown c b r)];exact r) fun c xs r=>by rw[zx (ntup c xs r)];exact r
   rcases hc with rfl | hc
   ·exact hbe
   ·rintro rfl
    rcases he with z | z
    ·exact nown c b hc z
    ·rw[hc] at z;cases z;exact hb rfl
end
set_option genInjectivity false
structure Un (fs ex:List Addr) (H H':Hp) (h h':Heap):Prop where
 keep:∀ b o,h.get? b=some o->H b=none->b ∉ fs->b ∉ ex->h'.get? b=some o
 slot:∀ b o,h.get? b=some o->H b=none->b∈fs->b ∉ ex->∃ sl,h'.get? b=some { o with slots:=sl }
 free:∀ b o,h.get? b=some o->H b=none->b ∉ ex->H' b=none
 there:∀ b o,h.get? b=some o->b ∉ ex->∃ o',h'.get? b=some o'
 tups:∀ b xs,H b=some (.tup xs)->H' b=some (.tup xs)
 frzs:∀ b o u,H b=some (.frz o u)->H' b=some (.frz o u)
 tbls:∀ b ps,H b=some (.tbl ps)->∃ more,H' b=some (.tbl (ps++more))
section
variable {fs fs' ex ex':List Addr} {H H1 H2:Hp} {h h1 h2 h':Heap} {a x e:Addr} {o:HO}
theorem Un.any (u:Un fs ex H H1 h h1) {b:Addr} {ob:Obj} (q:h.get? b=some ob) (n:H b=none) (hx:b ∉ ex):∃ sl,h1.get? b=some { ob with slots:=sl }:=by
 by_cases hb:b∈fs
 ·exact u.slot b ob q n hb hx
 ·exact ⟨ob.slots,u.keep b ob q n hb hx⟩
theorem Un.kept (k:∀ b u,h.get? b=some u->h'.get? b=some u):Un fs ex H H h h' :=
 ⟨fun b ob q _ _ _=>k b ob q,fun b ob q _ _ _=>⟨ob.slots,k b ob q⟩,fun _ _ _ n _=>n,fun b ob q _=>⟨ob,k b ob q⟩,fun _ _ q=>q,fun _ _ _ q=>q,fun _ ps q=>⟨#[],by rw[q];simp⟩⟩
theorem Un.refl:Un fs ex H H h h:=Un.kept fun _ _ q=>q
theorem Un.laid (k:∀ b u,h.get? b=some u->h'.get? b=some u) (hp:h.objs.size<=a) (hn:H a=none):Un fs ex H (upd H a o) h h' where
 keep:=fun b u q _ _ _=>k b u q
 slot:=fun b u q _ _ _=>⟨u.slots,k b u q⟩
 free:=fun b u q n _=>by rw[zx (ydd (ydg (ydu q) hp))];exact n
 there:=fun b u q _=>⟨u,k b u q⟩
 tups:=fun b xs q=>by rw[zx (zZ q hn)];exact q
 frzs:=fun b u xs q=>by rw[zx (zZ q hn)];exact q
 tbls:=fun b ps q=>⟨#[],by rw[zx (zZ q hn),q];simp⟩
theorem Un.write (mu:Mut (H x)) (he:e=x\/H e=some (.own x)) (k:∀ b u,b≠e->h.get? b=some u->h'.get? b=some u) (heo:∃ u,h'.get? e=some u):Un fs ex H (upd H x o) h h':=by
 have hx:∀ b,H b=none->b≠x:=fun b n z=>by subst z;rw[n] at mu;exact mu
 have hb:∀ b,H b=none->b≠e:=fun b n z=>by
  subst z
  rcases he with r | r
  ·exact hx b n r
  ·rw[n] at r;cases r
 have hm:∀ b u,H b=some u->¬ Mut (some u)->b≠x:=fun b u q nm z=>by subst z;rw[q] at mu;exact nm mu
 refine ⟨fun b u q n _ _=>k b u (hb b n) q,fun b u q n _ _=>⟨u.slots,k b u (hb b n) q⟩,fun b u q n _=>by rw[zx (hx b n)];exact n,fun b u q _=>?_,
  fun b xs q=>by rw[zx (hm b _ q fun z=>z)];exact q,fun b u xs q=>by rw[zx (hm b _ q fun z=>z)];exact q,fun b ps q=>⟨#[],by rw[zx (hm b _ q fun z=>z),q];simp⟩⟩
 by_cases hbe:b=e
 ·subst hbe;exact heo
 ·exact ⟨u,k b u hbe q⟩
end
noncomputable def trk (h:Heap) (H:Hp):List Addr:=(yar h.objs.size).filter fun a=>(H a).isSome
noncomputable def zi8 (h:Heap) (H:Hp):Heap:=PySem.W.hideAll h (trk h H)
theorem ztf (h:Heap) (H:Hp):(zi8 h H).objs.size=h.objs.size:=PySem.W.hideAll_size _ _
theorem zuO {h:Heap} {H:Hp} {b:Addr} {o:Obj} (e:h.get? b=some o) (n:H b=none):(zi8 h H).get? b=some o :=
 PySem.W.hideAll_get _ e fun hm=>by
  have q:(H b).isSome=true:=(yap.mp hm).2
  rw[n] at q;simp at q
theorem zwb {h:Heap} {H:Hp} {b:Addr} {o:Obj} (e:(zi8 h H).get? b=some o):h.get? b=some o/\H b=none:=by
 have e':h.get? b=some o:=PySem.W.of_hideAll (trk h H) e
 refine ⟨e',?_⟩
 cases q:H b with
 | none=>rfl
 | some x =>
  have hm:b∈trk h H:=yap.mpr ⟨ycl.mpr (ydu e'),by simp[q]⟩
  have z:(zi8 h H).get? b=none:=PySem.W.hideAll_none (trk h H) hm
  rw[z] at e;cases e
noncomputable def zwc (g h:Heap) (L:Addr):List (Addr × Obj):=(yar h.objs.size).filterMap fun a=>if a=L\/(g.get? a).isSome=true then none else (h.get? a).map fun o=>(a,o)
noncomputable def rest (g h:Heap) (L d:Addr):List (Addr × Obj):=(zwc g h L).filter fun p=>decide (p.1≠d)
structure Mod (K:W.Frag) (mg:Str->Option Value) (base:Heap):Prop where
 kin:K.In base
 glob:base.Ns mainGlobals mg
 blt:∃ mb,base.Ns builtinsNs mb/\∀ x:Str,x ≠ "__name__" -> mb x=bootBuiltins x
 nolimit:base.NoLimit
structure Cx where
 prog:Program
 w:World
 K:W.Frag
 mg:Str->Option Value
 base:Heap
 A:Around
 N:List Str
 s₀:Shared
 H₀:Hp
 env:Env
 outer:List Env
 stack:List Env
 ex:List Addr
 fn:Str->Bool
 calm:Bool
 pn:List (Addr × Obj)
 xe:Value->Shared->Prop
noncomputable def frs (l:List Env):List Addr:=l.filterMap (·.frame)
noncomputable abbrev Cx.fs (X:Cx):List Addr:=frs X.outer
def Vis (sc:Scope) (x:Str):Prop:=sc.names.lookup x=some .local\/sc.names.lookup x=some .cell\/sc.names.lookup x=some .free
def Loc (sc:Scope) (x:Str):Prop:=sc.names.lookup x=some .local\/sc.names.lookup x=some .cell
def Look (env:Env) (h:Heap) (m:Str->Option Value) (x:Str) (u:Value):Prop :=
 (env.kindOf x=some .local/\m x=some u)\/((env.kindOf x=some .cell\/env.kindOf x=some .free)/\∃ c,env.cells.lookup x=some c/\h.IsCell c (some u))
structure Cx.Ok (X:Cx):Prop where
 mod:Mod X.K X.mg X.base
 kind:X.env.scope.kind=.function
 glob:X.env.globals=mainGlobals
 blt:X.env.builtins=builtinsNs
 above:X.s₀.heap.objs.size<=X.env.locals
 inj:∀ x y c,X.env.cells.lookup x=some c->X.env.cells.lookup y=some c->x=y
 has:∀ x,(X.env.kindOf x=some .cell\/X.env.kindOf x=some .free)->∃ c,X.env.cells.lookup x=some c
 cab:∀ x c,X.fn x=true->X.env.cells.lookup x=some c->X.s₀.heap.objs.size<=c
 hd:X.calm=true->X.A.handled=none
 frames:X.A.frames=some X.stack
 stk:X.stack=X.outer\/(X.stack=X.env::X.outer/\X.env.frame=some X.env.locals)
 exf:∀ b∈X.ex,b≠X.env.locals/\∀ x c,X.env.cells.lookup x=some c->c≠b
 bs:∀ b o,X.base.get? b=some o->X.s₀.heap.get? b=some o/\X.H₀ b=none
 bsz:X.base.objs.size<=X.s₀.heap.objs.size
 noex:∀ b o,X.base.get? b=some o->b ∉ X.ex
 exfs:∀ b∈X.ex,b ∉ X.fs
 funs:X.s₀.heap.FunFrames X.base X.outer
 frf:∀ b∈X.fs,X.H₀ b=none
structure Inv (X:Cx) (pins:List (Addr × Obj)) (σ:List (Option V)) (H:Hp) (s:Shared):Prop where
 ok:X.Ok
 os:s.os=X.s₀.os
 bare:AllBare s.gens
 base:Un X.fs X.ex X.H₀ H X.s₀.heap s.heap
 loc:∃ m,s.heap.Ns X.env.locals m/\∀ (i:Nat) (x:Str) (v:V),X.N[i]?=some x->σ[i]?=some (some v)->Vis X.env.scope x->∃ u,RelV v u/\Look X.env s.heap m x u
 cell:∀ x c,X.env.cells.lookup x=some c->∃ v,s.heap.IsCell c v
 free:H X.env.locals=none
 freeC:∀ x c,X.env.cells.lookup x=some c->H c=none
 pin:∀ p∈X.pn++pins,s.heap.get? p.1=some p.2/\H p.1=none/\p.1≠X.env.locals/\p.1 ∉ X.fs/\∀ v,p.2.data≠.cell v
 hok:HOk X.prog X.w H s.heap
 len:σ.length=X.N.length
section
variable {X:Cx} {pins:List (Addr × Obj)} {σ:List (Option V)} {H H':Hp} {s:Shared} {h':Heap}
theorem Cx.Ok.nofr (ok:X.Ok) {b:Addr} {o:Obj} (e:X.base.get? b=some o):b ∉ X.fs:=fun hb=>by
 have:=(ok.funs.mem hb).1
 rw[e] at this;cases this
theorem Inv.bs (I:Inv X pins σ H s):∀ b o,X.base.get? b=some o->s.heap.get? b=some o/\H b=none:=fun b o e =>
 ⟨I.base.keep b o (I.ok.bs b o e).1 (I.ok.bs b o e).2 (I.ok.nofr e) (I.ok.noex b o e),I.base.free b o (I.ok.bs b o e).1 (I.ok.bs b o e).2 (I.ok.noex b o e)⟩
theorem Inv.bk (I:Inv X pins σ H s):∀ b o,X.base.get? b=some o->s.heap.get? b=some o:=fun b o e=>(I.bs b o e).1
theorem Inv.mod (I:Inv X pins σ H s):Mod X.K X.mg X.base:=I.ok.mod
theorem Inv.kIn (I:Inv X pins σ H s):X.K.In s.heap:=I.ok.mod.kin.keeps I.bk
theorem Inv.lt (I:Inv X pins σ H s):X.env.locals<s.heap.objs.size:=let ⟨_,hn,_⟩:=I.loc;hn.lt
theorem Inv.sz (I:Inv X pins σ H s):X.s₀.heap.objs.size<=s.heap.objs.size:=ydh I.ok.above (ydp I.lt)
theorem Inv.nofs (I:Inv X pins σ H s) {a:Addr} (h:s.heap.objs.size<=a):a ∉ X.fs:=fun hb=>by
 obtain ⟨_,o,ho,_⟩:=I.ok.funs.mem hb
 exact absurd (ydg (ydu ho) (ydh I.sz h)) (ydj _)
theorem Inv.cne (I:Inv X pins σ H s):∀ x c,X.env.cells.lookup x=some c->c≠X.env.locals:=fun x c e z=>by
 obtain ⟨v,o,ho,hd⟩:=I.cell x c e
 obtain ⟨m,⟨o',es,ep,ho',hd',_⟩,_⟩:=I.loc
 rw[z,ho'] at ho;cases ho;rw[hd'] at hd;cases hd
theorem Inv.funs (I:Inv X pins σ H s):s.heap.FunFrames X.base X.outer:=by
 have all:∀ (l:List Env),(∀ b∈frs l,b∈X.fs)->X.s₀.heap.FunFrames X.base l->s.heap.FunFrames X.base l:=by
  intro l
  induction l with
  | nil=>intro _ _;trivial
  | cons env r ih =>
   intro hs hl
   obtain ⟨hk,⟨L,o,hf,hn,ho,hd⟩,hr⟩:=hl
   have hL:L∈X.fs:=hs L (by unfold frs;rw[ybf,hf];exact yam)
   obtain ⟨sl,e⟩:=I.base.slot L o ho (I.ok.frf L hL) hL fun z=>I.ok.exfs L z hL
   exact ⟨hk,⟨L,_,hf,hn,e,hd⟩,ih (fun b hb=>hs b (by unfold frs;rw[ybf,hf];exact yak _ hb)) hr⟩
 exact all X.outer (fun _ hb=>hb) I.ok.funs
theorem Inv.stack (I:Inv X pins σ H s):s.heap.FunFrames X.base X.stack:=by
 rcases I.ok.stk with e | ⟨e,hf⟩
 ·rw[e];exact I.funs
 ·rw[e]
  obtain ⟨m,hn,_⟩:=I.loc
  refine .cons (by rw[I.ok.kind];decide) hf hn ?_ I.funs
  exact ydz (ydh I.ok.bsz I.ok.above)
theorem Inv.ziu (I:Inv X pins σ H s):∀ b∈frs X.stack,b∈X.env.locals::X.fs:=fun b hb=>by
 rcases I.ok.stk with e | ⟨e,hf⟩
 ·rw[e] at hb;exact yak _ hb
 ·rw[e] at hb
  unfold frs at hb
  rw[ybf,hf] at hb
  exact hb
theorem Inv.zrw (I:Inv X pins σ H s):∀ b∈frs X.stack,H b=none:=fun b hb=>by
 rcases yal.mp (I.ziu b hb) with e | hb
 ·rw[e];exact I.free
 ·obtain ⟨_,o,ho,_⟩:=I.ok.funs.mem hb
  exact I.base.free b o ho (I.ok.frf b hb) fun z=>I.ok.exfs b z hb
theorem Inv.step {g':Array GenState} {t':Nat} {d':Drawn} {ch:List Addr} (I:Inv X pins σ H s)
  (hch:∀ b∈ch,(b∈X.ex\/X.s₀.heap.objs.size<=b)/\b≠X.env.locals/\(∀ x c,X.env.cells.lookup x=some c->c≠b)/\∀ p∈X.pn++pins,p.1≠b)
  (keep:∀ b o,b≠X.env.locals->b ∉ X.fs->b ∉ ch->s.heap.get? b=some o->H b=none->h'.get? b=some o)
  (slot:∀ b o,b≠X.env.locals->b∈X.fs->b ∉ ch->s.heap.get? b=some o->H b=none->∃ sl,h'.get? b=some { o with slots:=sl }) (free:∀ b o,b ∉ ch->s.heap.get? b=some o->H b=none->H' b=none)
  (there:∀ b o,b ∉ ch->s.heap.get? b=some o->∃ o',h'.get? b=some o')
  (tups:∀ b xs,H b=some (.tup xs)->H' b=some (.tup xs)) (frzs:∀ b o u,H b=some (.frz o u)->H' b=some (.frz o u)) (tbls:∀ b ps,H b=some (.tbl ps)->∃ more,H' b=some (.tbl (ps++more)))
  (ns:∀ m,s.heap.Ns X.env.locals m->h'.Ns X.env.locals m) (hok:HOk X.prog X.w H' h') (hg:AllBare g') :
  Inv X pins σ H' { s with heap:=h',gens:=g',drawn:=d',toks:=t' }:=by
 have neL:∀ b o,X.s₀.heap.get? b=some o->b≠X.env.locals:=fun b o e=>ydd (ydg (ydu e) I.ok.above)
 have neC:∀ b o,X.s₀.heap.get? b=some o->b ∉ X.ex->b ∉ ch:=fun b o e hx hb=>by
  rcases (hch b hb).1 with z | z
  ·exact hx z
  ·exact absurd (ydg (ydu e) z) (ydj _)
 have cellK:∀ x c,X.env.cells.lookup x=some c->∀ v,s.heap.IsCell c v->h'.IsCell c v:=fun x c e v ⟨o,ho,hd⟩=>by
  have nch:c ∉ ch:=fun z=>(hch c z).2.2.1 x c e rfl
  by_cases hc:c∈X.fs
  ·obtain ⟨sl,q⟩:=slot c o (I.cne x c e) hc nch ho (I.freeC x c e)
   exact ⟨_,q,hd⟩
  ·exact ⟨o,keep c o (I.cne x c e) hc nch ho (I.freeC x c e),hd⟩
 refine ⟨I.ok,I.os,hg,⟨fun b o e n hb hx=>?_,fun b o e n hb hx=>?_,fun b o e n hx=>?_,fun b o e hx=>?_,fun b xs e=>tups b xs (I.base.tups b xs e),fun b o xs e=>frzs b o xs (I.base.frzs b o xs e),fun b ps e=>?_⟩,?_,fun x c e=>?_,?_,fun x c e=>?_,fun p hp=>?_,hok,I.len⟩
 ·exact keep b o (neL b o e) hb (neC b o e hx) (I.base.keep b o e n hb hx) (I.base.free b o e n hx)
 ·obtain ⟨sl,e1⟩:=I.base.slot b o e n hb hx
  obtain ⟨sl',e2⟩:=slot b _ (neL b o e) hb (neC b o e hx) e1 (I.base.free b o e n hx)
  exact ⟨sl',e2⟩
 ·obtain ⟨o',e1⟩:=I.base.there b o e hx
  exact free b o' (neC b o e hx) e1 (I.base.free b o e n hx)
 ·obtain ⟨o',e1⟩:=I.base.there b o e hx
  exact there b o' (neC b o e hx) e1
 ·obtain ⟨m1,e1⟩:=I.base.tbls b ps e
  obtain ⟨m2,e2⟩:=tbls b _ e1
  exact ⟨m1++m2,by rw[e2,Array.append_assoc]⟩
 ·obtain ⟨m,hn,hl⟩:=I.loc
  refine ⟨m,ns m hn,fun i x v e1 e2 e3=>?_⟩
  obtain ⟨u,r,l⟩:=hl i x v e1 e2 e3
  refine ⟨u,r,?_⟩
  rcases l with l | ⟨k,c,e,z⟩
  ·exact .inl l
  ·exact .inr ⟨k,c,e,cellK x c e _ z⟩
 ·obtain ⟨v,z⟩:=I.cell x c e
  exact ⟨v,cellK x c e v z⟩
 ·obtain ⟨m,⟨o,_,_,ho,_⟩,_⟩:=I.loc
  exact free _ o (fun z=>(hch _ z).2.1 rfl) ho I.free
 ·obtain ⟨v,o,ho,hd⟩:=I.cell x c e
  exact free c o (fun z=>(hch c z).2.2.1 x c e rfl) ho (I.freeC x c e)
 ·obtain ⟨e,n,ne,nf,d⟩:=I.pin p hp
  have nch:p.1 ∉ ch:=fun z=>(hch p.1 z).2.2.2 p hp rfl
  exact ⟨keep p.1 p.2 ne nf nch e n,free p.1 p.2 nch e n,ne,nf,d⟩
theorem Inv.un {t':Nat} (I:Inv X pins σ H s) (u:Un X.fs [] H H' s.heap h') (hok:HOk X.prog X.w H' h'):Inv X pins σ H' { s with heap:=h',toks:=t' }:=by
 obtain ⟨m,⟨o,es,ep,ho,r⟩,_⟩:=id I.loc
 obtain ⟨sl,hL⟩:=u.any ho I.free (by simp)
 exact I.step (g':=s.gens) (d':=s.drawn) (ch:=[]) (fun _ z=>nomatch z) (fun b o _ hb _ e n=>u.keep b o e n hb (by simp)) (fun b o _ hb _ e n=>u.slot b o e n hb (by simp)) (fun b o _ e n=>u.free b o e n (by simp)) (fun b o _ e=>u.there b o e (by simp)) u.tups u.frzs u.tbls (fun m' hm=>by
  obtain ⟨o',es',ep',ho',r'⟩:=hm
  rw[ho] at ho';cases ho'
  exact ⟨_,es',ep',hL,r'⟩) hok I.bare
theorem Inv.call {g':Array GenState} {t':Nat} {d':Drawn} {ch:List Addr} (I:Inv X pins σ H s) (u:Un (frs X.stack) ch H H' s.heap h') (hok:HOk X.prog X.w H' h') (hg:AllBare g')
  (hch:∀ b∈ch,(b∈X.ex\/X.s₀.heap.objs.size<=b)/\b≠X.env.locals/\(∀ x c,X.env.cells.lookup x=some c->c≠b)/\∀ p∈X.pn++pins,p.1≠b) :
  Inv X pins σ H' { s with heap:=h',gens:=g',drawn:=d',toks:=t' }:=by
 obtain ⟨m,⟨o,es,ep,ho,r⟩,_⟩:=id I.loc
 obtain ⟨sl,hL⟩:=u.any ho I.free fun z=>(hch _ z).2.1 rfl
 exact I.step (ch:=ch) hch (fun b o hL hb hc e n=>u.keep b o e n (fun z=>(yal.mp (I.ziu b z)).elim hL hb) hc) (fun b o _ _ hc e n=>u.any e n hc) (fun b o hc e n=>u.free b o e n hc) (fun b o hc e=>u.there b o e hc) u.tups u.frzs u.tbls (fun m' hm=>by
  obtain ⟨o',es',ep',ho',r'⟩:=hm
  rw[ho] at ho';cases ho'
  exact ⟨_,es',ep',hL,r'⟩) hok hg
theorem Inv.turned {t':Nat} {it:Addr} (I:Inv X pins σ H s) (k:∀ b o,b≠it->s.heap.get? b=some o->h'.get? b=some o) (hn:H it=none) (hL:it≠X.env.locals)
  (h1:it∈X.ex\/X.s₀.heap.objs.size<=it) (h2:∀ x c,X.env.cells.lookup x=some c->c≠it) (h3:∀ p∈X.pn++pins,p.1≠it):Inv X pins σ H { s with heap:=h',toks:=t' }:=by
 have nit:∀ b u,H b=some u->b≠it:=fun b u e z=>by rw[z,hn] at e;cases e
 refine I.step (g':=s.gens) (d':=s.drawn) (ch:=[it]) (fun b hb=>?_) (fun b o _ _ hc e _=>k b o (fun z=>hc (by simp[z])) e) (fun b o _ _ hc e _=>⟨o.slots,k b o (fun z=>hc (by simp[z])) e⟩) (fun _ _ _ _ n=>n)
  (fun b o hc e=>⟨o,k b o (fun z=>hc (by simp[z])) e⟩) (fun _ _ e=>e) (fun _ _ _ e=>e) (fun b ps e=>⟨#[],by rw[e];simp⟩) (fun m hm=>?_) (fun b u e=>?_) I.bare
 ·have e:b=it:=by simpa using hb
  subst e
  exact ⟨h1,hL,h2,h3⟩
 ·obtain ⟨o,es,ep,ho,r⟩:=hm
  exact ⟨o,es,ep,k _ o (Ne.symm hL) ho,r⟩
 ·refine (I.hok b u e).stay (fun c v hc q=>k c v ?_ q) (fun _ q=>q) fun _ _ q=>q
  rcases hc with z | z
  ·rw[z];exact nit b u e
  ·exact nit c _ z
theorem Inv.tok (I:Inv X pins σ H s) (t:Nat):Inv X pins σ H { s with toks:=t }:=I.un (h':=s.heap) (t':=t) Un.refl I.hok
theorem Inv.kept {t':Nat} (I:Inv X pins σ H s) (k:∀ b u,s.heap.get? b=some u->h'.get? b=some u):Inv X pins σ H { s with heap:=h',toks:=t' }:=I.un (Un.kept k) (I.hok.kept k)
theorem Inv.laid {a:Addr} {o:HO} {t':Nat} (I:Inv X pins σ H s) (k:∀ b u,s.heap.get? b=some u->h'.get? b=some u) (hp:s.heap.objs.size<=a) (new:zas X.prog X.w (upd H a o) h' a o) :
  Inv X pins σ (upd H a o) { s with heap:=h',toks:=t' }:=I.un (Un.laid k hp (I.hok.fresh hp)) (I.hok.laid k hp new)
theorem Inv.write {x e:Addr} {o:HO} {t':Nat} (I:Inv X pins σ H s) (mu:Mut (H x)) (he:e=x\/H e=some (.own x)) (k:∀ b u,b≠e->s.heap.get? b=some u->h'.get? b=some u) (heo:∃ u,h'.get? e=some u)
  (new:zas X.prog X.w (upd H x o) h' x o):Inv X pins σ (upd H x o) { s with heap:=h',toks:=t' }:=I.un (Un.write mu he k heo) (I.hok.write mu he k heo new)
theorem Inv.zmY {pins':List (Addr × Obj)} (I:Inv X pins σ H s) (h:∀ p∈pins',s.heap.get? p.1=some p.2/\H p.1=none/\p.1≠X.env.locals/\p.1 ∉ X.fs/\∀ v,p.2.data≠.cell v):Inv X pins' σ H s :=
 ⟨I.ok,I.os,I.bare,I.base,I.loc,I.cell,I.free,I.freeC,fun p hp=>(yag.mp hp).elim (fun z=>I.pin p (ybg _ z)) (h p),I.hok,I.len⟩
theorem zp4 {N:List Str} (hN:N.Nodup) {i j:Nat} {x:Str} (a:N[i]?=some x) (b:N[j]?=some x):i=j:=by
 obtain ⟨h1,e1⟩:=yac.mp a
 obtain ⟨h2,e2⟩:=yac.mp b
 exact (List.getElem_inj hN).mp (e1.trans e2.symm)
theorem ztp {M:Model} {A:Around} {E:Value->Shared->Prop} {i:Nat} {x:Str} {v:V} {u:Value} {Q:Unit->Shared->Prop} (I:Inv X pins σ H s) (hN:X.N.Nodup) (hi:X.N[i]?=some x) (hx:Loc X.env.scope x) (r:RelV v u)
  (h:∀ s',Inv X pins (σ.set i (some v)) H s'->(∃ a,Heap.SameBut a s.heap s'.heap/\(a=X.env.locals\/X.env.cells.lookup x=some a))->Q () s') (hf:X.fn x=true\/X.env.scope.names.lookup x=some .local:=by first | exact .inl rfl | exact .inr rfl | assumption):wpAny M A (storeName X.env x u) Q E s:=by
 obtain ⟨m,hn,hl⟩:=id I.loc
 have hcls:(X.env.scope.kind == .class || (X.env.scope.kind == .module && X.env.locals != X.env.globals))=false:=by rw[I.ok.kind];rfl
 have hiσ:i<σ.length:=by rw[I.len];exact (yac.mp hi).1
 have cne:=I.cne
 have tracked:∀ {a:Addr} {h':Heap},(∃ o,s.heap.get? a=some o/\H a=none)->Heap.SameBut a s.heap h'->HOk X.prog X.w H h':=fun {a h'} ha hs b ob e=>by
  obtain ⟨_,_,hfree⟩:=ha
  refine (I.hok b ob e).stay (fun c w' hc q=>(hs.2 c ?_).trans q) (fun _ q=>q) fun _ _ q=>q
  rintro rfl
  rcases hc with rfl | hc
  ·rw[hfree] at e;cases e
  ·rw[hfree] at hc;cases hc
 rcases hx with hk | hk
 ·refine wpAny_storeName_local hk hn (fun h' hn' hs=>?_) hcls
  obtain ⟨oL,_,_,hoL,_⟩:=id hn
  refine h _ ⟨I.ok,I.os,I.bare,⟨fun b o e n hb hx=>?_,fun b o e n hb hx=>?_,I.base.free,fun b o e hx=>?_,I.base.tups,I.base.frzs,I.base.tbls⟩,⟨_,hn',fun j y v' e1 e2 e3=>?_⟩,fun y c e=>?_,I.free,I.freeC,fun p hp=>?_,tracked ⟨oL,hoL,I.free⟩ hs,by simpa using I.len⟩ ⟨_,hs,.inl rfl⟩
  ·exact (hs.2 b (ydd (ydg (ydu e) I.ok.above))).trans (I.base.keep b o e n hb hx)
  ·obtain ⟨sl,e1⟩:=I.base.slot b o e n hb hx
   exact ⟨sl,(hs.2 b (ydd (ydg (ydu e) I.ok.above))).trans e1⟩
  ·obtain ⟨o',e1⟩:=I.base.there b o e hx
   exact ⟨o',(hs.2 b (ydd (ydg (ydu e) I.ok.above))).trans e1⟩
  ·by_cases hj:j=i
   ·subst hj
    rw[hi] at e1;cases e1
    rw[List.getElem?_set_self hiσ] at e2
    cases e2
    exact ⟨u,r,.inl ⟨hk,by simp⟩⟩
   ·rw[List.getElem?_set_ne (Ne.symm hj)] at e2
    obtain ⟨u',r',q⟩:=hl j y v' e1 e2 e3
    refine ⟨u',r',?_⟩
    rcases q with ⟨k,e⟩ | ⟨k,c,e,z⟩
    ·refine .inl ⟨k,?_⟩
     have:y≠x:=fun e=>hj (zp4 hN e1 (e ▸ hi))
     simp[this,e]
    ·exact .inr ⟨k,c,e,z.sameBut hs (cne y c e)⟩
  ·obtain ⟨w',z⟩:=I.cell y c e
   exact ⟨w',z.sameBut hs (cne y c e)⟩
  ·obtain ⟨e,n,ne,nf,d⟩:=I.pin p hp
   exact ⟨(hs.2 p.1 ne).trans e,n,ne,nf,d⟩
 ·have hfn:X.fn x=true:=by
   rcases hf with z | z
   ·exact z
   ·rw[z] at hk;cases hk
  obtain ⟨c,hc⟩:=I.ok.has x (.inl hk)
  obtain ⟨w',z⟩:=I.cell x c hc
  refine wpAny_storeName_cell I.ok.kind hk hc z (fun h' hc' hs=>?_)
  obtain ⟨oc,hoc,hocd⟩:=id z
  refine h { s with heap:=h' } ⟨I.ok,I.os,I.bare,⟨fun b o e n hb hx=>?_,fun b o e n hb hx=>?_,I.base.free,fun b o e hx=>?_,I.base.tups,I.base.frzs,I.base.tbls⟩,⟨m,hn.sameBut hs (Ne.symm (cne x c hc)),fun j y v' e1 e2 e3=>?_⟩,fun y c' e=>?_,I.free,I.freeC,fun p hp=>?_,tracked ⟨oc,hoc,I.freeC x c hc⟩ hs,by simpa using I.len⟩ ⟨c,hs,.inr hc⟩
  ·exact (hs.2 b (ydd (ydg (ydu e) (I.ok.cab x c hfn hc)))).trans (I.base.keep b o e n hb hx)
  ·obtain ⟨sl,e1⟩:=I.base.slot b o e n hb hx
   exact ⟨sl,(hs.2 b (ydd (ydg (ydu e) (I.ok.cab x c hfn hc)))).trans e1⟩
  ·obtain ⟨o',e1⟩:=I.base.there b o e hx
   exact ⟨o',(hs.2 b (ydd (ydg (ydu e) (I.ok.cab x c hfn hc)))).trans e1⟩
  ·by_cases hj:j=i
   ·subst hj
    rw[hi] at e1;cases e1
    rw[List.getElem?_set_self hiσ] at e2
    cases e2
    exact ⟨u,r,.inr ⟨.inl hk,c,hc,hc'⟩⟩
   ·rw[List.getElem?_set_ne (Ne.symm hj)] at e2
    obtain ⟨u',r',q⟩:=hl j y v' e1 e2 e3
    refine ⟨u',r',?_⟩
    rcases q with q | ⟨k,c',e,z'⟩
    ·exact .inl q
    ·refine .inr ⟨k,c',e,z'.sameBut hs ?_⟩
     rintro rfl
     exact hj (zp4 hN e1 (I.ok.inj _ _ _ e hc ▸ hi))
  ·by_cases hcc:c'=c
   ·subst hcc;exact ⟨_,hc'⟩
   ·obtain ⟨w2,z2⟩:=I.cell y c' e
    exact ⟨w2,z2.sameBut hs hcc⟩
  ·obtain ⟨e,n,ne,nf,d⟩:=I.pin p hp
   refine ⟨(hs.2 p.1 ?_).trans e,n,ne,nf,d⟩
   intro q
   rw[q,hoc] at e
   have q':oc=p.2:=Option.some.inj e
   exact d w' (by rw[<-q'];exact hocd)
theorem zpW {M:Model} {A:Around} {E:Value->Shared->Prop} {i:Nat} {x:Str} {v:V} {u:Value} {Q:Unit->Shared->Prop} (I:Inv X pins σ H s) (hN:X.N.Nodup) (hi:X.N[i]?=some x) (hx:Loc X.env.scope x) (r:RelV v u)
  (h:∀ s',Inv X pins (σ.set i (some v)) H s'->Q () s') (hf:X.fn x=true\/X.env.scope.names.lookup x=some .local:=by first | exact .inl rfl | exact .inr rfl | assumption):wpAny M A (storeName X.env x u) Q E s :=
 ztp I hN hi hx r (fun s' I' _=>h s' I') hf
theorem Inv.call' {s':Shared} {ch:List Addr} (I:Inv X pins σ H s) (ho:s'.os=s.os) (u:Un (frs X.stack) ch H H' s.heap s'.heap) (hok:HOk X.prog X.w H' s'.heap) (hg:AllBare s'.gens)
  (hch:∀ b∈ch,(b∈X.ex\/X.s₀.heap.objs.size<=b)/\b≠X.env.locals/\(∀ x c,X.env.cells.lookup x=some c->c≠b)/\∀ p∈X.pn++pins,p.1≠b):Inv X pins σ H' s':=by
 obtain ⟨h',g',d',t',o'⟩:=s'
 have e:o'=s.os:=ho
 subst e
 exact I.call (g':=g') (t':=t') (d':=d') u hok hg hch
end
noncomputable abbrev XK:=Value->Option Addr->Hp->Prop
noncomputable abbrev St:=List (Option V)
noncomputable abbrev VK:=V->Hp->Prop
noncomputable abbrev TE:=St->Hp->VK->Prop
noncomputable abbrev TT:=St->Hp->(Bool->Hp->Prop)->Prop
noncomputable abbrev TA:=St->Hp->(List V->Hp->Prop)->Prop
structure Ends where
 nx:St->Hp->Prop
 rt:VK
 bk:St->Hp->Prop:=fun _ _=>False
 ct:St->Hp->Prop:=fun _ _=>False
noncomputable abbrev TS:=Ends->St->Hp->Prop
def EP (X:Cx) (pins:List (Addr × Obj)) (σ:St) (Q:VK) (u:Value) (s':Shared):Prop:=∃ v H',Inv X pins σ H' s'/\RelV v u/\Q v H'
def TP (X:Cx) (pins:List (Addr × Obj)) (σ:St) (Q:Bool->Hp->Prop) (b:Bool) (s':Shared):Prop:=∃ H',Inv X pins σ H' s'/\Q b H'
def AP (X:Cx) (pins:List (Addr × Obj)) (σ:St) (Q:List V->Hp->Prop) (us:List Value) (s':Shared):Prop:=∃ vs H',Inv X pins σ H' s'/\Vals vs us/\Q vs H'
def SP (X:Cx) (pins:List (Addr × Obj)) (D:Ends) (f:Flow) (s':Shared):Prop :=
 match f with
 | .next=>∃ σ' H',Inv X pins σ' H' s'/\D.nx σ' H'
 | .brk=>∃ σ' H',Inv X pins σ' H' s'/\D.bk σ' H'
 | .cont=>∃ σ' H',Inv X pins σ' H' s'/\D.ct σ' H'
 | .ret u=>∃ v σ' H',Inv X pins σ' H' s'/\RelV v u/\D.rt v H'
def PE (X:Cx) (e:Expr) (t:TE):Prop :=
 ∀ (pins:List (Addr × Obj)) (s:Shared) (σ:St) (H:Hp) (Q:VK),Inv X pins σ H s->t σ H Q->wpAny (model X.prog X.w) X.A (eval e X.env) (EP X pins σ Q) X.xe s
def PT (X:Cx) (e:Expr) (t:TT):Prop :=
 ∀ (pins:List (Addr × Obj)) (s:Shared) (σ:St) (H:Hp) (Q:Bool->Hp->Prop),Inv X pins σ H s->t σ H Q->wpAny (model X.prog X.w) X.A (isTrue e X.env (eval e X.env)) (TP X pins σ Q) X.xe s
def PW (X:Cx) (e:Expr) (t:TT):Prop :=
 ∀ (whole:Sem Value) (pins:List (Addr × Obj)) (s:Shared) (σ:St) (H:Hp) (Q:Bool->Hp->Prop),Inv X pins σ H s->t σ H Q->wpAny (model X.prog X.w) X.A (isTrue e X.env whole) (TP X pins σ Q) X.xe s
theorem PW.pt {X:Cx} {e:Expr} {t:TT} (h:PW X e t):PT X e t:=h _
def PA (X:Cx) (es:List Expr) (t:TA):Prop :=
 ∀ (pos:Pos) (pins:List (Addr × Obj)) (s:Shared) (σ:St) (H:Hp) (Q:List V->Hp->Prop),Inv X pins σ H s->t σ H Q->wpAny (model X.prog X.w) X.A (spliced (backTo pos (starEach es X.env))) (AP X pins σ Q) X.xe s
def PS (X:Cx) (st:Stmt) (t:TS):Prop :=
 ∀ (pins:List (Addr × Obj)) (s:Shared) (σ:St) (H:Hp) (D:Ends),Inv X pins σ H s->t D σ H->wpAny (model X.prog X.w) X.A (exec st X.env) (SP X pins D) X.xe s
def PSs (X:Cx) (st:List Stmt) (t:TS):Prop :=
 ∀ (pins:List (Addr × Obj)) (s:Shared) (σ:St) (H:Hp) (D:Ends),Inv X pins σ H s->t D σ H->wpAny (model X.prog X.w) X.A (execs st X.env) (SP X pins D) X.xe s
theorem thn {α:Type} {t:Sem α} {Q Q':α->Shared->Prop} {M:Model} {A:Around} {E:Value->Shared->Prop} {s:Shared} (h:wpAny M A t Q E s) (hQ:∀ a s,Q a s->Q' a s):wpAny M A t Q' E s:=wpAny_mono h hQ fun _ _ x=>x
section
variable {X:Cx}
def zwH (i:Nat):TE:=fun σ H Q=>∃ v,σ[i]?=some (some v)/\Q v H
def tC (v:V):TE:=fun _ H Q=>Q v H
theorem zwF {i:Nat} {x:Str} {pos:Pos} (hN:X.N[i]?=some x) (hv:Vis X.env.scope x) (hd:(x == ("__debug__" : Str))=false:=by decide) (hcd:(x == ("__classdict__" : Str))=false:=by decide):PE X (.Name x pos) (zwH i):=by
 intro pins s σ H Q I h
 obtain ⟨v,e,h⟩:=h
 obtain ⟨m,hn,hl⟩:=I.loc
 obtain ⟨u,r,l⟩:=hl i x v hN e hv
 have fin:EP X pins σ Q u s:=⟨v,H,I,r,h⟩
 rcases l with ⟨hk,hm⟩ | ⟨hk,c,hc,hcell⟩
 ·exact wpAny_Name (wpAny_loadName_local I.ok.kind hk hn hm fin) hd
 ·rcases hk with hk | hk
  ·exact wpAny_Name (wpAny_loadName_cell I.ok.kind hk hc hcell fin) hd
  ·exact wpAny_Name (wpAny_loadName_free I.ok.kind hk hc hcell fin hcd) hd
theorem ze {i j pos}:PE X (.Constant (.int i) j pos) (tC (.int i)):=fun _ _ _ H _ I h=>wpAny_Constant_int ⟨.int i,H,I.tok _,⟨_,rfl⟩,h⟩
theorem zje {b j pos}:PE X (.Constant (.bool b) j pos) (tC (.bl b)):=fun _ _ _ H _ I h=>Constant_bool ⟨.bl b,H,I,rfl,h⟩
theorem zC {x j pos}:PE X (.Constant (.str x) j pos) (tC (.str x)):=fun _ _ _ H _ I h=>Calls.Constant_str ⟨.str x,H,I.tok _,⟨_,rfl⟩,h⟩
def Gl (X:Cx) (x:Str):Prop:=X.env.kindOf x=some .globalImplicit
theorem zk0 {E:Value->Shared->Prop} {pins:List (Addr × Obj)} {s:Shared} {σ:St} {H:Hp} {x:Str} {u:Value} {pos:Pos} {Q:Value->Shared->Prop} (I:Inv X pins σ H s) (hg:Gl X x) (hm:X.mg x=some u) (h:Q u s)
  (hd:(x == ("__debug__" : Str))=false:=by decide):wpAny (model X.prog X.w) X.A (eval (.Name x pos) X.env) Q E s :=
 Calls.Name_function_global I.ok.kind hg (Calls.loadGlobal_global (by rw[I.ok.glob];exact I.mod.glob.keeps I.bk) hm h) hd
theorem zkr {E:Value->Shared->Prop} {pins:List (Addr × Obj)} {s:Shared} {σ:St} {H:Hp} {x:Str} {u:Value} {pos:Pos} {Q:Value->Shared->Prop} (I:Inv X pins σ H s) (hg:Gl X x) (hm:X.mg x=none) (hv:bootBuiltins x=some u) (h:Q u s)
  (hn:x ≠ "__name__" := by decide) (hd:(x == ("__debug__" : Str))=false:=by decide):wpAny (model X.prog X.w) X.A (eval (.Name x pos) X.env) Q E s:=by
 obtain ⟨mb,h1,h2⟩:=I.mod.blt
 exact Calls.Name_function_global I.ok.kind hg (Calls.loadGlobal_builtin (by rw[I.ok.glob];exact I.mod.glob.keeps I.bk) hm (by rw[I.ok.blt];exact h1.keeps I.bk) ((h2 x hn).trans hv) h) hd
theorem zgp {x:Str} {v:V} {u:Value} {pos:Pos} (hg:Gl X x) (hm:X.mg x=some u) (r:RelV v u) (hd:(x == ("__debug__" : Str))=false:=by decide):PE X (.Name x pos) (tC v) :=
 fun _ _ _ H _ I h=>zk0 I hg hm ⟨v,H,I,r,h⟩ hd
theorem zix {x:Str} {v:V} {u:Value} {pos:Pos} (hg:Gl X x) (hm:X.mg x=none) (hv:bootBuiltins x=some u) (r:RelV v u) (hn:x ≠ "__name__" := by decide) (hd:(x == ("__debug__" : Str))=false:=by decide):PE X (.Name x pos) (tC v) :=
 fun _ _ _ H _ I h=>zkr I hg hm hv ⟨v,H,I,r,h⟩ hn hd
variable {a b:Expr} {ta tb:TE} {pos:Pos}
def PC (X:Cx) (op:CmpOp) (a b:Expr) (t:TE):Prop :=
 ∀ (pins:List (Addr × Obj)) (s:Shared) (σ:St) (H:Hp) (Q:VK),Inv X pins σ H s->t σ H Q ->
  wpAny (model X.prog X.w) X.A (eval a X.env) (fun v s₁=>wpAny (model X.prog X.w) X.A (eval b X.env) (fun u s₂=>wpAny (model X.prog X.w) X.A (compareOp op v u) (EP X pins σ Q) X.xe s₂) X.xe s₁) X.xe s
def tB (t:TE):TT:=fun σ H Q=>t σ H fun x H1=>∃ c,x=.bl c/\Q c H1
theorem zc6 {e:Expr} {t:TE} (h:PE X e t) (he:∀ whole,isTrue e X.env whole=(do let v <-whole;standAt e.pos;holding [v] (truthy v)):=by intro _;rfl):PT X e (tB t):=by
 intro pins s σ H Q I hw
 refine isTrue_plain (thn (h pins s σ H _ I hw) fun v s1 ⟨x,H1,I1,r1,q1⟩=>?_) (he _)
 obtain ⟨d,rfl,q⟩:=q1
 cases r1
 exact wpAny_truthy_bool ⟨H1,I1,q⟩
variable {tA tB':TT} {rest:List Expr}
def zxY (t u:TT):TT:=fun σ H Q=>t σ H fun c H1=>if c=true then u σ H1 Q else Q false H1
def tOr (t u:TT):TT:=fun σ H Q=>t σ H fun c H1=>if c=true then Q true H1 else u σ H1 Q
def zxZ (t:TT):TT:=fun σ H Q=>t σ H fun c H1=>Q (!c) H1
theorem zdI (ha:PT X a tA):PW X (.BoolOp .And [a] pos) tA:=by
 intro wh pins s σ H Q I h
 refine isTrue_and (thn (ha pins s σ H Q I h) fun c s1 e=>?_)
 cases c with
 | true=>exact isTrue_and_nil e
 | false=>exact e
theorem zmC (ha:PT X a tA):PW X (.BoolOp .Or [a] pos) tA:=by
 intro wh pins s σ H Q I h
 refine isTrue_or (thn (ha pins s σ H Q I h) fun c s1 e=>?_)
 cases c with
 | false=>exact isTrue_or_nil e
 | true=>exact e
theorem zc9 (ha:PT X a tA) (hb:PW X (.BoolOp .And (b::rest) pos) tB'):PW X (.BoolOp .And (a::b::rest) pos) (zxY tA tB'):=by
 intro wh pins s σ H Q I h
 refine isTrue_and (thn (ha pins s σ H _ I h) fun c s1 ⟨H1,I1,q1⟩=>?_)
 cases c with
 | true=>exact hb wh pins s1 σ H1 Q I1 q1
 | false=>exact ⟨H1,I1,q1⟩
theorem zld (ha:PT X a tA) (hb:PW X (.BoolOp .Or (b::rest) pos) tB'):PW X (.BoolOp .Or (a::b::rest) pos) (tOr tA tB'):=by
 intro wh pins s σ H Q I h
 refine isTrue_or (thn (ha pins s σ H _ I h) fun c s1 ⟨H1,I1,q1⟩=>?_)
 cases c with
 | true=>exact ⟨H1,I1,q1⟩
 | false=>exact hb wh pins s1 σ H1 Q I1 q1
theorem ziv (ha:PT X a tA):PT X (.UnaryOp .Not a pos) (zxZ tA):=by
 intro pins s σ H Q I h
 exact isTrue_not (ha pins s σ H (fun c H1=>Q (!c) H1) I h)
def zxh (ta tb:TE):TE:=fun σ H Q=>ta σ H fun x H1=>∃ c,x=.bl c/\if c=true then tb σ H1 Q else Q (.bl false) H1
def zxR (ta tb:TE):TE:=fun σ H Q=>ta σ H fun x H1=>∃ c,x=.bl c/\if c=true then Q (.bl true) H1 else tb σ H1 Q
def zxy (ta:TE):TE:=fun σ H Q=>ta σ H fun x H1=>∃ c,x=.bl c/\Q (.bl (!c)) H1
theorem zfr {op} {t:TE} (h:PE X a t):PE X (.BoolOp op [a] pos) t:=fun pins s σ H Q I hw=>BoolOp_one (h pins s σ H Q I hw)
theorem zfu (ha:PE X a ta) (hb:PE X (.BoolOp .And (b::rest) pos) tb):PE X (.BoolOp .And (a::b::rest) pos) (zxh ta tb):=by
 intro pins s σ H Q I h
 refine BoolOp_and (thn (ha pins s σ H _ I h) fun v s1 ⟨x,H1,I1,r1,q1⟩=>?_)
 obtain ⟨c,rfl,q1⟩:=q1
 cases r1
 refine wpAny_truthy_bool ?_
 cases c with
 | true=>exact hb pins s1 σ H1 Q I1 q1
 | false=>exact ⟨.bl false,H1,I1,rfl,q1⟩
theorem zxw (ha:PE X a ta) (hb:PE X (.BoolOp .Or (b::rest) pos) tb):PE X (.BoolOp .Or (a::b::rest) pos) (zxR ta tb):=by
 intro pins s σ H Q I h
 refine BoolOp_or (thn (ha pins s σ H _ I h) fun v s1 ⟨x,H1,I1,r1,q1⟩=>?_)
 obtain ⟨c,rfl,q1⟩:=q1
 cases r1
 refine wpAny_truthy_bool ?_
 cases c with
 | false=>exact hb pins s1 σ H1 Q I1 q1
 | true=>exact ⟨.bl true,H1,I1,rfl,q1⟩
theorem zte (ha:PE X a ta):PE X (.UnaryOp .Not a pos) (zxy ta):=by
 intro pins s σ H Q I h
 refine UnaryOp_ (thn (ha pins s σ H _ I h) fun v s1 ⟨x,H1,I1,r1,q1⟩=>?_)
 obtain ⟨c,rfl,q1⟩:=q1
 cases r1
 exact not_of (wpAny_truthy_bool ⟨.bl (!c),H1,I1,rfl,q1⟩)
def tIf (t:TT) (ta tb:TE):TE:=fun σ H Q=>t σ H fun c H1=>if c=true then ta σ H1 Q else tb σ H1 Q
theorem zlU {c:Expr} (hc:PT X c tA) (ha:PE X a ta) (hb:PE X b tb):PE X (.IfExp c a b pos) (tIf tA ta tb):=by
 intro pins s σ H Q I h
 refine wpAny_IfExp (thn (hc pins s σ H _ I h) fun d s1 ⟨H1,I1,q1⟩=>?_)
 cases d with
 | true=>exact ha pins s1 σ H1 Q I1 q1
 | false=>exact hb pins s1 σ H1 Q I1 q1
end
def SqL (K:W.Frag) (H:Hp) (a:Addr) (xs:List V):Prop :=
 Rd H a (.lst xs) \/
  ∃ (o:Obj) (its:Array Value) (n:Nat),K.lookup a=some o/\o.cls=.type "list" /\ o.dict=none/\o.data=.seq its n/\its.size<=sizeLine/\Vals xs its.toList
def SqT (K:W.Frag) (H:Hp) (a:Addr) (xs:List V):Prop :=
 Rd H a (.tup xs) \/
  ∃ (o:Obj) (its:Array Value) (n:Nat),K.lookup a=some o/\o.cls=.type "tuple" /\ o.data=.seq its n/\its.size<=sizeLine/\Vals xs its.toList
noncomputable def zxH:Value->Option V
 | .none=>some .non
 | .bool b=>some (.bl b)
 | .int i _=>some (.int i)
 | .str x _=>some (.str x)
 | .bytes b _=>some (.byt b)
 | .float b _=>some (.flt b)
 | .ref a=>some (.ref a)
 | .type n=>some (.ty n)
 | _=>none
theorem RelV.abs {x:V} {u:Value} (r:RelV x u):zxH u=some x:=by
 cases x with
 | non=>cases r;rfl
 | bl _=>cases r;rfl
 | int _=>obtain ⟨t,rfl⟩:=r;rfl
 | str _=>obtain ⟨t,rfl⟩:=r;rfl
 | byt _=>obtain ⟨t,rfl⟩:=r;rfl
 | flt _=>obtain ⟨t,rfl⟩:=r;rfl
 | ref _=>cases r;rfl
 | ty _=>cases r;rfl
theorem RelV.inj {x y:V} {u:Value} (r:RelV x u) (q:RelV y u):x=y:=Option.some.inj (r.abs.symm.trans q.abs)
theorem Vals.inj:∀ {xs ys:List V} {us:List Value},Vals xs us->Vals ys us->xs=ys
 | _,_,_,.nil,.nil=>rfl
 | _,_,_,.cons r t,.cons r' t'=>by rw[r.inj r',Vals.inj t t']
section
variable {X:Cx} {pins:List (Addr × Obj)} {σ:St} {H:Hp} {s:Shared} {a:Addr} {xs ys:List V}
theorem SqL.of {K:W.Frag} (h:H a=some (.lst xs)):SqL K H a xs:=.inl (.inl h)
theorem SqT.of {K:W.Frag} (h:H a=some (.tup xs)):SqT K H a xs:=.inl (.inl h)
theorem Inv.list (I:Inv X pins σ H s) (h:SqL X.K H a xs):∃ its:List Value,Vals xs its/\PlainL s.heap a its.toArray/\xs.length<=sizeLine:=by
 rcases h with h | ⟨o,its,n,hk,hc,hd,hs,hz,r⟩
 ·obtain ⟨z,its,n,r,e⟩:=h.ok I.hok
  exact ⟨its,r,⟨_,n,e,rfl,rfl,rfl⟩,z⟩
 ·refine ⟨its.toList,r,⟨o,n,I.kIn a o hk,hc,hd,by simpa using hs⟩,?_⟩
  have e:=r.length
  simp only[yel] at e
  ac_rfl
theorem Inv.tuple (I:Inv X pins σ H s) (h:SqT X.K H a xs):∃ its:List Value,Vals xs its/\IsTup s.heap a its.toArray/\xs.length<=sizeLine:=by
 rcases h with h | ⟨o,its,n,hk,hc,hs,hz,r⟩
 ·obtain ⟨z,its,r,p⟩:=h.ok I.hok
  exact ⟨its,r,p,z⟩
 ·refine ⟨its.toList,r,⟨o,I.kIn a o hk,hc,n,by simpa using hs⟩,?_⟩
  have e:=r.length
  simp only[yel] at e
  ac_rfl
theorem Inv.zuU (I:Inv X pins σ H s) (h:SqL X.K H a xs) (h':SqL X.K H a ys):xs=ys:=by
 obtain ⟨its,r,⟨o,n,e,_,_,d⟩,_⟩:=I.list h
 obtain ⟨its',r',⟨o',n',e',_,_,d'⟩,_⟩:=I.list h'
 rw[e] at e';cases e'
 rw[d] at d'
 injection d' with d1 _
 have:its=its':=by simpa using congrArg Array.toList d1
 subst this
 exact r.inj r'
end
noncomputable abbrev Cx.wish (X:Cx) (E:Value->Shared->Prop):Cx:={ X with xe:=E }
noncomputable abbrev Cx.nox (X:Cx):Cx:=X.wish fun _ _=>False
theorem Cx.Ok.wish {X:Cx} (ok:X.Ok) (E:Value->Shared->Prop):(X.wish E).Ok :=
 ⟨ok.mod,ok.kind,ok.glob,ok.blt,ok.above,ok.inj,ok.has,ok.cab,ok.hd,ok.frames,ok.stk,ok.exf,ok.bs,ok.bsz,ok.noex,ok.exfs,ok.funs,ok.frf⟩
theorem Cx.Ok.unwish {X:Cx} {E:Value->Shared->Prop} (ok:(X.wish E).Ok):X.Ok :=
 ⟨ok.mod,ok.kind,ok.glob,ok.blt,ok.above,ok.inj,ok.has,ok.cab,ok.hd,ok.frames,ok.stk,ok.exf,ok.bs,ok.bsz,ok.noex,ok.exfs,ok.funs,ok.frf⟩
section
variable {X:Cx} {pins:List (Addr × Obj)} {σ:St} {H:Hp} {s:Shared} {E:Value->Shared->Prop}
theorem Inv.wish (I:Inv X pins σ H s) (E:Value->Shared->Prop):Inv (X.wish E) pins σ H s:=⟨I.ok.wish E,I.os,I.bare,I.base,I.loc,I.cell,I.free,I.freeC,I.pin,I.hok,I.len⟩
theorem Inv.unwish (I:Inv (X.wish E) pins σ H s):Inv X pins σ H s:=⟨I.ok.unwish,I.os,I.bare,I.base,I.loc,I.cell,I.free,I.freeC,I.pin,I.hok,I.len⟩
theorem SP.unwish {D:Ends} {f:Flow} {s':Shared} (h:SP (X.wish E) pins D f s'):SP X pins D f s':=by
 cases f with
 | next=>obtain ⟨σ',H',I,q⟩:=h;exact ⟨σ',H',I.unwish,q⟩
 | brk=>obtain ⟨σ',H',I,q⟩:=h;exact ⟨σ',H',I.unwish,q⟩
 | cont=>obtain ⟨σ',H',I,q⟩:=h;exact ⟨σ',H',I.unwish,q⟩
 | ret u=>obtain ⟨v,σ',H',I,r,q⟩:=h;exact ⟨v,σ',H',I.unwish,r,q⟩
theorem PSs.nox {st:List Stmt} {t:TS} (h:PSs X.nox st t):PSs X st t:=fun pins s σ H D I hw =>
 wpAny_mono (h pins s σ H D (I.wish _) hw) (fun _ _ q=>q.unwish) fun _ _ z=>False.elim z
end
section
variable {X:Cx} {st:Stmt} {rest:List Stmt} {t u:TS} {e:Expr} {te:TE} {pos:Pos}
def zxn:TS:=fun D σ H=>D.nx σ H
def zae (t u:TS):TS:=fun D σ H=>t { D with nx:=u D } σ H
theorem zJ:PSs X [] zxn:=fun _ _ σ H _ I h=>wpAny_execs_nil ⟨σ,H,I,h⟩
theorem zuG (h1:PS X st t) (h2:PSs X rest u):PSs X (st::rest) (zae t u):=by
 intro pins s σ H D I h
 refine wpAny_execs_cons (thn (h1 pins s σ H { D with nx:=u D } I h) fun f s1 q=>?_)
 cases f with
 | next =>
  obtain ⟨σ',H',I',q⟩:=q
  exact h2 pins s1 σ' H' D I' q
 | ret v=>exact q
 | brk=>exact q
 | cont=>exact q
theorem zg (h1:PS X st t):PSs X [st] t:=by
 intro pins s σ H D I h
 refine wpAny_execs_cons (thn (h1 pins s σ H D I h) fun f s1 q=>?_)
 cases f with
 | next=>exact wpAny_execs_nil q
 | ret v=>exact q
 | brk=>exact q
 | cont=>exact q
theorem Inv.quiet {pins:List (Addr × Obj)} {σ:St} {H:Hp} {s:Shared} (I:Inv X pins σ H s):interactive X.env=false:=by simp[interactive,I.ok.kind]
def zxm (te:TE):TS:=fun D σ H=>te σ H fun _ H1=>D.nx σ H1
theorem zao (he:PE X e te) (hs:swapsWith e none pos.line X.env=pure false:=by rfl):PS X (.Expr e pos) (zxm te):=by
 intro pins s σ H D I h
 exact wpAny_Expr_any (thn (he pins s σ H _ I h) fun v s1 ⟨x,H1,I1,r1,q1⟩=>⟨σ,H1,I1,q1⟩) I.quiet hs
def zxT (te:TE):TS:=fun D σ H=>te σ H D.rt
theorem zk (he:PE X e te):PS X (.Return (some e) pos) (zxT te):=by
 intro pins s σ H D I h
 exact wpAny_Return_some (thn (he pins s σ H _ I h) fun v s1 ⟨x,H1,I1,r1,q1⟩=>⟨x,σ,H1,I1,r1,q1⟩)
def zyc (c:TT) (t u:TS):TS:=fun D σ H=>c σ H fun b H1=>if b=true then t D σ H1 else u D σ H1
theorem zP {c:Expr} {a b:List Stmt} {tc:TT} (hc:PT X c tc) (ha:PSs X a t) (hb:PSs X b u):PS X (.If c a b pos) (zyc tc t u):=by
 intro pins s σ H D I h
 refine wpAny_If (thn (hc pins s σ H _ I h) fun d s1 ⟨H1,I1,q1⟩=>?_)
 cases d with
 | true=>exact ha pins s1 σ H1 D I1 q1
 | false=>exact hb pins s1 σ H1 D I1 q1
def zwL:TS:=fun _ _ _=>False
theorem zkj {sts:List Stmt}:PSs X sts zwL:=fun _ _ _ _ _ _ h=>h.elim
end
noncomputable abbrev TG:=V->St->Hp->(St->Hp->Prop)->Prop
noncomputable abbrev TGs:=List V->St->Hp->(St->Hp->Prop)->Prop
def PG (X:Cx) (target:Expr) (t:TG):Prop :=
 ∀ (pins:List (Addr × Obj)) (s:Shared) (σ:St) (H:Hp) (v:V) (u:Value) (Q:St->Hp->Prop),Inv X pins σ H s->RelV v u->t v σ H Q ->
  wpAny (model X.prog X.w) X.A (assign target X.env u) (fun _ s'=>∃ σ' H',Inv X pins σ' H' s'/\Q σ' H') X.xe s
def PGs (X:Cx) (ts:List Expr) (t:TGs):Prop :=
 ∀ (pins:List (Addr × Obj)) (s:Shared) (σ:St) (H:Hp) (vs:List V) (us:List Value) (Q:St->Hp->Prop),Inv X pins σ H s->Vals vs us->t vs σ H Q ->
  wpAny (model X.prog X.w) X.A (assignInOrder ((assignEach ts X.env).map (·.2)) us) (fun _ s'=>∃ σ' H',Inv X pins σ' H' s'/\Q σ' H') X.xe s
noncomputable abbrev TSet:=V->V->V->Hp->(Hp->Prop)->Prop
def PSet (X:Cx) (t:TSet):Prop :=
 ∀ (pins:List (Addr × Obj)) (s:Shared) (σ:St) (H:Hp) (o i v:V) (ov iv u:Value) (Q:Hp->Prop),Inv X pins σ H s->RelV o ov->RelV i iv->RelV v u->t o i v H Q ->
  wpAny (model X.prog X.w) X.A (setItem ov iv u) (fun _ s'=>∃ H',Inv X pins σ H' s'/\Q H') X.xe s
section
variable {X:Cx} {pos:Pos}
def zho (i:Nat):TG:=fun v σ H Q=>Q (σ.set i (some v)) H
theorem zac {i:Nat} {x:Str} (hN:X.N.Nodup) (hi:X.N[i]?=some x) (hx:Loc X.env.scope x) (hf:X.fn x=true\/X.env.scope.names.lookup x=some .local:=by first | exact .inl rfl | exact .inr rfl | assumption):PG X (.Name x pos) (zho i):=by
 intro pins s σ H v u Q I r h
 exact wpAny_assign_Name (zpW I hN hi hx r (fun s' I'=>⟨_,H,I',h⟩) hf)
noncomputable def zx0:TGs:=fun vs σ H Q=>vs=[]/\Q σ H
noncomputable def zxs (t:TG) (u:TGs):TGs:=fun vs σ H Q=>∃ v r,vs=v::r/\t v σ H fun σ' H'=>u r σ' H' Q
theorem ziz:PGs X [] zx0:=by
 intro pins s σ H vs us Q I r h
 obtain ⟨e,h⟩:=h
 subst e
 cases r
 exact assignInOrder_nil ⟨σ,H,I,h⟩
theorem zaX {e:Expr} {es:List Expr} {t:TG} {u:TGs} (h1:PG X e t) (h2:PGs X es u)
  (hs:(assignEach (e::es) X.env).map (·.2)=assign e X.env::(assignEach es X.env).map (·.2):=by rfl):PGs X (e::es) (zxs t u):=by
 intro pins s σ H vs us Q I r h
 obtain ⟨v,vr,e1,h⟩:=h
 subst e1
 cases r with
 | cons r rr =>
  rw[hs]
  refine assignInOrder_cons (thn (h1 pins s σ H _ _ _ I r h) fun _ s1 ⟨σ1,H1,I1,q1⟩=>?_)
  exact h2 pins s1 σ1 H1 _ _ Q I1 rr q1
def zxW (K:W.Frag) (n:Nat) (t:TGs):TG:=fun v σ H Q=>∃ a xs,v=.ref a/\SqT K H a xs/\xs.length=n/\t xs σ H Q
theorem zjZ {es:List Expr} {k:Nat} {t:TGs} {n:Nat} (hc:X.calm=true) (h:PGs X es t)
  (hn:(assignEach es X.env).length=n:=by rfl) (hst:(assignEach es X.env).findIdx? (·.1)=none:=by rfl):PG X (.Tuple es k pos) (zxW X.K n t):=by
 intro pins s σ H v u Q I r hw
 obtain ⟨a,xs,e1,hq,hl,hw⟩:=hw
 subst e1
 cases r
 obtain ⟨its,rv,ht,hz⟩:=I.tuple hq
 refine assign_Tuple_tuple (I.ok.hd hc) ht (by simp[hn,<-hl,rv.length]) hst fun h' hx=>?_
 have I1:Inv X pins σ H { s with heap:=h' }:=I.kept (t':=s.toks) fun b o e=>hx b o (ydd (ydu e)) e
 exact h pins _ σ H xs _ Q I1 (by simpa using rv) hw
def zyb (to ti:TE) (t:TSet):TG:=fun v σ H Q=>to σ H fun o H1=>ti σ H1 fun i H2=>t o i v H2 fun H3=>Q σ H3
theorem zwU {o i:Expr} {to ti:TE} {t:TSet} (ho:PE X o to) (hi:PE X i ti) (hs:PSet X t)
  (ha:∀ v,assign (.Subscript o i pos) X.env v=(do
   let ov <-holding [v] (eval o X.env)
   let iv <-holding [v,ov] (eval i X.env)
   standAt pos
   holding [v,ov,iv] (setItem ov iv v)
   release [v,ov,iv] []):=by intro _;rfl):PG X (.Subscript o i pos) (zyb to ti t):=by
 intro pins s σ H v u Q I r h
 rw[ha]
 refine wpAny_bind (wpAny_holding (thn (ho pins s σ H _ I h) fun ov s1 ⟨x,H1,I1,r1,q1⟩=>?_))
 refine wpAny_bind (wpAny_holding (thn (hi pins s1 σ H1 _ I1 q1) fun iv s2 ⟨y,H2,I2,r2,q2⟩=>?_))
 refine wpAny_bind (wpAny_standAt (wpAny_bind (wpAny_holding (thn (hs pins s2 σ H2 x y v ov iv u _ I2 r1 r2 r q2) fun _ s3 ⟨H3,I3,q3⟩=>?_))))
 exact wpAny_release ⟨σ,H3,I3,q3⟩
def zsi (te:TE) (g:TG):TS:=fun D σ H=>te σ H fun x H1=>g x σ H1 D.nx
theorem zmF {tg e:Expr} {te:TE} {g:TG} (he:PE X e te) (hg:PG X tg g) (hs:swapsWithSole [tg] e pos.line X.env=pure false:=by rfl) (hw:swappedStores [tg] e X.env=pure none:=by rfl)
  (h1:(assignEach [tg] X.env).map (·.2)=[assign tg X.env]:=by rfl):PS X (.Assign [tg] e pos) (zsi te g):=by
 intro pins s σ H D I h
 refine wpAny_Assign_stores (thn (he pins s σ H _ I h) fun v s1 ⟨x,H1,I1,r1,q1⟩=>?_) hs hw
 rw[h1]
 exact thn (hg pins s1 σ H1 x v _ I1 r1 q1) fun _ s2 q=>q
theorem zo {i:Nat} {x:Str} {e:Expr} {te:TE} {pos':Pos} (hN:X.N.Nodup) (hi:X.N[i]?=some x) (hx:Loc X.env.scope x) (he:PE X e te) (hs:swapsWith e (some (.Name x pos')) pos.line X.env=pure false:=by rfl) (hf:X.fn x=true\/X.env.scope.names.lookup x=some .local:=by first | exact .inl rfl | exact .inr rfl | assumption) :
  PS X (.Assign [.Name x pos'] e pos) (zsi te (zho i)):=by
 intro pins s σ H D I h
 refine wpAny_Assign_Name (thn (he pins s σ H _ I h) fun v s1 ⟨y,H1,I1,r1,q1⟩=>?_) hs
 exact zpW I1 hN hi hx r1 (fun s2 I2=>⟨_,H1,I2,q1⟩) hf
end
section
variable {X:Cx} {pos:Pos}
def zwB (c:TT) (tb:TS):TS:=fun D σ H=>∃ W:Nat->St->Hp->Prop,(∃ m,W m σ H)/\∀ m σ H,W m σ H ->
 c σ H fun b H1=>if b=true then ∃ N:St->Hp->Prop,(∀ σ' H',N σ' H'->∃ m',m'<m/\W m' σ' H')/\tb { D with nx:=N,ct:=N,bk:=D.nx } σ H1 else D.nx σ H1
theorem zju {c:Expr} {body:List Stmt} {tc:TT} {tb:TS} (hp:PassesOwn (model X.prog X.w) X.A X.env X.xe) (hc:PT X c tc) (hb:PSs X body tb):PS X (.While c body [] pos) (zwB tc tb):=by
 intro pins s σ H D I h
 obtain ⟨W,⟨m0,w0⟩,turn⟩:=h
 refine wpAny_While (codeAny_whileLoop (fun n s'=>∃ σ' H',Inv X pins σ' H' s'/\W n σ' H') ?_ m0 ⟨σ,H,I,w0⟩)
 rintro n s1 ⟨σ1,H1,I1,w1⟩
 refine wpAny_passesOwn hp (thn (hc pins s1 σ1 H1 _ I1 (turn n σ1 H1 w1)) fun b s2 ⟨H2,I2,q2⟩=>?_)
 cases b with
 | true =>
  obtain ⟨N,hN,q2⟩:=q2
  rw[if_pos rfl]
  refine wpAny_passesOwn hp (thn (hb pins s2 σ1 H2 _ I2 q2) fun f s3 q3=>?_)
  cases f with
  | next =>
   obtain ⟨σ3,H3,I3,n3⟩:=q3
   obtain ⟨m',hm,w3⟩:=hN σ3 H3 n3
   exact ⟨m',hm,σ3,H3,I3,w3⟩
  | cont =>
   obtain ⟨σ3,H3,I3,n3⟩:=q3
   obtain ⟨m',hm,w3⟩:=hN σ3 H3 n3
   exact ⟨m',hm,σ3,H3,I3,w3⟩
  | brk=>exact q3
  | ret v=>exact q3
 | false =>
  rw[if_neg Bool.false_ne_true]
  exact wpAny_execs_nil ⟨σ1,H2,I2,q2⟩
end
structure It where
 go:Nat->Hp->Prop
 yld:Nat->Hp->V->Hp->Prop
 stop:Nat->Hp->Prop
def zcB (X:Cx) (pins:List (Addr × Obj)) (H:Hp) (b:Addr):Prop :=
 H b=none/\b≠X.env.locals/\b ∉ X.fs/\(b∈X.ex\/X.s₀.heap.objs.size<=b)/\(∀ x c,X.env.cells.lookup x=some c->c≠b)/\∀ p∈X.pn++pins,p.1≠b
theorem Inv.zsk {X:Cx} {pins:List (Addr × Obj)} {σ:St} {H H':Hp} {s:Shared} {b:Addr} (I:Inv X pins σ H s) (hb:s.heap.objs.size<=b) (hn:H' b=none):zcB X pins H' b:=by
 refine ⟨hn,ydl (ydg I.lt hb),I.nofs hb,.inr (ydh I.sz hb),fun x c e z=>?_,fun p hp z=>?_⟩
 ·obtain ⟨v,q⟩:=I.cell x c e
  exact absurd (ydg q.lt (by rw[z];exact hb)) (ydj _)
 ·exact absurd (ydg (ydu (I.pin p hp).1) (by rw[z];exact hb)) (ydj _)
structure Turn (P:Program) (w:World) (K:W.Frag) (tg:Expr) (J:It) (fp:List Addr) (it:Addr) (tn:Nat->Heap->Prop):Prop where
 mem:it∈fp
 obj:∀ i h,tn i h->∀ b∈fp,∃ o,h.get? b=some o/\∀ v,o.data≠.cell v
 keep:∀ i h h',tn i h->(∀ b∈fp,∀ o,h.get? b=some o->h'.get? b=some o)->tn i h'
 item:∀ (X:Cx),X.prog=P->X.w=w->X.K=K->X.calm=true->∀ (i:Nat) (pins:List (Addr × Obj)) (s:Shared) (σ:St) (H:Hp) (E:Value->Shared->Prop),Inv X pins σ H s->(∀ b∈fp,zcB X pins H b)->tn i s.heap->J.go i H ->
  wpAny (model P w) X.A (pyNext (.ref it)) (fun r s1=>∃ u,r=some u /\
   wpAny (model P w) X.A (letOwnedTupleGo tg (.ref it) u) (fun _ s2=>∃ x H',Inv X pins σ H' s2/\RelV x u/\J.yld i H x H'/\tn (i+1) s2.heap/\∀ b∈fp,H' b=none) E s1) E s
 done:∀ (X:Cx),X.prog=P->X.w=w->X.K=K->X.calm=true->∀ (i:Nat) (pins:List (Addr × Obj)) (s:Shared) (σ:St) (H:Hp) (E:Value->Shared->Prop),Inv X pins σ H s->(∀ b∈fp,zcB X pins H b)->tn i s.heap->J.stop i H ->
  wpAny (model P w) X.A (pyNext (.ref it)) (fun r s1=>r=none/\Inv X pins σ H s1) E s
 self:∀ (A:Around) (i:Nat) (s:Shared) (Q:Value->Shared->Prop) (E:Value->Shared->Prop),tn i s.heap->Q (.ref it) s->wpAny (model P w) A (pyIter (.ref it)) Q E s
noncomputable abbrev TI:=St->Hp->(It->Hp->Prop)->Prop
def PIE (X:Cx) (pins:List (Addr × Obj)) (σ:St) (tg:Expr) (R:It->Hp->Prop) (itv:Value) (s2:Shared):Prop :=
 ∃ (it:Addr) (fp:List Addr) (tn:Nat->Heap->Prop) (J:It) (H':Hp),itv=.ref it/\Inv X pins σ H' s2/\Turn X.prog X.w X.K tg J fp it tn/\tn 0 s2.heap/\(∀ b∈fp,zcB X pins H' b)/\R J H'
def PI (X:Cx) (tg iter:Expr) (wi:TI):Prop :=
 ∀ (pins:List (Addr × Obj)) (s:Shared) (σ:St) (H:Hp) (R:It->Hp->Prop),Inv X pins σ H s->wi σ H R ->
  wpAny (model X.prog X.w) X.A (eval iter X.env) (fun v s1=>wpAny (model X.prog X.w) X.A (pyIter v) (PIE X pins σ tg R) X.xe s1) X.xe s
theorem zvk {M:Model} {A:Around} {E:Value->Shared->Prop} {s:Shared} {tg:Expr} {it:Addr} {u:Value} {o:Obj} {n:String} {vs:Array Value} {Q:Unit->Shared->Prop} (ho:s.heap.get? it=some o) (hc:o.cls=.type n) (hd:o.data=.fields vs)
  (hn:["enumerate", "zip", "dict_itemiterator", "dict_reverseitemiterator", "odict_iterator", "itertools.zip_longest", "itertools.pairwise"].contains n=false) (hQ:Q () s):wpAny M A (letOwnedTupleGo tg (.ref it) u) Q E s:=by
 unfold letOwnedTupleGo
 cases tg <;> first
  | exact wpAny_pure hQ
  | (cases u <;> first
    | exact wpAny_pure hQ
    | (refine wpAny_bind (wpAny_load ho ?_)
       rw[hc,hd]
       show wpAny M A (if (["enumerate", "zip", "dict_itemiterator", "dict_reverseitemiterator", "odict_iterator", "itertools.zip_longest", "itertools.pairwise"].contains n && vs[0]? == some (rawInt _))=true then _ else _) Q E s
       rw[if_neg (by intro h;rw[hn,Bool.false_and] at h;cases h)]
       exact wpAny_pure hQ))
noncomputable def Itl (K:W.Frag) (a:Addr):It :=
 ⟨fun i H=>∃ xs x,SqL K H a xs/\xs[i]?=some x,fun i H x H'=>H'=H/\∀ xs,SqL K H a xs->xs[i]?=some x,fun i H=>∃ xs,SqL K H a xs/\xs.length<=i⟩
noncomputable def Itr (lo:Int) (n:Nat):It:=⟨fun i _=>i<n,fun i H x H'=>H'=H/\x=.int (lo+i),fun i _=>n<=i⟩
theorem ztA {P:Program} {w:World} {K:W.Frag} {tg:Expr} (a it:Addr):Turn P w K tg (Itl K a) [it] it (fun i h=>h.IsListIter it a i) where
 mem:=by simp
 obj:=fun i h st b hb=>by
  have e:b=it:=by simpa using hb
  subst e
  obtain ⟨o,e,c,d⟩:=st
  exact ⟨o,e,fun v z=>by rw[d] at z;cases z⟩
 keep:=fun i h h' st k=>st.at fun o e=>k it (by simp) o e
 item:=by
  intro X hP hw hK hc i pins s σ H E I hf st hg
  subst hP hw hK
  obtain ⟨xs,x,hq,hx⟩:=hg
  obtain ⟨its,rv,p,hz⟩:=I.list hq
  obtain ⟨u,hu,ru⟩:=rv.get hx
  obtain ⟨f0,f1,f2,f3,f4,f5⟩:=hf it (by simp)
  refine wpAny_pyNext_list_item st p.isList (x:=u) (by simpa using hu) fun h' st' sb=>?_
  have I1:Inv X pins σ H { s with heap:=h' }:=I.turned (t':=s.toks) (fun b o hb e=>(sb.2 b hb).trans e) f0 f1 f3 f4 f5
  obtain ⟨o,e,c,d⟩:=id st'
  exact ⟨u,rfl,zvk (s:={ s with heap:=h' }) e c d (by decide) ⟨x,H,I1,ru,⟨rfl,fun ys hy=>by rw[I.zuU hy hq];exact hx⟩,st',fun b hb=>(hf b hb).1⟩⟩
 done:=by
  intro X hP hw hK hc i pins s σ H E I hf st hg
  subst hP hw hK
  obtain ⟨xs,hq,hx⟩:=hg
  obtain ⟨its,rv,p,hz⟩:=I.list hq
  obtain ⟨f0,f1,f2,f3,f4,f5⟩:=hf it (by simp)
  have hl:=rv.length
  exact wpAny_pyNext_list_end (I.ok.hd hc) st p.isList (by simp;ac_rfl) fun h' eb=>⟨rfl,I.turned (t':=s.toks) (fun b o hb e=>eb b o hb e) f0 f1 f3 f4 f5⟩
 self:=fun _ _ _ _ _ st h=>wpAny_pyIter_listiter st h
theorem zso {P:Program} {w:World} {K:W.Frag} {tg:Expr} (it:Addr) (lo:Int) (n:Nat):Turn P w K tg (Itr lo n) [it] it (fun i h=>IsRangeIter h it (lo+(i:Nat)*1) ((n:Int)-(i:Nat)) 1) where
 mem:=by simp
 obj:=fun i h st b hb=>by
  have e:b=it:=by simpa using hb
  subst e
  exact ⟨_,st,fun v z=>by
   have z':Data.fields _=Data.cell v:=z
   cases z'⟩
 keep:=fun i h h' st k=>k it (by simp) _ st
 item:=by
  intro X hP hw hK hc i pins s σ H E I hf st hg
  subst hP hw hK
  obtain ⟨f0,f1,f2,f3,f4,f5⟩:=hf it (by simp)
  have W:=Walks.range (prog:=X.prog) (w:=X.w) (I.ok.hd hc) it lo 1 n
  refine W.item i s _ _ hg st fun v h' tk hv st' kk=>?_
  obtain ⟨t,rfl⟩:=hv
  have I1:Inv X pins σ H { s with heap:=h',toks:=tk }:=I.turned (fun b o hb e=>kk b o (by simpa using hb) e) f0 f1 f3 f4 f5
  refine ⟨_,rfl,zvk (s:={ s with heap:=h',toks:=tk }) (n:="range_iterator") st' rfl rfl (by decide) ⟨.int (lo+i),H,I1,⟨t,?_⟩,⟨rfl,rfl⟩,st',fun b hb=>(hf b hb).1⟩⟩
  rw[Int.mul_one]
 done:=by
  intro X hP hw hK hc i pins s σ H E I hf st hg
  subst hP hw hK
  obtain ⟨f0,f1,f2,f3,f4,f5⟩:=hf it (by simp)
  exact wpAny_pyNext_range_end (I.ok.hd hc) st (by have:n<=i:=hg;ac_rfl) fun h' eb=>⟨rfl,I.turned (t':=s.toks) (fun b o hb e=>eb b o hb e) f0 f1 f3 f4 f5⟩
 self:=fun _ _ _ _ _ st h=>wpAny_pyIter_rangeiter st h
section
variable {X:Cx} {tg:Expr}
def zxj (K:W.Frag) (tl:TE):TI:=fun σ H R=>tl σ H fun x H1=>∃ a,x=.ref a/\(∃ xs,SqL K H1 a xs)/\R (Itl K a) H1
theorem zQ {l:Expr} {tl:TE} (hl:PE X l tl):PI X tg l (zxj X.K tl):=by
 intro pins s σ H R I h
 refine thn (hl pins s σ H _ I h) fun v s1 ⟨x,H1,I1,r1,q1⟩=>?_
 obtain ⟨a,e,⟨xs,hq⟩,q⟩:=q1
 subst e
 cases r1
 obtain ⟨its,rv,p,hz⟩:=I1.list hq
 refine wpAny_pyIter_list p.isList ?_
 refine ⟨s1.heap.objs.size,[s1.heap.objs.size],_,_,H1,rfl,I1.kept (t':=s1.toks) fun b o e=>ydt _ e,ztA a _,⟨_,ydv _ rfl,rfl,rfl⟩,fun b hb=>?_,q⟩
 have e:b=s1.heap.objs.size:=by simpa using hb
 subst e
 exact I1.zsk (ydc _) (I1.hok.fresh (ydc _))
theorem zo0 {pins:List (Addr × Obj)} {σ:St} {H:Hp} {s:Shared} {R:It->Hp->Prop} {E:Value->Shared->Prop} {lo hi:Int} {t u v:Tok} {tk:Nat} (I:Inv X pins σ H s) (h1:-(2 ^ 62)<=lo) (h2:lo<2 ^ 62) (h3:-(2 ^ 62)<=hi) (h4:hi<2 ^ 62)
  (q:R (Itr lo (hi-lo).toNat) H):wpAny (model X.prog X.w) X.A (pyIter (.ref s.heap.objs.size)) (PIE X pins σ tg R) E { s with heap:=s.heap.push { cls:=.type "range", data:=.fields #[.int lo t,.int hi u,.int 1 v] },toks:=tk }:=by
 refine wpAny_pyIter_range (IsRange.new ..) (small_one h1 h2 h3 h4) ?_
 have I1:Inv X pins σ H { s with heap:=s.heap.push { cls:=.type "range", data:=.fields #[.int lo t,.int hi u,.int 1 v] },toks:=tk }:=I.kept fun b o e=>ydt _ e
 refine ⟨(s.heap.push { cls:=.type "range", data:=.fields #[.int lo t,.int hi u,.int 1 v] }).objs.size,[(s.heap.push { cls:=.type "range", data:=.fields #[.int lo t,.int hi u,.int 1 v] }).objs.size],_,_,H,rfl,
  I1.kept (t':=tk) fun b o e=>ydt _ e,zso _ lo (hi-lo).toNat,?_,fun b hb=>?_,q⟩
 ·have e1:lo+((0:Nat):Int)*1=lo:=by simp
  have e2:(((hi-lo).toNat:Nat):Int)-((0:Nat):Int)=Builtin.Range.rangeSize lo hi 1:=by rw[rangeSize_one];split <;> ac_rfl
  show IsRangeIter _ _ (lo+((0:Nat):Int)*1) ((((hi-lo).toNat:Nat):Int)-((0:Nat):Int)) 1
  rw[e1,e2]
  exact ydv _ rfl
 ·have e:b=(s.heap.push { cls:=.type "range", data:=.fields #[.int lo t,.int hi u,.int 1 v] }).objs.size:=by simpa using hb
  subst e
  exact I1.zsk (ydc _) (I1.hok.fresh (ydc _))
def zxt (ta:TA):TI:=fun σ H R=>ta σ H fun vs H1=>∃ j:Int,vs=[.int j] /\ -(2 ^ 62)<=j/\j<2 ^ 62/\R (Itr 0 j.toNat) H1
def zxA (ta:TA):TI:=fun σ H R=>ta σ H fun vs H1=>∃ i j:Int,vs=[.int i,.int j]/\(-(2 ^ 62)<=i/\i<2 ^ 62 /\ -(2 ^ 62)<=j/\j<2 ^ 62)/\R (Itr i (j-i).toNat) H1
theorem zhx {a:Expr} {ta:TA} {p pos:Pos} (hg:Gl X "range") (hm:X.mg "range" = none) (ha:PA X [a] ta) (hs:starEach [a] X.env=[(false,eval a X.env)]:=by rfl):PI X tg (.Call (.Name "range" p) [a] [] pos) (zxt ta):=by
 intro pins s σ H R I h
 refine Call_ (zkr I hg hm boot_range (PyProof.Rows.callWith_type1 (thn (ha pos pins s σ H _ I h) fun us s1 ⟨vs,H1,I1,r1,q1⟩=>?_) hs rfl))
 obtain ⟨j,e,q1,q2,q⟩:=q1
 subst e
 cases r1 with
 | cons r rr =>
  cases rr
  obtain ⟨t,rfl⟩:=r
  exact call_range_1 (zo0 I1 (by ac_rfl) (by ac_rfl) q1 q2 (by simpa using q))
theorem znz {a b:Expr} {ta:TA} {p pos:Pos} (hg:Gl X "range") (hm:X.mg "range" = none) (ha:PA X [a,b] ta) (hs:starEach [a,b] X.env=[(false,eval a X.env),(false,eval b X.env)]:=by rfl) (hs2:starEach [b] X.env=[(false,eval b X.env)]:=by rfl) :
  PI X tg (.Call (.Name "range" p) [a,b] [] pos) (zxA ta):=by
 intro pins s σ H R I h
 refine Call_ (zkr I hg hm boot_range (PyProof.Rows.callWith_type1 (thn (ha pos pins s σ H _ I h) fun us s1 ⟨vs,H1,I1,r1,q1⟩=>?_) (by rw[hs,hs2]) (by rw[hs2];rfl)))
 obtain ⟨i,j,e,⟨q1,q2,q3,q4⟩,q⟩:=q1
 subst e
 cases r1 with
 | cons r rr =>
  cases rr with
  | cons r' rr =>
   cases rr
   obtain ⟨t,rfl⟩:=r
   obtain ⟨t',rfl⟩:=r'
   exact call_range_2 (zo0 I1 q1 q2 q3 q4 q)
def zxL (wi:TI) (g:TG) (tb:TS):TS:=fun D σ H=>wi σ H fun J H1=>∃ W:Nat->Nat->St->Hp->Prop,(∃ m,W 0 m σ H1)/\∀ i m σ H,W i m σ H ->
 (J.stop i H/\D.nx σ H)\/(J.go i H/\∃ N:St->Hp->Prop,(∀ σ' H',N σ' H'->∃ m',m'<m/\W (i+1) m' σ' H')/\∀ x H',J.yld i H x H'->g x σ H' fun σ2 H2=>tb { D with nx:=N,ct:=N,bk:=D.nx } σ2 H2)
noncomputable def zkD (fp:List Addr) (h:Heap):List (Addr × Obj):=fp.filterMap fun b=>(h.get? b).map fun o=>(b,o)
theorem zcP {fp:List Addr} {h:Heap} {b:Addr} {o:Obj} (hb:b∈fp) (e:h.get? b=some o):(b,o)∈zkD fp h:=List.mem_filterMap.mpr ⟨b,hb,by rw[e];rfl⟩
theorem zs4 {fp:List Addr} {h:Heap} {p:Addr × Obj} (hp:p∈zkD fp h):p.1∈fp/\h.get? p.1=some p.2:=by
 obtain ⟨b,hb,e⟩:=List.mem_filterMap.mp hp
 cases q:h.get? b with
 | none=>rw[q] at e;cases e
 | some o =>
  rw[q] at e
  have e':(b,o)=p:=Option.some.inj e
  subst e'
  exact ⟨hb,q⟩
theorem Inv.pinned {pins:List (Addr × Obj)} {σ:St} {H:Hp} {s:Shared} {fp:List Addr} (I:Inv X pins σ H s) (hf:∀ b∈fp,zcB X pins H b) (ho:∀ b∈fp,∃ o,s.heap.get? b=some o/\∀ v,o.data≠.cell v):Inv X (pins++zkD fp s.heap) σ H s :=
 I.zmY fun p hp=>(yag.mp hp).elim (fun z=>I.pin p (yai _ z)) fun z=>by
  obtain ⟨hb,e⟩:=zs4 z
  obtain ⟨f0,f1,f2,_⟩:=hf p.1 hb
  obtain ⟨o,e',d⟩:=ho p.1 hb
  rw[e] at e';cases e'
  exact ⟨e,f0,f1,f2,d⟩
theorem Inv.unpinned {pins pl:List (Addr × Obj)} {σ:St} {H:Hp} {s:Shared} (I:Inv X (pins++pl) σ H s):Inv X pins σ H s:=I.zmY fun p hp=>I.pin p (yai _ (ybg _ hp))
theorem zcq {iter:Expr} {body:List Stmt} {wi:TI} {g:TG} {tb:TS} {pos:Pos} (hp:PassesOwn (model X.prog X.w) X.A X.env X.xe) (hc:X.calm=true) (hi:PI X tg iter wi) (hg:PG X tg g) (hb:PSs X body tb)
  (hs:∀ x,foldedSetIterable iter X.env x=pure x:=by intro _;rfl):PS X (.For tg iter body [] pos) (zxL wi g tb):=by
 intro pins s σ H D I h
 refine wpAny_For (thn (hi pins s σ H _ I h) fun v s1 h1=>thn h1 fun itv s2 h2=>?_) hs
 obtain ⟨it,fp,tn,J,H2,e,I2,T,st2,f2,W,⟨m0,w0⟩,turn⟩:=h2
 subst e
 have stat:∀ {H':Hp},(∀ b∈fp,H' b=none)->∀ b∈fp,zcB X pins H' b:=fun hn b hb=>⟨hn b hb,(f2 b hb).2⟩
 refine codeAny_forLoop_any (fun n s'=>∃ i σ' H',Inv X pins σ' H' s'/\tn i s'.heap/\(∀ b∈fp,H' b=none)/\W i n σ' H') ?_ m0 ⟨0,σ,H2,I2,st2,fun b hb=>(f2 b hb).1,w0⟩
 rintro n s3 ⟨i,σ3,H3,I3,st3,fr3,w3⟩
 rcases turn i n σ3 H3 w3 with ⟨stop,qn⟩ | ⟨go,N,hN,step⟩
 ·refine wpAny_passesOwn hp (thn (T.done X rfl rfl rfl hc i pins s3 σ3 H3 X.xe I3 (stat fr3) st3 stop) fun r s4 ⟨hr,I4⟩=>?_)
  subst hr
  exact wpAny_execs_nil ⟨σ3,H3,I4,qn⟩
 ·refine wpAny_passesOwn hp (thn (T.item X rfl rfl rfl hc i pins s3 σ3 H3 X.xe I3 (stat fr3) st3 go) fun r s4 ⟨u,hr,h4⟩=>?_)
  subst hr
  refine wpAny_passesOwn hp (thn h4 fun _ s5 ⟨x,H5,I5,r5,y5,st5,fr5⟩=>?_)
  have I5':=I5.pinned (stat fr5) (T.obj _ _ st5)
  refine wpAny_passesOwn hp (thn (hg _ s5 σ3 H5 x u _ I5' r5 (step x H5 y5)) fun _ s6 ⟨σ6,H6,I6,q6⟩=>?_)
  refine wpAny_passesOwn hp (thn (hb _ s6 σ6 H6 _ I6 q6) fun f s7 q7=>?_)
  have again:∀ {σ7:St} {H7:Hp},Inv X (pins++zkD fp s5.heap) σ7 H7 s7->N σ7 H7->∃ m,m<n/\∃ i σ' H',Inv X pins σ' H' s7/\tn i s7.heap/\(∀ b∈fp,H' b=none)/\W i m σ' H':=fun {σ7 H7} I7 n7=>by
   obtain ⟨m',hm,w7⟩:=hN σ7 H7 n7
   refine ⟨m',hm,i+1,σ7,H7,I7.unpinned,T.keep _ _ _ st5 fun b hb o e=>(I7.pin (b,o) (yai _ (yai _ (zcP hb e)))).1,fun b hb=>?_,w7⟩
   obtain ⟨o,e,d⟩:=T.obj _ _ st5 b hb
   exact (I7.pin (b,o) (yai _ (yai _ (zcP hb e)))).2.1
  cases f with
  | next=>obtain ⟨σ7,H7,I7,n7⟩:=q7;exact again I7 n7
  | cont=>obtain ⟨σ7,H7,I7,n7⟩:=q7;exact again I7 n7
  | brk=>obtain ⟨σ7,H7,I7,q7⟩:=q7;exact ⟨σ7,H7,I7.unpinned,q7⟩
  | ret v=>obtain ⟨x7,σ7,H7,I7,r7,q7⟩:=q7;exact ⟨x7,σ7,H7,I7.unpinned,r7,q7⟩
end
theorem zcr {K:W.Frag} {a:Addr} {xs:List V} {g:TG} {tb:TS} {D:Ends} {σ:St} {H:Hp} (Pv:Nat->St->Hp->Prop) (h0:Pv 0 σ H) (hl:∀ i σ H,i<=xs.length->Pv i σ H->SqL K H a xs)
  (hs:∀ i x σ H,xs[i]?=some x->Pv i σ H->g x σ H fun σ2 H2=>tb { D with nx:=Pv (i+1),ct:=Pv (i+1),bk:=D.nx } σ2 H2) (hd:∀ σ H,Pv xs.length σ H->D.nx σ H) :
  ∃ W:Nat->Nat->St->Hp->Prop,(∃ m,W 0 m σ H)/\∀ i m σ H,W i m σ H ->
   ((Itl K a).stop i H/\D.nx σ H)\/((Itl K a).go i H/\∃ N:St->Hp->Prop,(∀ σ' H',N σ' H'->∃ m',m'<m/\W (i+1) m' σ' H')/\∀ x H',(Itl K a).yld i H x H'->g x σ H' fun σ2 H2=>tb { D with nx:=N,ct:=N,bk:=D.nx } σ2 H2):=by
 refine ⟨fun i m σ H=>m=xs.length-i/\i<=xs.length/\Pv i σ H,⟨xs.length,by simp,ydf _,h0⟩,?_⟩
 rintro i m σ H ⟨rfl,hi,p⟩
 have q:=hl i σ H hi p
 by_cases hlt:i<xs.length
 ·refine .inr ⟨⟨xs,xs[i],q,by simp[hlt]⟩,Pv (i+1),fun σ' H' p'=>⟨xs.length-(i+1),by ac_rfl,rfl,hlt,p'⟩,fun x H' y=>?_⟩
  obtain ⟨e,y⟩:=y
  subst e
  exact hs i x σ _ (y xs q) p
 ·have e:i=xs.length:=by ac_rfl
  subst e
  exact .inl ⟨⟨xs,q,ydc _⟩,hd σ H p⟩
theorem zkA {lo:Int} {n:Nat} {g:TG} {tb:TS} {D:Ends} {σ:St} {H:Hp} (Pv:Nat->St->Hp->Prop) (h0:Pv 0 σ H)
  (hs:∀ i σ H,i<n->Pv i σ H->g (.int (lo+i)) σ H fun σ2 H2=>tb { D with nx:=Pv (i+1),ct:=Pv (i+1),bk:=D.nx } σ2 H2) (hd:∀ σ H,Pv n σ H->D.nx σ H) :
  ∃ W:Nat->Nat->St->Hp->Prop,(∃ m,W 0 m σ H)/\∀ i m σ H,W i m σ H ->
   ((Itr lo n).stop i H/\D.nx σ H)\/((Itr lo n).go i H/\∃ N:St->Hp->Prop,(∀ σ' H',N σ' H'->∃ m',m'<m/\W (i+1) m' σ' H')/\∀ x H',(Itr lo n).yld i H x H'->g x σ H' fun σ2 H2=>tb { D with nx:=N,ct:=N,bk:=D.nx } σ2 H2):=by
 refine ⟨fun i m σ H=>m=n-i/\i<=n/\Pv i σ H,⟨n,by simp,ydf _,h0⟩,?_⟩
 rintro i m σ H ⟨rfl,hi,p⟩
 by_cases hlt:i<n
 ·refine .inr ⟨hlt,Pv (i+1),fun σ' H' p'=>⟨n-(i+1),by ac_rfl,rfl,hlt,p'⟩,fun x H' y=>?_⟩
  obtain ⟨e,y⟩:=y
  subst e y
  exact hs i σ _ hlt p
 ·have e:i=n:=by ac_rfl
  subst e
  exact .inl ⟨ydc _,hd σ H p⟩
noncomputable abbrev R2:=V->V->Hp->VK->Prop
def OpR (X:Cx) (f:Value->Value->Sem Value) (r:R2):Prop :=
 ∀ (pins:List (Addr × Obj)) (s:Shared) (σ:St) (H:Hp) (x y:V) (v u:Value) (Q:VK),Inv X pins σ H s->RelV x v->RelV y u->r x y H Q ->
  wpAny (model X.prog X.w) X.A (f v u) (EP X pins σ Q) X.xe s
def UnR (X:Cx) (f:Value->Sem Value) (r:V->Hp->VK->Prop):Prop :=
 ∀ (pins:List (Addr × Obj)) (s:Shared) (σ:St) (H:Hp) (x:V) (v:Value) (Q:VK),Inv X pins σ H s->RelV x v->r x H Q ->
  wpAny (model X.prog X.w) X.A (f v) (EP X pins σ Q) X.xe s
def zbC (X:Cx) (f:Value) (r:List V->Hp->VK->Prop):Prop :=
 ∀ (pins:List (Addr × Obj)) (s:Shared) (σ:St) (H:Hp) (xs:List V) (us:List Value) (Q:VK),Inv X pins σ H s->Vals xs us->r xs H Q ->
  wpAny (model X.prog X.w) X.A (call f us) (EP X pins σ Q) X.xe s
def tOp (r:R2) (ta tb:TE):TE:=fun σ H Q=>ta σ H fun x H1=>tb σ H1 fun y H2=>r x y H2 Q
def tUn (r:V->Hp->VK->Prop) (ta:TE):TE:=fun σ H Q=>ta σ H fun x H1=>r x H1 Q
def rI (C:Int->Int->Prop) (g:Int->Int->V):R2:=fun x y H Q=>∃ i j,x=.int i/\y=.int j/\C i j/\Q (g i j) H
def rI0 (g:Int->Int->V):R2:=fun x y H Q=>∃ i j,x=.int i/\y=.int j/\Q (g i j) H
noncomputable def rU (g:Int->V):V->Hp->VK->Prop:=fun x H Q=>∃ i,x=.int i/\Q (g i) H
section
variable {X:Cx} {a b c:Expr} {ta tb tc:TE} {pos:Pos}
theorem zuB (ha:PE X a ta) (hb:PE X b tb) {pins:List (Addr × Obj)} {s:Shared} {σ:St} {H:Hp} {R:V->V->Hp->Prop} (I:Inv X pins σ H s)
  (h:ta σ H fun x H1=>tb σ H1 fun y H2=>R x y H2) {Q:Value->Shared->Prop} {f:Value->Value->Sem Value}
  (hf:∀ v u s2 x y H2,Inv X pins σ H2 s2->RelV x v->RelV y u->R x y H2->wpAny (model X.prog X.w) X.A (f v u) Q X.xe s2) :
  wpAny (model X.prog X.w) X.A (eval a X.env) (fun v s₁=>wpAny (model X.prog X.w) X.A (eval b X.env) (fun u s₂=>wpAny (model X.prog X.w) X.A (f v u) Q X.xe s₂) X.xe s₁) X.xe s:=by
 refine thn (ha pins s σ H _ I h) fun v s1 ⟨x,H1,I1,r1,q1⟩=>?_
 refine thn (hb pins s1 σ H1 _ I1 q1) fun u s2 ⟨y,H2,I2,r2,q2⟩=>?_
 exact hf v u s2 x y H2 I2 r1 r2 q2
theorem zh {op:Operator} {r:R2} (ho:OpR X (binaryOp op) r) (ha:PE X a ta) (hb:PE X b tb):PE X (.BinOp a op b pos) (tOp r ta tb):=by
 intro pins s σ H Q I h
 exact wpAny_BinOp (zuB ha hb I h fun v u s2 x y H2 I2 rx ry q=>ho pins s2 σ H2 x y v u Q I2 rx ry q)
theorem zjb {op:UnaryOp} {r:V->Hp->VK->Prop} (ho:UnR X (unaryOp op) r) (ha:PE X a ta):PE X (.UnaryOp op a pos) (tUn r ta):=by
 intro pins s σ H Q I h
 exact UnaryOp_ (thn (ha pins s σ H _ I h) fun v s1 ⟨x,H1,I1,r1,q1⟩=>ho pins s1 σ H1 x v Q I1 r1 q1)
theorem opI {f:Value->Value->Sem Value} {C:Int->Int->Prop} {g:Int->Int->Int}
  (rule:∀ (i j:Int) (t u:Tok) (s:Shared) (Q:Value->Shared->Prop) (E:Value->Shared->Prop),C i j->Q (.int (g i j) s.toks) { s with toks:=s.toks+1 }->wpAny (model X.prog X.w) X.A (f (.int i t) (.int j u)) Q E s) :
  OpR X f (rI C fun i j=>.int (g i j)):=by
 intro pins s σ H x y v u Q I rx ry h
 obtain ⟨i,j,rfl,rfl,hc,q⟩:=h
 obtain ⟨t,rfl⟩:=rx
 obtain ⟨t',rfl⟩:=ry
 exact rule i j t t' s _ _ hc ⟨.int (g i j),H,I.tok _,⟨_,rfl⟩,q⟩
theorem zwx {f:Value->Value->Sem Value} {g:Int->Int->Int}
  (rule:∀ (i j:Int) (t u:Tok) (s:Shared) (Q:Value->Shared->Prop) (E:Value->Shared->Prop),Q (.int (g i j) s.toks) { s with toks:=s.toks+1 }->wpAny (model X.prog X.w) X.A (f (.int i t) (.int j u)) Q E s) :
  OpR X f (rI0 fun i j=>.int (g i j)):=by
 intro pins s σ H x y v u Q I rx ry h
 obtain ⟨i,j,rfl,rfl,q⟩:=h
 obtain ⟨t,rfl⟩:=rx
 obtain ⟨t',rfl⟩:=ry
 exact rule i j t t' s _ _ ⟨.int (g i j),H,I.tok _,⟨_,rfl⟩,q⟩
theorem zsm {f:Value->Value->Sem Value} {g:Int->Int->Bool}
  (rule:∀ (i j:Int) (t u:Tok) (s:Shared) (Q:Value->Shared->Prop) (E:Value->Shared->Prop),Q (.bool (g i j)) s->wpAny (model X.prog X.w) X.A (f (.int i t) (.int j u)) Q E s) :
  OpR X f (rI0 fun i j=>.bl (g i j)):=by
 intro pins s σ H x y v u Q I rx ry h
 obtain ⟨i,j,rfl,rfl,q⟩:=h
 obtain ⟨t,rfl⟩:=rx
 obtain ⟨t',rfl⟩:=ry
 exact rule i j t t' s _ _ ⟨.bl (g i j),H,I,rfl,q⟩
def CDiv (i j:Int):Prop:=0<j/\j<1073741824
def CPow (i j:Int):Prop:=0<=j/\j<=1000000/\i.natAbs<2 ^ 64
def CMul (i j:Int):Prop:=(-(2 ^ 64)<i/\i<2 ^ 64)\/(-(2 ^ 64)<j/\j<2 ^ 64)
theorem CMul.ok {i j:Int} (h:CMul i j):IntMulOk i j:=by
 rcases h with ⟨h1,h2⟩ | ⟨h1,h2⟩
 ·exact .of_left (intBits_le_64 h1 h2)
 ·exact .of_right (intBits_le_64 h1 h2)
theorem zF:OpR X (binaryOp .Add) (rI0 fun i j=>.int (i+j)):=zwx fun _ _ _ _ _ _ _ q=>add_int q
theorem zV:OpR X (binaryOp .Sub) (rI0 fun i j=>.int (i-j)):=zwx fun _ _ _ _ _ _ _ q=>sub_int q
theorem zar:OpR X (binaryOp .Mult) (rI CMul fun i j=>.int (i*j)):=opI fun _ _ _ _ _ _ _ hc q=>mul_int q hc.ok
theorem zS:OpR X (binaryOp .FloorDiv) (rI CDiv fun i j=>.int (i / j)):=opI fun i j _ _ _ _ _ hc q=>by
 have h1:(0:Int)<j:=hc.1
 have h2:j<1073741824:=hc.2
 exact floordiv_int (by ac_rfl) (by rw[Int.fdiv_eq_ediv_of_nonneg i (by ac_rfl)];exact q) (.inl (PyProof.noPylong_small (by ac_rfl)))
theorem zI:OpR X (binaryOp .Mod) (rI (fun _ j=>0<j) fun i j=>.int (i % j)):=opI fun i j _ _ _ _ _ hc q=>by
 have h1:(0:Int)<j:=hc
 exact mod_int' (by ac_rfl) (by rw[Int.fmod_eq_emod_of_nonneg i (by ac_rfl)];exact q)
theorem zw0:OpR X (binaryOp .Pow) (rI CPow fun i j=>.int (i ^ j.toNat)):=opI fun _ _ _ _ _ _ _ hc q=>pow_int_small hc.1 hc.2.1 hc.2.2 q
theorem unI {f:Value->Sem Value} {g:Int->Int}
  (rule:∀ (i:Int) (t:Tok) (s:Shared) (Q:Value->Shared->Prop) (E:Value->Shared->Prop),Q (.int (g i) s.toks) { s with toks:=s.toks+1 }->wpAny (model X.prog X.w) X.A (f (.int i t)) Q E s) :
  UnR X f (rU fun i=>.int (g i)):=by
 intro pins s σ H x v Q I rx h
 obtain ⟨i,rfl,q⟩:=h
 obtain ⟨t,rfl⟩:=rx
 exact rule i t s _ _ ⟨.int (g i),H,I.tok _,⟨_,rfl⟩,q⟩
theorem zgx:UnR X (unaryOp .USub) (rU fun i=>.int (-i)):=unI fun _ _ _ _ _ q=>neg_int q
end
noncomputable def scal:V->V->Bool
 | .non,.non=>true | .non,.int _=>true | .int _,.non=>true | .non,.bl _=>true | .bl _,.non=>true | .non,.str _=>true | .str _,.non=>true
 | .int _,.int _=>true | .bl _,.bl _=>true | .str _,.str _=>true | .byt _,.byt _=>true
 | .int _,.str _=>true | .str _,.int _=>true | .bl _,.str _=>true | .str _,.bl _=>true
 | _,_=>false
def rEq:R2:=fun x y H Q=>scal x y=true/\Q (.bl (decide (x=y))) H
def rNe:R2:=fun x y H Q=>scal x y=true/\Q (.bl (!decide (x=y))) H
theorem zrx {i j:Int}:decide (V.int i=V.int j)=(i == j):=by
 rw[Bool.eq_iff_iff]
 simp
theorem ztt {i j:Bool}:decide (V.bl i=V.bl j)=(i == j):=by
 rw[Bool.eq_iff_iff]
 simp
theorem zr4 {i j:Str}:decide (V.str i=V.str j)=(i == j):=by
 rw[Bool.eq_iff_iff]
 simp
theorem zrK {i j:Array UInt8}:decide (V.byt i=V.byt j)=(i.toList == j.toList):=by
 rw[Bool.eq_iff_iff]
 cases i
 cases j
 simp
section
variable {X:Cx} {a b c:Expr} {ta tb tc:TE} {pos:Pos}
theorem zak {pins:List (Addr × Obj)} {σ:St} {H:Hp} {s:Shared} {Q:VK} {k k':Bool} (I:Inv X pins σ H s) (q:Q (.bl k) H) (e:k=k'):EP X pins σ Q (.bool k') s:=by
 subst e
 exact ⟨.bl k,H,I,rfl,q⟩
theorem zan:OpR X (compareOp .Eq) rEq:=by
 intro pins s σ H x y v u Q I rx ry h
 obtain ⟨hs,q⟩:=h
 cases x with
 | non =>
  cases rx
  cases y with
  | non=>cases ry;exact PySem.EqNone.eq_none_none (zak I q (by simp))
  | bl j=>cases ry;exact PySem.EqNone.eq_none_bool (zak I q (by simp))
  | int j=>obtain ⟨t',rfl⟩:=ry;exact PySem.EqNone.eq_none_int (zak I q (by simp))
  | str j=>obtain ⟨t',rfl⟩:=ry;exact PySem.EqNone.eq_none_str (zak I q (by simp))
  | _=>exact absurd (show false=true from hs) Bool.false_ne_true
 | bl i =>
  cases rx
  cases y with
  | non=>cases ry;exact PySem.EqNone.eq_bool_none (zak I q (by simp))
  | bl j=>cases ry;exact eq_bool (zak I q ztt)
  | str j=>obtain ⟨t',rfl⟩:=ry;exact PySem.EqMixed.eq_bool_str (zak I q (by simp))
  | _=>exact absurd (show false=true from hs) Bool.false_ne_true
 | int i =>
  obtain ⟨t,rfl⟩:=rx
  cases y with
  | non=>cases ry;exact PySem.EqNone.eq_int_none (zak I q (by simp))
  | int j=>obtain ⟨t',rfl⟩:=ry;exact eq_int (zak I q zrx)
  | str j=>obtain ⟨t',rfl⟩:=ry;exact PySem.EqMixed.eq_int_str (zak I q (by simp))
  | _=>exact absurd (show false=true from hs) Bool.false_ne_true
 | str i =>
  obtain ⟨t,rfl⟩:=rx
  cases y with
  | non=>cases ry;exact PySem.EqNone.eq_str_none (zak I q (by simp))
  | bl j=>cases ry;exact PySem.EqMixed.eq_str_bool (zak I q (by simp))
  | int j=>obtain ⟨t',rfl⟩:=ry;exact PySem.EqMixed.eq_str_int (zak I q (by simp))
  | str j=>obtain ⟨t',rfl⟩:=ry;exact eq_str (zak I q zr4)
  | _=>exact absurd (show false=true from hs) Bool.false_ne_true
 | byt i =>
  obtain ⟨t,rfl⟩:=rx
  cases y with
  | byt j=>obtain ⟨t',rfl⟩:=ry;exact PySem.W.eq_bytes (zak I q zrK)
  | _=>exact absurd (show false=true from hs) Bool.false_ne_true
 | _=>cases y <;> exact absurd (show false=true from hs) Bool.false_ne_true
theorem zoK:OpR X (compareOp .NotEq) rNe:=by
 intro pins s σ H x y v u Q I rx ry h
 obtain ⟨hs,q⟩:=h
 cases x with
 | non =>
  cases rx
  cases y with
  | non=>cases ry;exact PySem.EqNone.ne_none_none (zak I q (by simp))
  | bl j=>cases ry;exact PySem.EqNone.ne_none_bool (zak I q (by simp))
  | int j=>obtain ⟨t',rfl⟩:=ry;exact PySem.EqNone.ne_none_int (zak I q (by simp))
  | str j=>obtain ⟨t',rfl⟩:=ry;exact PySem.EqNone.ne_none_str (zak I q (by simp))
  | _=>exact absurd (show false=true from hs) Bool.false_ne_true
 | bl i =>
  cases rx
  cases y with
  | non=>cases ry;exact PySem.EqNone.ne_bool_none (zak I q (by simp))
  | bl j=>cases ry;exact ne_bool (zak I q (congrArg not ztt))
  | str j=>obtain ⟨t',rfl⟩:=ry;exact PySem.EqMixed.ne_bool_str (zak I q (by simp))
  | _=>exact absurd (show false=true from hs) Bool.false_ne_true
 | int i =>
  obtain ⟨t,rfl⟩:=rx
  cases y with
  | non=>cases ry;exact PySem.EqNone.ne_int_none (zak I q (by simp))
  | int j=>obtain ⟨t',rfl⟩:=ry;exact ne_int (zak I q (congrArg not zrx))
  | str j=>obtain ⟨t',rfl⟩:=ry;exact PySem.EqMixed.ne_int_str (zak I q (by simp))
  | _=>exact absurd (show false=true from hs) Bool.false_ne_true
 | str i =>
  obtain ⟨t,rfl⟩:=rx
  cases y with
  | non=>cases ry;exact PySem.EqNone.ne_str_none (zak I q (by simp))
  | bl j=>cases ry;exact PySem.EqMixed.ne_str_bool (zak I q (by simp))
  | int j=>obtain ⟨t',rfl⟩:=ry;exact PySem.EqMixed.ne_str_int (zak I q (by simp))
  | str j=>obtain ⟨t',rfl⟩:=ry;exact ne_str (zak I q (congrArg not zr4))
  | _=>exact absurd (show false=true from hs) Bool.false_ne_true
 | byt i =>
  obtain ⟨t,rfl⟩:=rx
  cases y with
  | byt j=>obtain ⟨t',rfl⟩:=ry;exact PySem.W.ne_bytes (zak I q (congrArg not zrK))
  | _=>exact absurd (show false=true from hs) Bool.false_ne_true
 | _=>cases y <;> exact absurd (show false=true from hs) Bool.false_ne_true
theorem ze4:OpR X (compareOp .Lt) (rI0 fun i j=>.bl (decide (i<j))):=zsm fun _ _ _ _ _ _ _ q=>lt_int q
theorem zds:OpR X (compareOp .LtE) (rI0 fun i j=>.bl (decide (i<=j))):=zsm fun _ _ _ _ _ _ _ q=>le_int q
theorem zfd:OpR X (compareOp .Gt) (rI0 fun i j=>.bl (decide (j<i))):=zsm fun _ _ _ _ _ _ _ q=>gt_int q
theorem zxp:OpR X (compareOp .GtE) (rI0 fun i j=>.bl (decide (j<=i))):=zsm fun _ _ _ _ _ _ _ q=>ge_int q
theorem nomark (b:Expr) {op:CmpOp} (h:op≠.In:=by decide) (h2:op≠.NotIn:=by decide):behindInMarks op b=false:=by
 have e1:(op == CmpOp.In)=false:=by cases op <;> first | rfl | exact absurd rfl h
 have e2:(op == CmpOp.NotIn)=false:=by cases op <;> first | rfl | exact absurd rfl h2
 cases b <;> simp[behindInMarks,e1,e2]
theorem zeI {op:CmpOp} {r:R2} (ho:OpR X (compareOp op) r) (ha:PE X a ta) (hb:PE X b tb) (hm:behindInMarks op b=false):PE X (.Compare a [op] [b] pos) (tOp r ta tb):=by
 intro pins s σ H Q I h
 exact wpAny_Compare1 (zuB ha hb I h fun v u s2 x y H2 I2 rx ry q=>ho pins s2 σ H2 x y v u Q I2 rx ry q) hm
def zvj (t:TE):TT:=fun σ H Q=>t σ H fun x H'=>∃ k,x=.bl k/\Q k H'
theorem zw {op:CmpOp} {r:R2} (ho:OpR X (compareOp op) r) (ha:PE X a ta) (hb:PE X b tb) (hm:behindInMarks op b=false):PT X (.Compare a [op] [b] pos) (zvj (tOp r ta tb)):=by
 intro pins s σ H Q I h
 refine wpAny_isTrue_Compare1 (thn (ha pins s σ H _ I h) fun v s1 ⟨x,H1,I1,r1,q1⟩=>thn (hb pins s1 σ H1 _ I1 q1) fun u s2 ⟨y,H2,I2,r2,q2⟩ =>
  thn (ho pins s2 σ H2 x y v u _ I2 r1 r2 q2) fun c s3 ⟨z,H3,I3,r3,k,e,q3⟩=>?_) hm
 subst e
 cases r3
 exact wpAny_truthy_bool ⟨H3,I3,q3⟩
def zt9 (r r':R2) (ta tb tc:TE):TE:=fun σ H Q=>ta σ H fun x H1=>tb σ H1 fun y H2=>r x y H2 fun z H3=>∃ k,z=.bl k /\
 (if k=true then tc σ H3 fun w' H4=>r' y w' H4 Q else Q (.bl false) H3)
theorem zuA {op op':CmpOp} {r r':R2} (ho:OpR X (compareOp op) r) (ho':OpR X (compareOp op') r') (ha:PE X a ta) (hb:PE X b tb) (hc:PE X c tc)
  (hm:lastMarks [op,op'] [b,c]=false:=by with_unfolding_all rfl):PE X (.Compare a [op,op'] [b,c] pos) (zt9 r r' ta tb tc):=by
 intro pins s σ H Q I h
 refine Compare_chain (thn (ha pins s σ H _ I h) fun v s1 ⟨x,H1,I1,r1,q1⟩=>chain_link (thn (hb pins s1 σ H1 _ I1 q1) fun u s2 ⟨y,H2,I2,r2,q2⟩ =>
  thn (ho pins s2 σ H2 x y v u _ I2 r1 r2 q2) fun d s3 ⟨z,H3,I3,r3,k,e,q3⟩=>?_)) hm
 subst e
 cases r3
 refine wpAny_truthy_bool ?_
 cases k with
 | false=>exact ite_ff ⟨.bl false,H3,I3,rfl,q3⟩
 | true=>exact ite_tt (chain_last (thn (hc pins s3 σ H3 _ I3 q3) fun w' s4 ⟨z',H4,I4,r4,q4⟩=>ho' pins s4 σ H4 y z' u w' Q I4 r2 r4 q4))
theorem zvb {op op':CmpOp} {r r':R2} (ho:OpR X (compareOp op) r) (ho':OpR X (compareOp op') r') (ha:PE X a ta) (hb:PE X b tb) (hc:PE X c tc)
  (hm:lastMarks [op,op'] [b,c]=false:=by with_unfolding_all rfl):PT X (.Compare a [op,op'] [b,c] pos) (zvj (zt9 r r' ta tb tc)):=by
 intro pins s σ H Q I h
 refine isTrue_chain (thn (ha pins s σ H _ I h) fun v s1 ⟨x,H1,I1,r1,q1⟩=>test_link (thn (hb pins s1 σ H1 _ I1 q1) fun u s2 ⟨y,H2,I2,r2,q2⟩ =>
  thn (ho pins s2 σ H2 x y v u _ I2 r1 r2 q2) fun d s3 ⟨z,H3,I3,r3,k,e,q3⟩=>?_)) hm
 subst e
 cases r3
 refine wpAny_truthy_bool ?_
 cases k with
 | false =>
  obtain ⟨k',e',q'⟩:=q3
  cases e'
  exact ite_ff ⟨H3,I3,q'⟩
 | true =>
  refine ite_tt (test_last (thn (hc pins s3 σ H3 _ I3 q3) fun w' s4 ⟨z',H4,I4,r4,q4⟩=>thn (ho' pins s4 σ H4 y z' u w' _ I4 r2 r4 q4) fun d' s5 ⟨z2,H5,I5,r5,k2,e2,q5⟩=>?_))
  subst e2
  cases r5
  exact wpAny_truthy_bool ⟨H5,I5,q5⟩
theorem zmf:(sizeLine:Nat)<2 ^ 63:=by rw[sizeLine_eq];decide
theorem vals1 {x:V} {us:List Value} (r:Vals [x] us):∃ u,us=[u]/\RelV x u:=by
 cases r with
 | cons r1 r2=>cases r2;exact ⟨_,rfl,r1⟩
theorem vals2 {x y:V} {us:List Value} (r:Vals [x,y] us):∃ u w',us=[u,w']/\RelV x u/\RelV y w':=by
 cases r with
 | cons r1 r2 =>
  cases r2 with
  | cons r3 r4=>cases r4;exact ⟨_,_,rfl,r1,r3⟩
theorem zbB (hc:X.calm=true):zbC X (.builtin "max") (fun xs H Q=>∃ i j,xs=[.int i,.int j]/\Q (.int (if j > i then j else i)) H):=by
 intro pins s σ H xs us Q I r h
 obtain ⟨i,j,rfl,q⟩:=h
 obtain ⟨u,w',rfl,⟨t,rfl⟩,⟨t',rfl⟩⟩:=vals2 r
 refine max_two_ints (I.ok.hd hc) fun h' tk k=>⟨_,H,I.kept k,?_,q⟩
 by_cases hj:j > i
 ·rw[if_pos hj,if_pos hj];exact ⟨_,rfl⟩
 ·rw[if_neg hj,if_neg hj];exact ⟨_,rfl⟩
theorem zfx (hc:X.calm=true):zbC X (.builtin "min") (fun xs H Q=>∃ i j,xs=[.int i,.int j]/\Q (.int (if j<i then j else i)) H):=by
 intro pins s σ H xs us Q I r h
 obtain ⟨i,j,rfl,q⟩:=h
 obtain ⟨u,w',rfl,⟨t,rfl⟩,⟨t',rfl⟩⟩:=vals2 r
 refine min_two_ints (I.ok.hd hc) fun h' tk k=>⟨_,H,I.kept k,?_,q⟩
 by_cases hj:j<i
 ·rw[if_pos hj,if_pos hj];exact ⟨_,rfl⟩
 ·rw[if_neg hj,if_neg hj];exact ⟨_,rfl⟩
end
structure zlI (h:Heap) (x dx C:Addr) (mA:Str->Option Value):Prop where
 obj:h.get? x=some (PySem.W.instObj C dx)
 ns:h.Ns1 dx mA
 ne:dx≠x
theorem ztT {h:Heap} {dx:Addr} {mA:Str->Option Value} (n:h.Ns1 dx mA):∃ od,h.get? dx=some od/\∀ name,PySem.W.lookIn name od=some (mA name):=by
 obtain ⟨o,es,ep,ho,hd,hk,_,hm⟩:=n
 refine ⟨o,ho,fun name=>?_⟩
 have e:=hm name
 unfold nsFind findBy at e
 rw[<-Array.find?_toList] at e
 unfold PySem.W.lookIn
 rw[hd]
 dsimp only
 split
 ·rename_i y q
  rw[q] at e
  exact congrArg some e
 ·rename_i q
  rw[q] at e
  have a:es.toList.any (·.refKey)=false:=by
   rw[List.any_eq_false]
   intro y hy
   obtain ⟨z,t,hkey⟩:=hk y (Array.mem_toList_iff.mp hy)
   simp[DictEntry.refKey,hkey]
  have a':¬ es.toList.any (·.refKey)=true:=by rw[a];exact Bool.false_ne_true
  rw[if_neg a']
  exact congrArg some e
theorem zlI.look {h:Heap} {x dx C:Addr} {mA:Str->Option Value} (I:zlI h x dx C mA):∃ od,PySem.W.InstAt h x (PySem.W.instObj C dx) C (some od)/\∀ name,PySem.W.lookIn name od=some (mA name) :=
 let ⟨od,ho,hl⟩:=ztT I.ns
 ⟨od,⟨I.obj,rfl,rfl,ho⟩,hl⟩
section
variable {prog:Program} {w:World} {A:Around} {E:Value->Shared->Prop} {s:Shared} {K:W.Frag} {x dx C f:Addr} {mA:Str->Option Value} {name:Str} {v:Value}
theorem get_map {expr:Bool} {Q:Value->Shared->Prop} (X:K.In s.heap) (I:zlI s.heap x dx C mA) (hg:PySem.W.plainGet K C name=true) (hh:PySem.W.hasDictIn K C=true)
  (ha:PySem.W.findIn K (.ref C) name=some none) (hv:mA name=some v) (hv':PySem.W.handedIn v=true) (h:Q v { s with toks:=s.toks+1 }) :
  wpAny (model prog w) A (getAttr (.ref x) name expr) Q E s:=by
 obtain ⟨od,J,hl⟩:=I.look
 exact PySem.W.get_value X J (PySem.W.plainGet_of hg).1 (PySem.W.findObj_own hh ha rfl (by rw[hl,hv])) hv' h
theorem zu8 {pl:Sem Bool} {Q:Value × List Value->Shared->Prop} (X:K.In s.heap) (I:zlI s.heap x dx C mA) (hg:PySem.W.plainGet K C name=true)
  (hf:PySem.W.findIn K (.ref C) name=some (some (.ref f))) (ht:PySem.W.isFn K (.ref f)=true) (hv:mA name=none) (h:Q (.ref f,[.ref x]) s) :
  wpAny (model prog w) A (getMethod (.ref x) name pl) Q E s:=by
 obtain ⟨od,J,hl⟩:=I.look
 exact PySem.W.method_fn X J (PySem.W.plainGet_of hg).1 (PySem.W.plainGet_of hg).2 hf (beq_iff_eq.mp ht) (by show (PySem.W.lookIn name od).map (·.isSome)=some false;rw[hl,hv];rfl) h
theorem zwm {ns:List Str} {Q:Unit->Shared->Prop} (X:K.In s.heap) (I:zlI s.heap x dx C mA)
  (hs:PySem.W.findIn K (.ref C) "__setattr__" = some (some (.builtin "object.__setattr__"))) (hp:PySem.W.plainOver K C=true) (ht:PySem.W.takerIn K C name=some none) (hh:PySem.W.hasDictIn K C=true)
  (hw:PySem.Within mA ns) (hsz:ns.length<=sizeLine)
  (h:∀ h',zlI h' x dx C (fun y=>if y=name then some v else mA y)->Heap.SameBut dx s.heap h'->Q () { s with heap:=h',toks:=s.toks+2 }) :
  wpAny (model prog w) A (setAttr (.ref x) name v) Q E s:=by
 obtain ⟨od,J,hl⟩:=I.look
 refine PySem.W.set_plain X J hs (PySem.W.osa_open (s:={ s with toks:=s.toks+1 }) (r:=none) X J hp ht fun b=>?_)
 obtain ⟨cd,hc,hd'⟩:=PySem.W.any_some hh
 have hx:s.heap.get? x=some ⟨.ref C,some dx,.plain,#[]⟩:=I.obj
 refine wpAny_bind (wpAny_pure (wpAny_bind (wpAny_bind (wpAny_loadPart hx (wpAny_bind (PySem.W.Looks.here (s:={ s with toks:=s.toks+1 }) (PySem.W.looks_clsIn X hc) ?_))))))
 rw[hd']
 refine wpAny_pure (a:=some dx) (wpAny_bind (wpAny_pure (wpAny_bind ?_)))
 refine wpAny_nsSet1 (s:={ s with toks:=s.toks+1 }) I.ns fun h' hn2 hs2=>?_
 obtain ⟨oD,esD,epD,hoD,hdD,hcD⟩:=hn2.count (PySem.Within.cons name v hw)
 refine wpAny_bind (wpAny_lookBehind hoD (by rw[hdD];exact pastItsLine_dict (ydh hcD (by rw[yax];ac_rfl))) ?_)
 exact wpAny_pure (h _ ⟨(hs2.2 _ (Ne.symm I.ne)).trans I.obj,hn2,I.ne⟩ hs2)
theorem zuI {R:Result->Shared->Prop} {vs:List Value} {kw:List (Str × Value)} (X:K.In s.heap) (hm:PySem.W.makesIn K C=true)
  (hi:PySem.W.findIn K (.ref C) "__init__" = some (some (.ref f))) (hf:PySem.W.typeIn K (.ref f)=some (.type "function"))
  (h:codeAny (model prog w) (A.under (.builtin "type.__call__" ⟨.ref C::vs,kw⟩)) (.call (.ref f) ⟨.ref (s.heap.objs.size+1)::vs,kw⟩) (PySem.W.InitBack (s.heap.objs.size+1) R)
   { s with heap:=(s.heap.push PySem.W.emptyDict).push (PySem.W.instObj C s.heap.objs.size) }) :
  codeAny (model prog w) A (.call (.ref C) ⟨vs,kw⟩) R s:=by
 obtain ⟨hh,g,d,t,os⟩:=s
 exact PySem.W.make_core (PySem.W.makes_of X hm) (PySem.W.looks_findIn X hi) (fun self=>PySem.W.bind_fn X self hf) (.inl rfl) h
theorem zs1 {R:Result->Shared->Prop} (X:K.In s.heap) (hm:PySem.W.makesIn K C=true)
  (hi:PySem.W.findIn K (.ref C) "__init__" = some (some (.builtin "object.__init__")))
  (hb:∀ self,PySem.W.Looks (model prog w) s.heap (bindSpecial (.builtin "object.__init__") self) (.builtin "object.__init__", [self]))
  (h:codeAny (model prog w) (A.under (.builtin "type.__call__" ⟨[.ref C],[]⟩)) (.call (.builtin "object.__init__") ⟨[.ref (s.heap.objs.size+1)],[]⟩) (PySem.W.InitBack (s.heap.objs.size+1) R)
   { s with heap:=(s.heap.push PySem.W.emptyDict).push (PySem.W.instObj C s.heap.objs.size) }) :
  codeAny (model prog w) A (.call (.ref C) ⟨[],[]⟩) R s:=by
 obtain ⟨hh,g,d,t,os⟩:=s
 exact PySem.W.make_core (PySem.W.makes_of X hm) (PySem.W.looks_findIn X hi) hb (.inr ⟨rfl,rfl⟩) h
end
noncomputable def zaS (f:Str) (v:V):List (Str × V)->List (Str × V)
 | []=>[(f,v)]
 | (g,x)::r=>if g=f then (g,v)::r else (g,x)::zaS f v r
theorem zlp (f g:Str) (v:V):∀ fs:List (Str × V),(zaS f v fs).lookup g=if g=f then some v else fs.lookup g
 | []=>by
  show yce g [(f,v)]=_
  by_cases h:g=f
  ·have hb:(g == f)=true:=beq_iff_eq.mpr h
   simp only[yce,hb,if_pos h]
  ·have hb:(g == f)=false:=beq_eq_false_iff_ne.mpr h
   simp only[yce,hb,if_neg h]
 | (k,x)::r=>by
  have ih:=zlp f g v r
  rw[show zaS f v ((k,x)::r)=(if k=f then (k,v)::r else (k,x)::zaS f v r) from rfl]
  by_cases hk:k=f
  ·rw[if_pos hk]
   by_cases h:g=k
   ·have hb:(g == k)=true:=beq_iff_eq.mpr h
    simp only[yce,hb,if_pos (h.trans hk)]
   ·have hb:(g == k)=false:=beq_eq_false_iff_ne.mpr h
    simp only[yce,hb,if_neg (fun e:g=f=>h (e.trans hk.symm))]
  ·rw[if_neg hk]
   by_cases h:g=k
   ·have hb:(g == k)=true:=beq_iff_eq.mpr h
    simp only[yce,hb,if_neg (fun e:g=f=>hk (h.symm.trans e))]
   ·have hb:(g == k)=false:=beq_eq_false_iff_ne.mpr h
    simp only[yce,hb]
    exact ih
theorem zkt (f:Str) (v:V):∀ fs:List (Str × V),f∈(zaS f v fs).map (·.1)/\∀ g,g∈fs.map (·.1)->g∈(zaS f v fs).map (·.1)
 | []=>⟨by simp[zaS],fun g h=>by simp at h⟩
 | (k,x)::r=>by
  obtain ⟨i1,i2⟩:=zkt f v r
  rw[show zaS f v ((k,x)::r)=(if k=f then (k,v)::r else (k,x)::zaS f v r) from rfl]
  by_cases hk:k=f
  ·rw[if_pos hk]
   subst hk
   exact ⟨by simp,fun g h=>by simpa using h⟩
  ·rw[if_neg hk]
   refine ⟨?_,fun g h=>?_⟩
   ·rw[ybb]
    exact yak _ i1
   ·rw[ybb] at h ⊢
    rcases yal.mp h with e | e
    ·exact yal.mpr (.inl e)
    ·exact yak _ (i2 g e)
theorem zlk (f:Str) (v:V):∀ fs:List (Str × V),(zaS f v fs).length<=fs.length+1
 | []=>by simp[zaS]
 | (k,x)::r=>by
  have ih:=zlk f v r
  rw[show zaS f v ((k,x)::r)=(if k=f then (k,v)::r else (k,x)::zaS f v r) from rfl]
  by_cases hk:k=f
  ·rw[if_pos hk,yax,yax];ac_rfl
  ·rw[if_neg hk,yax,yax];ac_rfl
theorem zia.some_of {v:V} {o:Option Value} (r:zia (some v) o):∃ u,o=some u/\RelV v u:=by
 cases o with
 | none=>exact (show False from r).elim
 | some u=>exact ⟨u,rfl,r⟩
theorem zia.none_of {o:Option Value} (r:zia none o):o=none:=by
 cases o with
 | none=>rfl
 | some u=>exact (show False from r).elim
theorem ztd {v:V} {u:Value} (r:RelV v u):PySem.W.handedIn u=true:=by
 cases v with
 | non=>cases (show u=Value.none from r);rfl
 | bl b=>cases (show u=Value.bool b from r);rfl
 | int i=>obtain ⟨t,e⟩:=(show ∃ t,u=Value.int i t from r);cases e;rfl
 | str x=>obtain ⟨t,e⟩:=(show ∃ t,u=Value.str x t from r);cases e;rfl
 | byt b=>obtain ⟨t,e⟩:=(show ∃ t,u=Value.bytes b t from r);cases e;rfl
 | flt b=>obtain ⟨t,e⟩:=(show ∃ t,u=Value.float b t from r);cases e;rfl
 | ref a=>cases (show u=Value.ref a from r);rfl
 | ty n=>cases (show u=Value.type n from r);rfl
section
variable {P:Program} {w:World} {H H':Hp} {h h':Heap} {a C dx:Addr} {fs fs':List (Str × V)}
theorem zle (hok:HOk P w H h) (e:H a=some (.ins C dx fs)):∃ mA,zlI h a dx C mA/\(∀ f,zia (fs.lookup f) (mA f))/\PySem.Within mA (fs.map (·.1))/\fs.length<=1000/\H dx=some (.own a):=by
 obtain ⟨d,z,ne,ob,mA,n,r,q⟩:=(show zas P w H h a (.ins C dx fs) from hok a _ e)
 exact ⟨mA,⟨ob,n,ne⟩,r,q,z,d⟩
end
structure Cls (K:W.Frag) (C:Addr):Prop where
 pg:PySem.W.plainGet K C Str.empty=true
 hd:PySem.W.hasDictIn K C=true
 po:PySem.W.plainOver K C=true
 sa:PySem.W.findIn K (.ref C) "__setattr__" = some (some (.builtin "object.__setattr__"))
theorem Cls.get {K:W.Frag} {C:Addr} (c:Cls K C) (f:Str):PySem.W.plainGet K C f=true:=c.pg
def zW (K:W.Frag) (C:Addr) (f:Str):Prop:=PySem.W.findIn K (.ref C) f=some none
theorem zW.taker {K:W.Frag} {C:Addr} {f:Str} (n:zW K C f):PySem.W.takerIn K C f=some none:=by
 unfold PySem.W.takerIn
 rw[show PySem.W.findIn K (.ref C) f=some none from n]
 rfl
structure Meth (K:W.Frag) (C:Addr) (m:Str) (f:Addr):Prop where
 at_:PySem.W.findIn K (.ref C) m=some (some (.ref f))
 fn:PySem.W.isFn K (.ref f)=true
 kp:PySem.W.keepIn K (.ref f)=true
section
variable {X:Cx} {pins:List (Addr × Obj)} {σ:St} {H:Hp} {s:Shared} {a C dx:Addr} {fs:List (Str × V)} {f:Str} {v:V} {A:Around} {E:Value->Shared->Prop}
theorem zml {b:Bool} {Q:Value->Shared->Prop} (I:Inv X pins σ H s) (e:H a=some (.ins C dx fs)) (c:Cls X.K C) (n:zW X.K C f) (l:fs.lookup f=some v)
  (h:∀ u s',Inv X pins σ H s'->RelV v u->Q u s'):wpAny (model X.prog X.w) A (getAttr (.ref a) f b) Q E s:=by
 obtain ⟨mA,O,r,_,_,_⟩:=zle I.hok e
 obtain ⟨u,hu,ru⟩:=zia.some_of (v:=v) (o:=mA f) (by rw[<-l];exact r f)
 exact get_map I.kIn O (c.get f) c.hd n hu (ztd ru) (h u _ (I.tok _) ru)
theorem zdT {m:Str} {g:Addr} {pl:Sem Bool} {Q:Value × List Value->Shared->Prop} (I:Inv X pins σ H s) (e:H a=some (.ins C dx fs)) (c:Cls X.K C) (k:Meth X.K C m g) (l:fs.lookup m=none)
  (h:Q (.ref g,[.ref a]) s):wpAny (model X.prog X.w) A (getMethod (.ref a) m pl) Q E s:=by
 obtain ⟨mA,O,r,_,_,_⟩:=zle I.hok e
 have hn:mA m=none:=zia.none_of (by rw[<-l];exact r m)
 exact zu8 I.kIn O (c.get m) k.at_ k.fn hn h
theorem zmx {y:V} {u:Value} {Q:Unit->Shared->Prop} (I:Inv X pins σ H s) (e:H a=some (.ins C dx fs)) (c:Cls X.K C) (n:zW X.K C f) (hl:fs.length<1000) (ry:RelV y u)
  (h:∀ s',Inv X pins σ (upd H a (.ins C dx (zaS f y fs))) s'->Q () s'):wpAny (model X.prog X.w) A (setAttr (.ref a) f u) Q E s:=by
 obtain ⟨mA,O,r,wi,_,ho⟩:=zle I.hok e
 have hz:(fs.map (·.1)).length<=sizeLine:=by rw[yab,sizeLine_eq];ac_rfl
 refine zwm I.kIn O c.sa c.po n.taker c.hd wi hz fun h' O' sb=>h _ ?_
 have hd:∃ o,h'.get? dx=some o:=let ⟨o,_,_,e',_⟩:=O'.ns;⟨o,e'⟩
 refine I.write (x:=a) (e:=dx) (by rw[e];exact True.intro) (.inr ho) (fun b q hb z=>(sb.2 b hb).trans z) hd ?_
 refine ⟨by rw[zx O.ne];exact ho,?_,O.ne,O'.obj,_,O'.ns,fun g=>?_,fun g hg=>?_⟩
 ·have:=zlk f y fs;ac_rfl
 ·show zia ((zaS f y fs).lookup g) (if g=f then some u else mA g)
  rw[zlp]
  by_cases q:g=f
  ·rw[if_pos q,if_pos q];exact ry
  ·rw[if_neg q,if_neg q];exact r g
 ·by_cases q:g=f
  ·rw[q];exact (zkt f y fs).1
  ·refine (zkt f y fs).2 g (wi g fun z=>hg ?_)
   show (if g=f then some u else mA g)=none
   rw[if_neg q];exact z
theorem Inv.made (I:Inv X pins σ H s):Inv X pins σ (upd (upd H s.heap.objs.size (.own (s.heap.objs.size+1))) (s.heap.objs.size+1) (.ins C s.heap.objs.size []))
  { s with heap:=(s.heap.push PySem.W.emptyDict).push (PySem.W.instObj C s.heap.objs.size) }:=by
 have e1:(s.heap.push PySem.W.emptyDict).get? s.heap.objs.size=some PySem.W.emptyDict:=ydv s.heap rfl
 have e2:((s.heap.push PySem.W.emptyDict).push (PySem.W.instObj C s.heap.objs.size)).get? (s.heap.objs.size+1)=some (PySem.W.instObj C s.heap.objs.size):=by
  have:=ydv (s.heap.push PySem.W.emptyDict) (o:=PySem.W.instObj C s.heap.objs.size) rfl
  rwa [ydx] at this
 have e3:(s.heap.push PySem.W.emptyDict).Ns s.heap.objs.size (fun _=>none):=⟨PySem.W.emptyDict,#[],_,e1,rfl,(fun e he=>absurd he (by simp)),fun _=>rfl⟩
 have I1:=I.laid (a:=s.heap.objs.size) (o:=.own (s.heap.objs.size+1)) (h':=s.heap.push PySem.W.emptyDict) (t':=s.toks) (fun b u q=>ydt _ q) (ydc _) ⟨_,e1⟩
 refine I1.laid (a:=s.heap.objs.size+1) (o:=.ins C s.heap.objs.size []) (t':=s.toks) (fun b u q=>ydt _ q) (Nat.le_of_eq (ydx _ _)) ?_
 have ne:s.heap.objs.size≠s.heap.objs.size+1:=ydd (ydi _)
 refine ⟨by rw[zx ne,zf],ydf _,ne,e2,fun _=>none,(Heap.Ns1.of_empty e3).at fun o q=>ydt _ q,fun _=>True.intro,fun y hy=>absurd rfl hy⟩
theorem zrL {prog:Program} {w:World} {env:Env} {e:Expr} {f:Str} {pos:Pos} {s:Shared} {Q:Value->Shared->Prop} (hb:attributeBase e f env (eval e env)=eval e env)
  (h:wpAny (model prog w) A (eval e env) (fun o s₁=>wpAny (model prog w) A (getAttr o f true) Q E s₁) E s):wpAny (model prog w) A (eval (.Attribute e f pos) env) Q E s :=
 Attribute_any_ h (by rw[arm_eval_Attribute,hb])
end
def zwu (K:W.Frag) (ta:TE) (f:Str):TE:=fun σ H Q=>ta σ H fun x H1=>∃ a C dx fs v,x=.ref a/\H1 a=some (.ins C dx fs)/\Cls K C/\zW K C f/\fs.lookup f=some v/\Q v H1
def zxK (K:W.Frag) (ta tv:TE) (f:Str):TS:=fun D σ H=>tv σ H fun y H1=>ta σ H1 fun x H2=>∃ a C dx fs,x=.ref a/\H2 a=some (.ins C dx fs)/\Cls K C/\zW K C f/\fs.length<1000 /\
 D.nx σ (upd H2 a (.ins C dx (zaS f y fs)))
section
variable {X:Cx} {o e value:Expr} {f:Str} {pos pos' tpos:Pos} {ta tv:TE}
theorem zwJ (he:PE X e ta) (hb:attributeBase e f X.env (eval e X.env)=eval e X.env):PE X (.Attribute e f pos) (zwu X.K ta f):=by
 intro pins s σ H Q I h
 refine zrL hb (thn (he pins s σ H _ I h) fun u s1 ⟨x,H1,I1,rx,a,C,dx,fs,v,ex,ea,c,n,l,q⟩=>?_)
 subst ex
 obtain rfl:u=Value.ref a:=rx
 exact zml I1 ea c n l fun u' s2 I2 ru=>⟨v,H1,I2,ru,q⟩
theorem zkz (ha:PE X o ta) (hv:PE X value tv) (hs:swapsWith value (some (.Attribute o f pos')) pos.line X.env=pure false):PS X (.Assign [.Attribute o f pos'] value pos) (zxK X.K ta tv f):=by
 intro pins s σ H D I h
 refine plainObj_wpAny_Assign_Attribute (thn (hv pins s σ H _ I h) fun u s1 ⟨y,H1,I1,ry,q⟩=>thn (ha pins s1 σ H1 _ I1 q) fun ov s2 ⟨x,H2,I2,rx,a,C,dx,fs,ex,ea,c,n,l,q2⟩=>?_) hs
 subst ex
 obtain rfl:ov=Value.ref a:=rx
 exact zmx I2 ea c n l ry fun s3 I3=>⟨σ,_,I3,q2⟩
end
section
variable {X:Cx} {pins:List (Addr × Obj)} {σ:St} {H:Hp} {s:Shared} {A:Around} {E:Value->Shared->Prop} {Q:Value->Shared->Prop} {c:Value} {b:Bool}
inductive zdA (K:W.Frag) (H:Hp):V->Value->Prop where
 | non:zdA K H .non (.type "NoneType")
 | bl (x:Bool):zdA K H (.bl x) (.type "bool")
 | int (i:Int):zdA K H (.int i) (.type "int")
 | str (x:Str):zdA K H (.str x) (.type "str")
 | flt (x:UInt64):zdA K H (.flt x) (.type "float")
 | lst {a:Addr} {xs:List V} (e:H a=some (.lst xs)):zdA K H (.ref a) (.type "list")
 | frz {a:Addr} {o:Obj} {xs:List V} (e:H a=some (.frz o (.lst xs))):zdA K H (.ref a) (.type "list")
 | tup {a:Addr} {xs:List V} (e:H a=some (.tup xs)):zdA K H (.ref a) (.type "tuple")
 | dK {a:Addr} {kvs:List (Key × V)} (e:H a=some (.dK kvs)):zdA K H (.ref a) (.type "dict")
 | ins {a C dx:Addr} {fs:List (Str × V)} (e:H a=some (.ins C dx fs)) (cl:Cls K C) (ha:PySem.W.findIn K (.ref C) "__class__" = some (some (.builtin "object.__class__")))
   (hn:PySem.W.specialIn K (.builtin "object.__class__") "__get__" = some (some (.builtin "getset_descriptor.__get__"))) (htk:PySem.W.takesIn K (.builtin "object.__class__")=some true)
   (hm:PySem.W.mroIn K C (.type "object")=some true):zdA K H (.ref a) (.ref C)
theorem znN {x:V} {u t:Value} (I:Inv X pins σ H s) (rx:RelV x u) (ty:zdA X.K H x t) (e:PySem.W.kitOne X.K t c=some b) (h:∀ tk,Q (.bool b) { s with toks:=tk }) :
  wpAny (model X.prog X.w) A (call (.builtin "isinstance") [u,c]) Q E s:=by
 cases ty with
 | non=>cases (show u=Value.none from rx);exact PySem.W.kia_one PySem.W.kitx_none I.kIn True.intro e (fun z=>nomatch z) h
 | bl y=>cases (show u=Value.bool y from rx);exact PySem.W.kia_one PySem.W.kitx_bool I.kIn True.intro e (fun z=>nomatch z) h
 | int i=>obtain ⟨t,q⟩:=(show ∃ t,u=Value.int i t from rx);cases q;exact PySem.W.kia_one PySem.W.kitx_int I.kIn True.intro e (fun z=>nomatch z) h
 | str y=>obtain ⟨t,q⟩:=(show ∃ t,u=Value.str y t from rx);cases q;exact PySem.W.kia_one PySem.W.kitx_str I.kIn True.intro e (fun z=>nomatch z) h
 | flt y=>obtain ⟨t,q⟩:=(show ∃ t,u=Value.float y t from rx);cases q;exact PySem.W.kia_one PySem.W.kitx_float I.kIn True.intro e (fun z=>nomatch z) h
 | @lst a xs ea =>
  cases (show u=Value.ref a from rx)
  obtain ⟨_,_,n,_,h1⟩:=(show zas X.prog X.w H s.heap a (.lst xs) from I.hok a _ ea)
  exact PySem.W.kia_one PySem.W.kitx_list I.kIn ⟨_,h1,rfl⟩ e (fun z=>nomatch z) h
 | @frz a ob xs ea =>
  cases (show u=Value.ref a from rx)
  obtain ⟨_,_,_,n,_,h1⟩:=(show zas X.prog X.w H s.heap a (.frz ob (.lst xs)) from I.hok a _ ea)
  exact PySem.W.kia_one PySem.W.kitx_list I.kIn ⟨_,h1,rfl⟩ e (fun z=>nomatch z) h
 | @tup a xs ea =>
  cases (show u=Value.ref a from rx)
  obtain ⟨_,_,_,p⟩:=(show zas X.prog X.w H s.heap a (.tup xs) from I.hok a _ ea)
  obtain ⟨o,h1,h2,_⟩:=p
  exact PySem.W.kia_one PySem.W.kitx_tuple I.kIn ⟨o,h1,h2⟩ e (fun z=>nomatch z) h
 | @dK a kvs ea =>
  cases (show u=Value.ref a from rx)
  obtain ⟨_,_,vs,_,p⟩:=(show zas X.prog X.w H s.heap a (.dK kvs) from I.hok a _ ea)
  obtain ⟨o,es,ep,h1,h2,_⟩:=p
  exact PySem.W.kia_one PySem.W.kitx_dict I.kIn ⟨o,h1,h2.1⟩ e (fun z=>nomatch z) h
 | @ins a C dx fs ea cl ha hn htk hm =>
  cases (show u=Value.ref a from rx)
  obtain ⟨mA,O,_⟩:=zle I.hok ea
  obtain ⟨od,J,_⟩:=O.look
  exact PySem.W.kia_one (PySem.W.kitx_own (cl.get _) cl.hd ha hn htk hm) I.kIn J e (fun z=>nomatch z) h
end
structure Room (k:Nat) (A:Around):Prop where
 hd:A.handled=none
 dp:A.depth+3*k+5<recursionLimit
 un:A.units+16*k+200<cLine
theorem Room.mono {j k:Nat} {A:Around} (r:Room k A) (h:j<=k):Room j A:=⟨r.hd,by have:=r.dp;ac_rfl,by have:=r.un;ac_rfl⟩
theorem Room.deeper {k:Nat} {A:Around} (r:Room (k+1) A) (env:Env):Room k (A.deeper env) :=
 ⟨r.hd,by have:=r.dp;show A.depth+1+3*k+5<_;ac_rfl,by have:=r.un;show A.units+3+16*k+200<_;ac_rfl⟩
theorem zsz {A:Around} {C:Addr} {us:List Value} {kw:List (Str × Value)}:(A.under (.builtin "type.__call__" ⟨.ref C::us,kw⟩)).depth=A.depth+1:=by
 first | rfl | simp[Around.under,Code.weight,Code.isCreation,Code.isGuard,Code.isCaller,Code.frames,Code.isFrame,guardIds]
theorem zsW {A:Around} {C:Addr} {us:List Value} {kw:List (Str × Value)}:(A.under (.builtin "type.__call__" ⟨.ref C::us,kw⟩)).units=A.units+1:=by
 first | rfl | simp[Around.under,Code.cUnits,Code.frames,Code.isFrame]
theorem Room.make {k:Nat} {A:Around} (r:Room (k+1) A) (C:Addr) (us:List Value) (kw:List (Str × Value)):Room k (A.under (.builtin "type.__call__" ⟨.ref C::us,kw⟩)) :=
 ⟨r.hd,by have:=r.dp;rw[zsz];ac_rfl,by have:=r.un;rw[zsW];ac_rfl⟩
theorem Room.depth {k:Nat} {A:Around} (r:Room k A):A.depth<recursionLimit:=by have:=r.dp;ac_rfl
theorem Room.units {k:Nat} {A:Around} (r:Room k A):A.units+64<cLine:=by have:=r.un;ac_rfl
def znj:TA:=fun _ H Q=>Q [] H
def zxd (ta:TE) (tr:TA):TA:=fun σ H Q=>ta σ H fun x H1=>tr σ H1 fun xs H2=>Q (x::xs) H2
section
variable {X:Cx} {e:Expr} {es:List Expr} {te:TE} {t:TA} {pos:Pos}
theorem zb:PA X [] znj:=fun _ _ _ _ H Q I h=>Calls.spliced_nil ⟨[],H,I,.nil,h⟩
theorem za (ha:PE X e te) (hr:PA X es t) (hs:starEach (e::es) X.env=(false,eval e X.env)::starEach es X.env:=by rfl):PA X (e::es) (zxd te t):=by
 intro pos pins s σ H Q I h
 rw[hs]
 show wpAny _ _ (spliced ((false,eval e X.env)::backTo pos (starEach es X.env))) _ _ s
 refine Calls.spliced_cons (thn (ha pins s σ H _ I h) fun u s1 ⟨x,H1,I1,r1,q1⟩=>?_)
 exact thn (hr pos pins s1 σ H1 _ I1 q1) fun us s2 ⟨xs,H2,I2,r2,q2⟩=>⟨x::xs,H2,I2,.cons r1 r2,q2⟩
def zx7 (t:TA):TE:=fun σ H Q=>t σ H fun xs H1=>xs.length<=sizeLine/\∀ p,H1 p=none->Q (.ref p) (upd H1 p (.tup xs))
def zx1 (t:TA):TE:=fun σ H Q=>t σ H fun xs H1=>xs.length<=sizeLine/\∀ p,H1 p=none->Q (.ref p) (upd H1 p (.lst xs))
theorem zO {x1} (h:PA X es t):PE X (.Tuple es x1 pos) (zx7 t):=by
 intro pins s σ H Q I hq
 refine wpAny_Tuple_spliced (thn (h pos pins s σ H _ I hq) fun us s1 ⟨xs,H1,I1,r,z,q⟩=>⟨by rw[<-r.length];exact z,?_⟩)
 have hf:H1 s1.heap.objs.size=none:=I1.hok.fresh (ydc _)
 refine ⟨.ref s1.heap.objs.size,upd H1 s1.heap.objs.size (.tup xs),I1.laid (t':=s1.toks) (fun b u e=>ydt _ e) (ydc _) ?_,rfl,q _ hf⟩
 exact ⟨z,us,r,⟨_,ydv _ rfl,rfl,_,rfl⟩⟩
theorem zaj (h:PA X es t):PE X (.List es pos) (zx1 t):=by
 intro pins s σ H Q I hq
 refine wpAny_List_spliced (thn (h pos pins s σ H _ I hq) fun us s1 ⟨xs,H1,I1,r,z,q⟩=>⟨by rw[<-r.length];exact z,?_⟩)
 have hf:H1 s1.heap.objs.size=none:=I1.hok.fresh (ydc _)
 refine ⟨.ref s1.heap.objs.size,upd H1 s1.heap.objs.size (.lst xs),I1.laid (t':=s1.toks) (fun b u e=>ydt _ e) (ydc _) ?_,rfl,q _ hf⟩
 exact ⟨z,us,0,r,ydv _ rfl⟩
end
noncomputable abbrev Sp:=List V->Hp->VK->XK->Prop
noncomputable abbrev CXT:=List Env->Hp->Shared->XK->Value->Shared->Prop
structure zlE (P:Program) (w:World) (K:W.Frag) (mg:Str->Option Value) (base:Heap) (A:Around) (outer:List Env) (s:Shared) (H:Hp):Prop where
 frames:A.frames=some outer
 mod:Mod K mg base
 bs:∀ b o,base.get? b=some o->s.heap.get? b=some o/\H b=none
 bsz:base.objs.size<=s.heap.objs.size
 funs:s.heap.FunFrames base outer
 frf:∀ b∈frs outer,H b=none
 hok:HOk P w H s.heap
 bare:AllBare s.gens
def CE (outer:List Env) (P:Program) (w:World) (H:Hp) (s:Shared) (Q:VK) (u:Value) (s':Shared):Prop :=
 ∃ v H',s'.os=s.os/\AllBare s'.gens/\Un (frs outer) [] H H' s.heap s'.heap/\HOk P w H' s'.heap/\RelV v u/\Q v H'
def CR (CX:CXT) (outer:List Env) (P:Program) (w:World) (H:Hp) (s:Shared) (Q:VK) (E:XK) (r:Result) (s':Shared):Prop :=
 match r with
 | .ok (.ret u)=>CE outer P w H s Q u s'
 | .ok _=>False
 | .error e=>CX outer H s E e s'
structure zco (P:Program) (w:World) (K:W.Frag) (mg:Str->Option Value) (base:Heap) (CX:CXT) (k:Nat) (f:Addr) (fd:FuncData) (ps:List Str) (sp:Sp):Prop where
 len:∀ vs H Q E,sp vs H Q E->vs.length=ps.length
 run:∀ (A:Around) (outer:List Env) (s:Shared) (H:Hp) (args:Args) (us:List Value) (vs:List V) (Q:VK) (E:XK),Room k A->zlE P w K mg base A outer s H->BindsTo s fd args (ps.zip us)->Vals vs us->sp vs H Q E ->
  codeAny (model P w) A (.call (.ref f) args) (CR CX outer P w H s Q E) s
theorem zlE.make {P:Program} {w:World} {K:W.Frag} {mg:Str->Option Value} {base:Heap} {A:Around} {outer:List Env} {s:Shared} {H:Hp} (e:zlE P w K mg base A outer s H) (C:Addr) (us:List Value) (kw:List (Str × Value)) :
  zlE P w K mg base (A.under (.builtin "type.__call__" ⟨.ref C::us,kw⟩)) outer s H:=⟨by first | exact e.frames | (simpa [Around.under,Code.envs,Code.isFrame,pushEnvs] using e.frames),e.mod,e.bs,e.bsz,e.funs,e.frf,e.hok,e.bare⟩
section
variable {X:Cx} {pins:List (Addr × Obj)} {σ:St} {H:Hp} {s s':Shared}
theorem Inv.zwE (I:Inv X pins σ H s):zlE X.prog X.w X.K X.mg X.base X.A X.stack s H :=
 ⟨I.ok.frames,I.ok.mod,I.bs,ydh I.ok.bsz I.sz,I.stack,I.zrw,I.hok,I.bare⟩
theorem Inv.after {Q:VK} {u:Value} (I:Inv X pins σ H s) (h:CE X.stack X.prog X.w H s Q u s'):EP X pins σ Q u s':=by
 obtain ⟨v,H',os,bare,un,hok,r,q⟩:=h
 obtain ⟨hh,g,d,t,os'⟩:=s'
 obtain rfl:os'=s.os:=os
 exact ⟨v,H',I.call (h':=hh) (g':=g) (d':=d) (t':=t) (ch:=[]) un hok bare (fun b z=>absurd z (by simp)),r,q⟩
end
def zsG (sp:Sp) (dvs:List V) (E:XK) (t:TA):TE:=fun σ H Q=>t σ H fun vs H1=>sp (vs++dvs) H1 Q E
def zoF (C:Addr) (m:Str) (sp:Sp) (dvs:List V) (E:XK) (ta:TE) (t:TA):TE:=fun σ H Q=>ta σ H fun x H1=>∃ a dx fs,x=.ref a/\H1 a=some (.ins C dx fs)/\fs.lookup m=none /\
 t σ H1 fun vs H2=>sp (x::(vs++dvs)) H2 Q E
def zvg (C:Addr) (sp:Sp) (dvs:List V) (E:XK) (t:TA):TE:=fun σ H Q=>t σ H fun vs H1=>∀ x dx,H1 x=none->H1 dx=none->dx≠x ->
 sp (.ref x::(vs++dvs)) (upd (upd H1 dx (.own x)) x (.ins C dx [])) (fun v H2=>v=.non/\Q (.ref x) H2) E
def Binds (K:W.Frag) (fd:FuncData) (ps:List Str) (ds:List Value):Prop :=
 ∀ (s:Shared) (us:List Value),K.In s.heap->(us++ds).length=ps.length->BindsTo s fd ⟨us,[]⟩ (ps.zip (us++ds))
theorem Binds.all {K:W.Frag} {fd:FuncData} {ps:List Str} (h:∀ us:List Value,us.length=ps.length->bindArgs fd ⟨us,[]⟩=pure (ps.zip us)):Binds K fd ps []:=fun s us _ hl=>by
 rw[ybl] at hl ⊢
 exact .of_eq (h us hl)
def Passes (CX:CXT) (X:Cx) (E:XK):Prop:=∀ (pins:List (Addr × Obj)) (σ:St) (H:Hp) (s:Shared) (e:Value) (s':Shared),Inv X pins σ H s->CX X.stack H s E e s'->X.xe e s'
section
variable {X:Cx} {CX:CXT} {k:Nat} {f C:Addr} {fd:FuncData} {ps:List Str} {sp:Sp} {dvs:List V} {ds:List Value} {E:XK} {x m:Str} {p pos apos:Pos} {e o:Expr} {es:List Expr} {ta:TE} {t:TA}
theorem zhb {pins:List (Addr × Obj)} {σ:St} {H:Hp} {s:Shared} {Q:VK} {us:List Value} {vs:List V} (F:zco X.prog X.w X.K X.mg X.base CX k f fd ps sp) (hr:Room k X.A) (hb:Binds X.K fd ps ds) (hd:Vals dvs ds) (hx:Passes CX X E)
  (I:Inv X pins σ H s) (r:Vals vs us) (h:sp (vs++dvs) H Q E):wpAny (model X.prog X.w) X.A (call (.ref f) us) (EP X pins σ Q) X.xe s:=by
 have r2:Vals (vs++dvs) (us++ds):=r.append hd
 have hl:(us++ds).length=ps.length:=by rw[<-r2.length];exact F.len _ _ _ _ h
 refine wpAny_call (codeAny_mono (F.run X.A X.stack s H ⟨us,[]⟩ (us++ds) (vs++dvs) Q E hr I.zwE (hb s us I.kIn hl) r2 h) fun r s' hq=>?_)
 cases r with
 | error e=>exact hx pins σ H s e s' I hq
 | ok fl =>
  cases fl with
  | ret u=>exact I.after hq
  | next=>exact False.elim hq
  | brk=>exact False.elim hq
  | cont=>exact False.elim hq
theorem zvV (F:zco X.prog X.w X.K X.mg X.base CX k f fd ps sp) (hr:Room k X.A) (hg:Gl X x) (hm:X.mg x=some (.ref f)) (hk:PySem.W.keepIn X.K (.ref f)=true) (hb:Binds X.K fd ps ds) (hd:Vals dvs ds) (hx:Passes CX X E)
  (ha:PA X (e::es) t) (hdb:(x == ("__debug__" : Str))=false:=by decide) (he:starEach (e::es) X.env=(false,eval e X.env)::starEach es X.env:=by rfl) (hpl:(backTo pos (starEach es X.env)).any (·.1)=false:=by rfl) :
  PE X (.Call (.Name x p) (e::es) [] pos) (zsG sp dvs E t):=by
 intro pins s σ H Q I h
 refine wpAny_Call_Name_kw (zk0 I hg hm ?_ hdb)
 refine PySem.W.callWith_K (h₀:=X.base) I.ok.mod.kin hk (thn (ha pos pins s σ H _ I h) fun us s1 ⟨vs,H1,I1,r,q⟩=>⟨I1.kIn,?_⟩) he hpl
 exact zhb F hr hb hd hx I1 r q
theorem zvB {pl:Sem Bool} (he:PE X o ta) (c:Cls X.K C) (hm:Meth X.K C m f) (F:zco X.prog X.w X.K X.mg X.base CX k f fd ps sp) (hr:Room k X.A) (hb:Binds X.K fd ps ds) (hd:Vals dvs ds) (hx:Passes CX X E) (ha:PA X (e::es) t)
  (hst:starEach (e::es) X.env=(false,eval e X.env)::starEach es X.env:=by rfl) (hpl:(backTo pos (starEach es X.env)).any (·.1)=false:=by rfl)
  (ht:eval (.Call (.Attribute o m apos) (e::es) [] pos) X.env=(do
   let ov <-eval o X.env
   standAt apos.atName
   let (f,first) <-holding [ov] (getMethod ov m pl)
   callWith pos f first (backTo pos (starEach (e::es) X.env)) (backToKw pos (keywordEach [] X.env))):=by rfl) :
  PE X (.Call (.Attribute o m apos) (e::es) [] pos) (zoF C m sp dvs E ta t):=by
 intro pins s σ H Q I h
 refine PySem.W.methodCall_KW (pl:=pl) (thn (he pins s σ H _ I h) fun u s1 ⟨x,H1,I1,rx,a,dx,fs,ex,ea,l,q⟩=>?_) ht
 subst ex
 obtain rfl:u=Value.ref a:=rx
 refine zdT I1 ea c hm l ?_
 refine PySem.W.callWith_K (first:=[.ref a]) (h₀:=X.base) I.ok.mod.kin hm.kp (thn (ha pos pins s1 σ H1 _ I1 q) fun us s2 ⟨vs,H2,I2,r,q2⟩=>⟨I2.kIn,?_⟩) hst hpl
 exact zhb (us:=.ref a::us) (vs:=.ref a::vs) F hr hb hd hx I2 (.cons rfl r) q2
theorem zva {pl:Sem Bool} (he:PE X o ta) (c:Cls X.K C) (hm:Meth X.K C m f) (F:zco X.prog X.w X.K X.mg X.base CX k f fd ps sp) (hr:Room k X.A) (hb:Binds X.K fd ps ds) (hd:Vals dvs ds) (hx:Passes CX X E)
  (ht:eval (.Call (.Attribute o m apos) [] [] pos) X.env=(do
   let ov <-eval o X.env
   standAt apos.atName
   let (f,first) <-holding [ov] (getMethod ov m pl)
   callWith pos f first (backTo pos (starEach [] X.env)) (backToKw pos (keywordEach [] X.env))):=by rfl) :
  PE X (.Call (.Attribute o m apos) [] [] pos) (zoF C m sp dvs E ta znj):=by
 intro pins s σ H Q I h
 refine PySem.W.methodCall_KW (pl:=pl) (thn (he pins s σ H _ I h) fun u s1 ⟨x,H1,I1,rx,a,dx,fs,ex,ea,l,q⟩=>?_) ht
 subst ex
 obtain rfl:u=Value.ref a:=rx
 refine zdT I1 ea c hm l ?_
 exact PySem.W.callWith_K0 (first:=[.ref a]) I1.kIn hm.kp (zhb (us:=[.ref a]) (vs:=[.ref a]) F hr hb hd hx I1 (.cons rfl .nil) q)
structure Mk (K:W.Frag) (C f:Addr):Prop where
 makes:PySem.W.makesIn K C=true
 init:PySem.W.findIn K (.ref C) "__init__" = some (some (.ref f))
 fn:PySem.W.isFn K (.ref f)=true
 kp:PySem.W.keepIn K (.ref C)=true
theorem zuh {pins:List (Addr × Obj)} {σ:St} {H:Hp} {s:Shared} {Q:VK} {us:List Value} {vs:List V} (M:Mk X.K C f) (F:zco X.prog X.w X.K X.mg X.base CX k f fd ps sp) (hr:Room (k+1) X.A) (hb:Binds X.K fd ps ds) (hd:Vals dvs ds)
  (hx:Passes CX X E) (I:Inv X pins σ H s) (r:Vals vs us)
  (h:∀ x dx,H x=none->H dx=none->dx≠x->sp (.ref x::(vs++dvs)) (upd (upd H dx (.own x)) x (.ins C dx [])) (fun v H2=>v=.non/\Q (.ref x) H2) E) :
  wpAny (model X.prog X.w) X.A (call (.ref C) us) (EP X pins σ Q) X.xe s:=by
 have hq:=h (s.heap.objs.size+1) s.heap.objs.size (I.hok.fresh (ydo _)) (I.hok.fresh (ydc _)) (ydd (ydi _))
 have I2:=Inv.made (C:=C) I
 have r2:Vals (V.ref (s.heap.objs.size+1)::(vs++dvs)) (Value.ref (s.heap.objs.size+1)::(us++ds)):=.cons rfl (r.append hd)
 have hl:(Value.ref (s.heap.objs.size+1)::us++ds).length=ps.length:=by
  have e:=r2.length
  rw[F.len _ _ _ _ hq] at e
  exact e.symm
 refine wpAny_call (zuI (f:=f) I.kIn M.makes M.init (beq_iff_eq.mp M.fn) (codeAny_mono (F.run _ X.stack _ _ ⟨Value.ref (s.heap.objs.size+1)::us,[]⟩ (Value.ref (s.heap.objs.size+1)::(us++ds)) _ _ E (hr.make C us [])
  (I2.zwE.make C us []) (hb _ (Value.ref (s.heap.objs.size+1)::us) I2.kIn hl) r2 hq) fun r s' hq'=>?_))
 cases r with
 | error e=>exact hx pins σ _ _ e s' I2 hq'
 | ok fl =>
  cases fl with
  | ret u =>
   obtain ⟨v,H',I3,rv,ev,q3⟩:=I2.after hq'
   subst ev
   exact ⟨rv,⟨V.ref (s.heap.objs.size+1),H',I3,rfl,q3⟩⟩
  | next=>exact False.elim hq'
  | brk=>exact False.elim hq'
  | cont=>exact False.elim hq'
theorem zwf (M:Mk X.K C f) (F:zco X.prog X.w X.K X.mg X.base CX k f fd ps sp) (hr:Room (k+1) X.A) (hg:Gl X x) (hm:X.mg x=some (.ref C)) (hb:Binds X.K fd ps ds) (hd:Vals dvs ds) (hx:Passes CX X E)
  (ha:PA X (e::es) t) (hdb:(x == ("__debug__" : Str))=false:=by decide) (he:starEach (e::es) X.env=(false,eval e X.env)::starEach es X.env:=by rfl) (hpl:(backTo pos (starEach es X.env)).any (·.1)=false:=by rfl) :
  PE X (.Call (.Name x p) (e::es) [] pos) (zvg C sp dvs E t):=by
 intro pins s σ H Q I h
 refine wpAny_Call_Name_kw (zk0 I hg hm ?_ hdb)
 refine PySem.W.callWith_K (h₀:=X.base) I.ok.mod.kin M.kp (thn (ha pos pins s σ H _ I h) fun us s1 ⟨vs,H1,I1,r,q⟩=>⟨I1.kIn,?_⟩) he hpl
 exact zuh M F hr hb hd hx I1 r q
end
section
variable {X:Cx} {CX:CXT} {k:Nat} {f C:Addr} {fd:FuncData} {ps ks:List Str} {sp:Sp} {E:XK} {x m:Str} {p pos apos kpos:Pos} {e o:Expr} {es:List Expr} {kws:List Keyword} {te ta:TE} {t tk:TA} {nm:Option Str}
variable {g:List Value->List Value->List Value} {gV:List V->List V->List V}
end
structure zj (N P:List Str) (sc:Scope):Prop where
 kind:sc.kind=.function
 co:sc.isCoroutine=false
 gen:sc.isGenerator=false
 nd:N.Nodup
 pre:N.take P.length=P
 par:∀ x∈P,sc.names.lookup x=some .local\/sc.names.lookup x=some .cell
 nofree:∀ y∈sc.names,y.2≠.free
theorem znO {kindOf:Str->Option NameKind} {x:Str}:∀ {binds:List (Str × Value)} {m:Str->Option Value},(∀ v,(x,v) ∉ binds)->bindL kindOf binds m x=m x
 | [],_,_=>rfl
 | (n,v)::r,m,h=>by
  unfold bindL
  rw[znO fun w hw=>h w (yak _ hw)]
  split
  ·have:x≠n:=by rintro rfl;exact h v yam
   simp[this]
  ·rfl
theorem znC {kindOf:Str->Option NameKind} {x:Str}:∀ {binds:List (Str × Value)} {m:Str->Option Value},(∀ v,(x,v) ∉ binds)->bindC kindOf binds m x=m x
 | [],_,_=>rfl
 | (n,v)::r,m,h=>by
  unfold bindC
  rw[znC fun w hw=>h w (yak _ hw)]
  split
  ·rfl
  ·have:x≠n:=by rintro rfl;exact h v yam
   simp[this]
theorem zny {kindOf:Str->Option NameKind} {x:Str} {v:Value}:∀ {P:List Str} {vs:List Value} {i:Nat} {m:Str->Option Value},P.Nodup->P[i]?=some x->vs[i]?=some v->kindOf x=some .local ->
  bindL kindOf (P.zip vs) m x=some v
 | [],_,_,_,_,h,_,_=>by simp at h
 | _::_,[],_,_,_,_,h,_=>by simp at h
 | p::P,w::vs,0,m,nd,h1,h2,hk=>by
  simp at h1 h2;subst h1;subst h2
  show bindL kindOf ((p,w)::P.zip vs) m p=_
  unfold bindL
  rw[znO fun v hv=>(ybm.mp nd).1 (List.of_mem_zip hv).1,if_pos hk]
  simp
 | p::P,w::vs,i+1,m,nd,h1,h2,hk=>by
  show bindL kindOf ((p,w)::P.zip vs) m x=_
  unfold bindL
  exact zny (i:=i) (ybm.mp nd).2 (by simpa using h1) (by simpa using h2) hk
theorem znI {kindOf:Str->Option NameKind} {x:Str} {v:Value}:∀ {P:List Str} {vs:List Value} {i:Nat} {m:Str->Option Value},P.Nodup->P[i]?=some x->vs[i]?=some v->kindOf x≠some .local ->
  bindC kindOf (P.zip vs) m x=some v
 | [],_,_,_,_,h,_,_=>by simp at h
 | _::_,[],_,_,_,_,h,_=>by simp at h
 | p::P,w::vs,0,m,nd,h1,h2,hk=>by
  simp at h1 h2;subst h1;subst h2
  show bindC kindOf ((p,w)::P.zip vs) m p=_
  unfold bindC
  rw[znC fun v hv=>(ybm.mp nd).1 (List.of_mem_zip hv).1,if_neg hk]
  simp
 | p::P,w::vs,i+1,m,nd,h1,h2,hk=>by
  show bindC kindOf ((p,w)::P.zip vs) m x=_
  unfold bindC
  exact znI (i:=i) (ybm.mp nd).2 (by simpa using h1) (by simpa using h2) hk
noncomputable def start (N:List Str) (vs:List V):St:=vs.map some++List.replicate (N.length-vs.length) none
noncomputable def zgU (CX:CXT) (P:Program) (w:World) (K:W.Frag) (mg:Str->Option Value) (base:Heap) (N:List Str) (qual:Str) (scope:Scope) (f:Addr) (cd:Value) (A:Around) (outer:List Env) (s:Shared) (H:Hp) (E:XK):Cx where
 prog:=P
 w:=w
 K:=K
 mg:=mg
 base:=base
 A:=A.deeper (envOfC qual scope s.heap.objs.size f cd)
 N:=N
 s₀:=s
 H₀:=H
 env:=envOfC qual scope s.heap.objs.size f cd
 outer:=outer
 stack:=envOfC qual scope s.heap.objs.size f cd::outer
 ex:=[]
 calm:=true
 fn:=fun _=>true
 pn:=[]
 xe:=fun e s'=>wpAny (model P w) (A.deeper (envOfC qual scope s.heap.objs.size f cd)) (leaving (envOfC qual scope s.heap.objs.size f cd) e) (fun _ s''=>CX outer H s E e s'') (fun e' s''=>CX outer H s E e' s'') s'
theorem zqr {sc:Scope} {n:Nat} {x:Str} (h:sc.names.lookup x=some .cell):∃ c,(cellsFrom n sc.names []).lookup x=some c:=by
 have q:=PySem.W.cellsFrom_some sc.names n [] (.inl h)
 exact Option.isSome_iff_exists.mp q
theorem ztH {CX:CXT} {P:Program} {w:World} {K:W.Frag} {mg:Str->Option Value} {base:Heap} {N ps:List Str} {qual:Str} {scope:Scope} {f:Addr} {cd:Value} {A:Around} {outer:List Env} {s s1:Shared} {H:Hp} {E:XK} {us:List Value} {vs:List V}
  (S:zj N ps scope) (hd:A.handled=none) (e0:zlE P w K mg base A outer s H) (hl:vs.length=ps.length) (r:Vals vs us)
  (x:InCallC s s.heap.objs.size (bindL (envOfC qual scope s.heap.objs.size f cd).kindOf (ps.zip us) fun _=>none) (cellsFrom (s.heap.objs.size+1) scope.names []) (bindC (envOfC qual scope s.heap.objs.size f cd).kindOf (ps.zip us) fun _=>none) s1) :
  Inv (zgU CX P w K mg base N qual scope f cd A outer s H E) [] (start N vs) H s1:=by
 have hpl:ps.length<=N.length:=by have:=congrArg List.length S.pre;rw[yaq] at this;ac_rfl
 obtain ⟨h1,tk,rfl,hk⟩:=x.done
 have noA:∀ b:Addr,b ∉ (zgU CX P w K mg base N qual scope f cd A outer s H E).ex:=fun b z=>absurd (show b∈([]:List Addr) from z) (by simp)
 refine ⟨⟨e0.mod,S.kind,rfl,rfl,ydc _,fun y z c h1 h2=>?_,fun y hy=>?_,fun y c _ h=>?_,fun _=>hd,Around.frames_deeper e0.frames,.inr ⟨rfl,rfl⟩,fun b z=>absurd z (noA b),e0.bs,e0.bsz,fun b _ _=>noA b,fun b z=>absurd z (noA b),e0.funs,e0.frf⟩,
  rfl,e0.bare,Un.kept hk,⟨_,x.toInCall.ns,fun i y v h1 h2 h3=>?_⟩,fun y c h=>⟨_,x.cell y c h⟩,e0.hok.fresh (ydc _),fun y c h=>?_,fun p hp=>absurd (show p∈([]:List (Addr × Obj)) from hp) (by simp),e0.hok.kept hk,?_⟩
 ·exact name_of_addr x.apart (PySem.mem_of_lookup h1) (PySem.mem_of_lookup h2)
 ·have hy:scope.names.lookup y=some .cell\/scope.names.lookup y=some .free:=hy
  rcases hy with hy | hy
  ·exact zqr hy
  ·exact absurd rfl (S.nofree _ (PySem.mem_of_lookup hy))
 ·exact ydp (x.above y c (PySem.mem_of_lookup h))
 ·have hi:i<vs.length:=by
   unfold start at h2
   by_cases hi:i<vs.length
   ·exact hi
   ·rw[ybk (by simpa using hi)] at h2
    rw[List.getElem?_replicate] at h2
    split at h2 <;> cases h2
  have ha:vs[i]?=some v:=by
   unfold start at h2
   rw[ybs (by simpa using hi),yaj] at h2
   cases e:vs[i]? with
   | none=>rw[e] at h2;cases h2
   | some a=>rw[e] at h2;cases h2;rfl
  obtain ⟨u,hu,rv⟩:=r.get ha
  have hp:ps[i]?=some y:=by
   rw[<-S.pre,List.getElem?_take_of_lt (by ac_rfl)];exact h1
  have ndP:ps.Nodup:=by rw[<-S.pre];exact S.nd.sublist (List.take_sublist _ _)
  refine ⟨u,rv,?_⟩
  rcases S.par y (yah hp) with k | k
  ·exact .inl ⟨k,zny ndP hp hu k⟩
  ·obtain ⟨c,e⟩:=zqr (n:=s.heap.objs.size+1) k
   refine .inr ⟨.inl k,c,e,?_⟩
   have q:=x.cell y c e
   rw[znI ndP hp hu (by show scope.names.lookup y≠_;rw[k];decide)] at q
   exact q
 ·exact e0.hok.fresh (ydp (x.above y c (PySem.mem_of_lookup h)))
 ·unfold start
  show _=N.length
  rw[yad,yab,List.length_replicate]
  ac_rfl
theorem zxv {CX:CXT} {P:Program} {w:World} {K:W.Frag} {mg:Str->Option Value} {base:Heap} {k:Nat} {f:Addr} {name qual:Str} {params:Arguments} {body:List Stmt} {scope:Scope} {dV kV doc pm cdv ct oc:Value} {an od:Option Addr}
  {osl:Array (Option Value)} {N ps:List Str} {sp:Sp} (lk:K.lookup f=some ⟨oc,od,.func (PySem.W.fnOf name qual params body scope dV kV doc pm an cdv ct),osl⟩) (hcd:PySem.W.codeIn K cdv qual=true) (S:zj N ps scope)
  (len:∀ vs H Q E,sp vs H Q E->vs.length=ps.length)
  (hbody:∀ (A:Around) (outer:List Env) (s:Shared) (H:Hp) (vs:List V) (Q:VK) (E:XK),Room k (A.deeper (envOfC qual scope s.heap.objs.size f cdv))->sp vs H Q E ->
   ∃ t,PSs (zgU CX P w K mg base N qual scope f cdv A outer s H E) body t/\t { nx:=fun _ H'=>Q .non H',rt:=Q } (start N vs) H) :
  zco P w K mg base CX (k+1) f (PySem.W.fnOf name qual params body scope dV kV doc pm an cdv ct) ps sp:=by
 refine ⟨len,fun A outer s H args us vs Q E hr e0 hb r hsp=>?_⟩
 have hl:=len _ _ _ _ hsp
 have KX:K.In s.heap:=e0.mod.kin.keeps fun b o e=>(e0.bs b o e).1
 have lim:s.heap.NoLimit:=e0.mod.nolimit.keeps fun b o e=>(e0.bs b o e).1
 have hkind:∀ y∈ps.zip us,scope.names.lookup y.1=some .local\/(scope.names.lookup y.1=some .cell/\((cellsFrom (s.heap.objs.size+1) scope.names []).lookup y.1).isSome=true):=fun ⟨n,v⟩ hy=>by
  rcases S.par n (List.of_mem_zip hy).1 with q | q
  ·exact .inl q
  ·exact .inr ⟨q,PySem.W.cellsFrom_some _ _ _ (.inl q)⟩
 refine codeAny_call_function hr.depth (KX _ _ lk) rfl S.co S.gen rfl (PySem.W.codeRec_of KX hcd) (hb _ _ _ _ ?_)
 refine wpAny_newFunctionEnv_cells S.kind hkind fun env he s1 x=>?_
 subst he
 refine ⟨lim.keeps x.toInCall.keep,codeAny_func ?_⟩
 obtain ⟨t,ht,hq⟩:=hbody A outer s H vs Q E (hr.deeper _) hsp
 have I:Inv (zgU CX P w K mg base N qual scope f cdv A outer s H E) [] (start N vs) H s1:=ztH S hr.hd e0 hl r x
 refine wpAny_mono (ht [] s1 (start N vs) H _ I hq) (fun fl s' hs=>?_) fun e s' hs=>hs
 have fin:∀ {σ':St} {H':Hp} {v:V} {u:Value},Inv (zgU CX P w K mg base N qual scope f cdv A outer s H E) [] σ' H' s'->RelV v u->Q v H'->CE outer P w H s Q u s' :=
  fun {σ' H' v u} J rv q=>⟨v,H',J.os,J.bare,J.base,J.hok,rv,q⟩
 cases fl with
 | ret u =>
  obtain ⟨v,σ',H',J,rv,q⟩:=hs
  exact fin J rv q
 | next =>
  obtain ⟨σ',H',J,q⟩:=hs
  exact fin (v:=V.non) (u:=Value.none) J rfl q
 | brk =>
  obtain ⟨_,_,_,q⟩:=hs
  exact False.elim q
 | cont =>
  obtain ⟨_,_,_,q⟩:=hs
  exact False.elim q
section
variable {X:Cx} {x:Str} {p pos:Pos} {e:Expr} {es:List Expr} {t:TA} {id T:String} {r:List V->Hp->VK->Prop}
def tCB (r:List V->Hp->VK->Prop) (t:TA):TE:=fun σ H Q=>t σ H fun vs H1=>r vs H1 Q
theorem zE (hc:zbC X (.builtin id) r) (hg:Gl X x) (hm:X.mg x=none) (hv:bootBuiltins x=some (.builtin id)) (ha:PA X (e::es) t) (hn:x ≠ "__name__" := by decide) (hdb:(x == ("__debug__" : Str))=false:=by decide)
  (he:starEach (e::es) X.env=(false,eval e X.env)::starEach es X.env:=by rfl) (hpl:(backTo pos (starEach es X.env)).any (·.1)=false:=by rfl):PE X (.Call (.Name x p) (e::es) [] pos) (tCB r t):=by
 intro pins s σ H Q I h
 refine wpAny_Call_Name_kw (zkr I hg hm hv ?_ hn hdb)
 exact PyProof.Rows.callWith_builtin1 (thn (ha pos pins s σ H _ I h) fun us s1 ⟨vs,H1,I1,r1,q1⟩=>hc pins s1 σ H1 vs us Q I1 r1 q1) he hpl
theorem zU (hc:zbC X (.type T) r) (hg:Gl X x) (hm:X.mg x=none) (hv:bootBuiltins x=some (.type T)) (ha:PA X (e::es) t) (hn:x ≠ "__name__" := by decide) (hdb:(x == ("__debug__" : Str))=false:=by decide)
  (he:starEach (e::es) X.env=(false,eval e X.env)::starEach es X.env:=by rfl) (hpl:(backTo pos (starEach es X.env)).any (·.1)=false:=by rfl):PE X (.Call (.Name x p) (e::es) [] pos) (tCB r t):=by
 intro pins s σ H Q I h
 refine wpAny_Call_Name_kw (zkr I hg hm hv ?_ hn hdb)
 exact PyProof.Rows.callWith_type1 (thn (ha pos pins s σ H _ I h) fun us s1 ⟨vs,H1,I1,r1,q1⟩=>hc pins s1 σ H1 vs us Q I1 r1 q1) he hpl
end
end L2
namespace HT
open PySem PyProof.Rows
section
open PySem.SeqAt
open PySem.AutoSeq1 (wpAny_loadPart')
open PySem.MeetsSeq PySem.MeetsSeq2 PySem.MeetsSeq3
end
section
variable {prog:Program} {w:World} {A:Around} {E:Value->Shared->Prop} {s:Shared}
noncomputable def sIx (n d:Nat):Option Int->Nat
 | none=>d
 | some v=>if v<0 then (v+(n:Int)).toNat else min v.toNat n
end
end HT
namespace L2
open PySem PySem.Spec PyProof.Rows
noncomputable abbrev TO:=St->Hp->(Option Int->Hp->Prop)->Prop
def PO (X:Cx) (e:Option Expr) (t:TO):Prop :=
 ∀ (pins:List (Addr × Obj)) (s:Shared) (σ:St) (H:Hp) (Q:Option Int->Hp->Prop),Inv X pins σ H s->t σ H Q ->
  wpAny (model X.prog X.w) X.A (evalPart e X.env) (fun u s'=>∃ o H',Inv X pins σ H' s'/\IsPart u o/\Q o H') X.xe s
def zv2:TO:=fun _ H Q=>Q none H
def zxf (t:TE):TO:=fun σ H Q=>t σ H fun x H1=>∃ i,x=.int i/\Q (some i) H1
section
variable {X:Cx} {e:Expr} {te:TE} {lo hi:Option Expr} {tl th:TO} {pos p2:Pos}
theorem zk7:PO X none zv2:=by
 intro pins s σ H Q I h
 rw[evalPart_none]
 exact wpAny_pure ⟨none,H,I,.none,h⟩
theorem zk1 (h:PE X e te):PO X (some e) (zxf te):=by
 intro pins s σ H Q I hw
 rw[evalPart_some]
 refine thn (h pins s σ H _ I hw) fun u s1 ⟨x,H1,I1,r1,q1⟩=>?_
 obtain ⟨i,rfl,q⟩:=q1
 obtain ⟨t,rfl⟩:=r1
 exact ⟨some i,H1,I1,.int i t,q⟩
def SlR (X:Cx) (r:V->Option Int->Option Int->Hp->VK->Prop):Prop :=
 ∀ (pins:List (Addr × Obj)) (s:Shared) (σ:St) (H:Hp) (x:V) (v vl vu:Value) (lo hi:Option Int) (sl:Addr) (Q:VK),Inv X pins σ H s->RelV x v->s.heap.IsSliceOf sl vl vu .none->IsPart vl lo->IsPart vu hi->r x lo hi H Q ->
  ∃ T id,typeLookup (.type T) "__getitem__" = pure (some (.builtin id))/\s.TypeIs v T/\wpAny (model X.prog X.w) X.A (getItem v (.ref sl)) (EP X pins σ Q) X.xe s
def tSl (r:V->Option Int->Option Int->Hp->VK->Prop) (te:TE) (tl th:TO):TE:=fun σ H Q=>te σ H fun x H1=>tl σ H1 fun l H2=>th σ H2 fun u H3=>r x l u H3 Q
theorem zi2 {r:V->Option Int->Option Int->Hp->VK->Prop} (hr:SlR X r) (he:PE X e te) (hl:PO X lo tl) (hu:PO X hi th):PE X (.Subscript e (.Slice lo hi none p2) pos) (tSl r te tl th):=by
 intro pins s σ H Q I h
 refine Subscript_ (thn (he pins s σ H _ I h) fun v s1 ⟨x,H1,I1,r1,q1⟩=>?_)
 refine wpAny_Slice (thn (hl pins s1 σ H1 _ I1 q1) fun vl s2 ⟨l,H2,I2,pl,q2⟩=>thn (hu pins s2 σ H2 _ I2 q2) fun vu s3 ⟨u,H3,I3,pu,q3⟩=>?_)
 rw[evalPart_none]
 refine wpAny_pure ?_
 have I4:Inv X pins σ H3 { s3 with heap:=s3.heap.push { cls:=.type "slice", data:=.fields #[vl,vu,.none] } }:=I3.kept (t':=s3.toks) fun b ob q=>ydt _ q
 obtain ⟨T,id,hT,ht,hg⟩:=hr pins { s3 with heap:=s3.heap.push { cls:=.type "slice", data:=.fields #[vl,vu,.none] } } σ H3 x v vl vu l u s3.heap.objs.size Q I4 r1 (Heap.IsSliceOf.new ..) pl pu q3
 show wpAny (model X.prog X.w) X.A (subscriptTail e (.Slice lo hi none p2) v (.ref s3.heap.objs.size)) (EP X pins σ Q) X.xe { s3 with heap:=s3.heap.push { cls:=.type "slice", data:=.fields #[vl,vu,.none] } }
 exact tail_any (ops:=[.ref s3.heap.objs.size,v]) ht hT hg (by with_unfolding_all rfl)
noncomputable def zkJ (xs:List V) (lo hi:Option Int):List V:=(xs.drop (HT.sIx xs.length 0 lo)).take (HT.sIx xs.length xs.length hi-HT.sIx xs.length 0 lo)
theorem zq2 (xs:List V) (lo hi:Option Int):(zkJ xs lo hi).length<=xs.length:=by
 unfold zkJ
 rw[yaq,ybt]
 ac_rfl
end
noncomputable def ixN (n:Nat) (i:Int):Option Nat:=if 0<=i then (if i<n then some i.toNat else none) else if -(n:Int)<=i then some (i+n).toNat else none
noncomputable def atI {α:Type} (xs:List α) (i:Int):Option α:=(ixN xs.length i).bind fun j=>xs[j]?
theorem zrW {n:Nat} {i:Int} {j:Nat} (h:ixN n i=some j):seqIndex? i n=some j/\j<n /\ -(n:Int)<=i/\i<n:=by
 unfold ixN at h
 by_cases h0:0<=i
 ·rw[if_pos h0] at h
  by_cases h1:i<n
  ·rw[if_pos h1] at h
   have e:i.toNat=j:=Option.some.inj h
   exact ⟨by rw[seqIndex_of h0 h1,e],by ac_rfl,by ac_rfl,h1⟩
  ·rw[if_neg h1] at h;cases h
 ·rw[if_neg h0] at h
  by_cases h1:-(n:Int)<=i
  ·rw[if_pos h1] at h
   have e:(i+n).toNat=j:=Option.some.inj h
   exact ⟨by rw[seqIndex_neg (by ac_rfl) h1,e],by ac_rfl,h1,by ac_rfl⟩
  ·rw[if_neg h1] at h;cases h
theorem zrF {α:Type} {xs:List α} {i:Int} {v:α} (h:atI xs i=some v):∃ j,seqIndex? i xs.length=some j/\xs[j]?=some v/\j<xs.length /\ -(xs.length:Int)<=i/\i<xs.length:=by
 unfold atI at h
 cases e:ixN xs.length i with
 | none=>rw[e] at h;cases h
 | some j =>
  rw[e] at h
  obtain ⟨h1,h2,h3,h4⟩:=zrW e
  exact ⟨j,h1,h,h2,h3,h4⟩
theorem za4 {α:Type} {xs:List α} {j:Nat} {v:α} (h:xs[j]?=some v):atI xs (j:Int)=some v:=by
 have hj:j<xs.length:=(yac.mp h).1
 have e:ixN xs.length (j:Int)=some j:=by
  unfold ixN
  rw[if_pos (by ac_rfl),if_pos (by ac_rfl)];simp
 unfold atI;rw[e];exact h
def zvJ (b:Expr):Prop:=∀ o i,subscripted b false o i=operate [o,i] (getItem o i)
def IxR (X:Cx) (r:R2):Prop :=
 ∀ (value slice:Expr) (pins:List (Addr × Obj)) (s:Shared) (σ:St) (H:Hp) (x y:V) (v u:Value) (Q:VK),Inv X pins σ H s->RelV x v->RelV y u->r x y H Q ->
  subscripted slice false v u=operate [v,u] (getItem v u)->wpAny (model X.prog X.w) X.A (subscriptTail value slice v u) (EP X pins σ Q) X.xe s
def MtR (X:Cx) (id:String) (r:V->List V->Hp->VK->Prop):Prop :=
 ∀ (pins:List (Addr × Obj)) (s:Shared) (σ:St) (H:Hp) (x:V) (xs:List V) (v:Value) (us:List Value) (Q:VK),Inv X pins σ H s->RelV x v->Vals xs us->r x xs H Q ->
  wpAny (model X.prog X.w) X.A (call (.builtin id) (v::us)) (EP X pins σ Q) X.xe s
section
variable {X:Cx} {a b:Expr} {ta tb:TE} {pos:Pos}
theorem zB {r:R2} (hr:IxR X r) (ha:PE X a ta) (hb:PE X b tb) (hs:zvJ b):PE X (.Subscript a b pos) (tOp r ta tb):=by
 intro pins s σ H Q I h
 exact Subscript_ (zuB ha hb I h fun v u s2 x y H2 I2 rx ry q=>hr a b pins s2 σ H2 x y v u Q I2 rx ry q (hs _ _))
def zwI (K:W.Frag):R2:=fun x y H Q=>∃ p xs i v,x=.ref p/\y=.int i/\SqL K H p xs/\atI xs i=some v/\Q v H
def zwA (K:W.Frag):R2:=fun x y H Q=>∃ p xs i v,x=.ref p/\y=.int i/\SqT K H p xs/\atI xs i=some v/\Q v H
theorem zag:IxR X (zwI X.K):=by
 intro value slice pins s σ H x y v u Q I rx ry h hs
 obtain ⟨p,xs,i,z,rfl,rfl,hq,he,q⟩:=h
 cases rx
 obtain ⟨t,rfl⟩:=ry
 obtain ⟨its,r,pl,hz⟩:=I.list hq
 obtain ⟨j,h1,h2,h3,h4,h5⟩:=zrF he
 obtain ⟨w,ew,rw'⟩:=r.get h2
 have hl:=r.length
 have hn:=zmf
 have fin:EP X pins σ Q w s:=⟨z,H,I,rw',q⟩
 by_cases h0:0<=i
 ·have hj:i.toNat=j:=by
   rw[seqIndex_of h0 h5] at h1
   exact Option.some.inj h1
  exact item_listR pl.isList h0 (by ac_rfl) (by rw[hj];simpa using ew) fin hs
 ·have hj:(i+(its.toArray.size:Int)).toNat=j:=by
   rw[seqIndex_neg (by ac_rfl) h4] at h1
   rw[yao,<-hl]
   exact Option.some.inj h1
  exact subscriptTail_builtinR (x:=w) pl.isList.typeIs slot_list_getitem.lookup
   (wpAny_getItem_list_neg (Q:=fun r s'=>r=w/\EP X pins σ Q r s') pl.isList (by ac_rfl) (by rw[yao] <;> ac_rfl) (by ac_rfl) (by rw[hj];simpa using ew) ⟨rfl,fin⟩) hs
theorem zap:IxR X (zwA X.K):=by
 intro value slice pins s σ H x y v u Q I rx ry h hs
 obtain ⟨p,xs,i,z,rfl,rfl,hq,he,q⟩:=h
 cases rx
 obtain ⟨t,rfl⟩:=ry
 obtain ⟨its,r,pl,hz⟩:=I.tuple hq
 obtain ⟨j,h1,h2,h3,h4,h5⟩:=zrF he
 obtain ⟨w,ew,rw'⟩:=r.get h2
 have hl:=r.length
 have hn:=zmf
 have fin:EP X pins σ Q w s:=⟨z,H,I,rw',q⟩
 exact subscriptTail_builtinR (x:=w) pl.typeIs slot_tuple_getitem.lookup
  (getItem_tuple (j:=j) (Q:=fun r s'=>r=w/\EP X pins σ Q r s') pl (by ac_rfl) (by ac_rfl) (by rw[yao,<-hl];exact h1) (by simpa using ew) ⟨rfl,fin⟩) hs
theorem zse (its:List Value) (n j:Nat) (u:Value):Obj.mapSeq (·.setIfInBounds j u) { cls:=.type "list", data:=.seq its.toArray n }={ cls:=.type "list", data:=.seq (its.set j u).toArray n }:=by
 simp[Obj.mapSeq]
theorem Inv.lst {pins:List (Addr × Obj)} {σ:St} {H:Hp} {s:Shared} {p:Addr} {xs:List V} (I:Inv X pins σ H s) (h:H p=some (.lst xs)) :
  ∃ (its:List Value) (n:Nat),Vals xs its/\s.heap.get? p=some { cls:=.type "list", data:=.seq its.toArray n }/\xs.length<=sizeLine:=by
 obtain ⟨z,its,n,r,e⟩:=I.hok p _ h
 exact ⟨its,n,r,e,z⟩
theorem Inv.zwC {pins:List (Addr × Obj)} {σ:St} {H:Hp} {s:Shared} {p:Addr} {xs ys:List V} {its its':List Value} {n n':Nat} {f:Obj->Obj} (I:Inv X pins σ H s) (h:H p=some (.lst xs))
  (ho:s.heap.get? p=some { cls:=.type "list", data:=.seq its.toArray n }) (hf:f { cls:=.type "list", data:=.seq its.toArray n }={ cls:=.type "list", data:=.seq its'.toArray n' }) (r:Vals ys its') (hz:ys.length<=sizeLine) (t:Nat) :
  Inv X pins σ (upd H p (.lst ys)) { s with heap:=s.heap.update p f,toks:=t }:=by
 have e:(s.heap.update p f).get? p=some { cls:=.type "list", data:=.seq its'.toArray n' }:=by
  rw[ydy f ho (by rw[hf] <;> rfl),hf]
 refine I.write (x:=p) (e:=p) (by rw[h];trivial) (.inl rfl) (fun b u hb q=>(Heap.get?_update_other _ _ (Ne.symm hb)).trans q) ⟨_,e⟩ ?_
 exact ⟨hz,its',n',r,e⟩
noncomputable def zxe:V->V->V->Hp->(Hp->Prop)->Prop:=fun o i v H Q=>∃ p xs k j,o=.ref p/\i=.int k/\H p=some (.lst xs)/\ixN xs.length k=some j/\Q (upd H p (.lst (xs.set j v)))
theorem set_list:PSet X zxe:=by
 intro pins s σ H o i v ov iv u Q I ro ri rv h
 obtain ⟨p,xs,k,j,rfl,rfl,hp,hj,q⟩:=h
 cases ro
 obtain ⟨t,rfl⟩:=ri
 obtain ⟨its,n,r,ho,hz⟩:=I.lst hp
 obtain ⟨h1,h2,h3,h4⟩:=zrW hj
 have hl:=r.length
 have hn:=zmf
 have I':Inv X pins σ (upd H p (.lst (xs.set j v))) { s with heap:=s.heap.update p (Obj.mapSeq (·.setIfInBounds j u)) } :=
  I.zwC hp ho (zse its n j u) (r.set rv j) (by rw[List.length_set];exact hz) s.toks
 by_cases h0:0<=k
 ·have hk:k.toNat=j:=by
   rw[seqIndex_of h0 h4] at h1
   exact Option.some.inj h1
  exact PySem.W.ki_setAt ho h0 (by ac_rfl) (by rw[yao,<-hl];exact h4) (by rw[hk];exact ⟨_,I',q⟩)
 ·have hk:(k+(its.toArray.size:Int)).toNat=j:=by
   rw[seqIndex_neg (by ac_rfl) h3] at h1
   rw[yao,<-hl]
   exact Option.some.inj h1
  exact PySem.W.ki_setBack ho (by ac_rfl) (by rw[yao,<-hl];exact h3) (by ac_rfl) (by rw[hk];exact ⟨_,I',q⟩)
theorem zpP (lo hi:Option Int) (n:Nat):(sliceBounds lo hi none n).1=((HT.sIx n 0 lo:Nat):Int)/\(sliceBounds lo hi none n).2.1=((HT.sIx n n hi:Nat):Int)/\(sliceBounds lo hi none n).2.2=1:=by
 refine ⟨?_,?_,rfl⟩
 ·cases lo with
  | none=>simp[sliceBounds,HT.sIx]
  | some i =>
   simp only[sliceBounds,HT.sIx,Option.getD_none,show (1:Int) > 0 by decide,if_true]
   by_cases h:i<0
   ·simp only[h,if_true] <;> ac_rfl
   ·simp only[h,if_false] <;> ac_rfl
 ·cases hi with
  | none=>simp[sliceBounds,HT.sIx]
  | some i =>
   simp only[sliceBounds,HT.sIx,Option.getD_none,show (1:Int) > 0 by decide,if_true]
   by_cases h:i<0
   ·simp only[h,if_true] <;> ac_rfl
   ·simp only[h,if_false] <;> ac_rfl
theorem znZ (its:List Value) (lo hi:Option Int):slicePick its.toArray lo hi none=((its.drop (HT.sIx its.length 0 lo)).take (HT.sIx its.length its.length hi-HT.sIx its.length 0 lo)).toArray:=by
 obtain ⟨h1,h2,h3⟩:=zpP lo hi its.toArray.size
 unfold slicePick
 rw[h1,h2,h3]
 simp only[sliceRange_one,pick_run,yao] <;> rfl
noncomputable def zxQ (K:W.Frag):V->Option Int->Option Int->Hp->VK->Prop:=fun x lo hi H Q=>∃ a xs,x=.ref a/\SqL K H a xs/\∀ p,H p=none->Q (.ref p) (upd H p (.lst (zkJ xs lo hi)))
theorem zkV:SlR X (zxQ X.K):=by
 intro pins s σ H x v vl vu lo hi sl Q I rx hs pl pu h
 obtain ⟨a,xs,rfl,hx,q⟩:=h
 cases rx
 obtain ⟨its,r,ht,hz⟩:=I.list hx
 have hlen:=r.length
 refine ⟨"list", _,slot_list_getitem.lookup,ht.isList.typeIs,?_⟩
 refine wpAny_getItem_list_slice ht.isList hs pl pu .none (by simp) ?_ (by rw[yao] <;> ac_rfl)
 rw[znZ,<-hlen]
 refine ⟨.ref s.heap.objs.size,_,I.laid (t':=s.toks) (o:=.lst (zkJ xs lo hi)) (fun b ob q=>ydt _ q) (ydc _) ?_,rfl,q _ (I.hok.fresh (ydc _))⟩
 exact ⟨ydh (zq2 xs lo hi) hz,_,0,(r.drop (HT.sIx xs.length 0 lo)).take (HT.sIx xs.length xs.length hi-HT.sIx xs.length 0 lo),ydv _ rfl⟩
noncomputable def zhv:V->Bool
 | .non=>true
 | .bl _=>true
 | .int _=>true
 | .str _=>true
 | _=>false
noncomputable def eqV:V->V->Bool
 | .non,.non=>true
 | .bl a,.bl b=>a == b
 | .bl a,.int b=>(if a then 1 else 0) == b
 | .int a,.bl b=>a == (if b then 1 else 0)
 | .int a,.int b=>a == b
 | .str a,.str b=>a == b
 | _,_=>false
theorem zwW {A:Around} {s:Shared} {y x:V} {u v:Value} (ry:RelV y u) (rx:RelV x v) (fy:zhv y=true) (fx:zhv x=true):SeqAt.EqAt A s u v (eqV y x):=by
 cases y with
 | non =>
  cases ry
  cases x with
  | non=>cases rx;exact SeqAt.EqAt.same _
  | bl b=>cases rx;exact SeqAt.EqAt.none_bool b
  | int b=>obtain ⟨t,rfl⟩:=rx;exact SeqAt.EqAt.none_int b t
  | str b=>obtain ⟨t,rfl⟩:=rx;exact SeqAt.EqAt.none_str b t
  | _=>exact absurd (show false=true from fx) Bool.false_ne_true
 | bl a =>
  cases ry
  cases x with
  | non=>cases rx;exact SeqAt.EqAt.bool_none a
  | bl b=>cases rx;exact SeqAt.EqAt.bool_bool a b
  | int b=>obtain ⟨t,rfl⟩:=rx;exact SeqAt.EqAt.bool_int a b t
  | str b=>obtain ⟨t,rfl⟩:=rx;exact SeqAt.EqAt.bool_str a b t
  | _=>exact absurd (show false=true from fx) Bool.false_ne_true
 | int a =>
  obtain ⟨t',rfl⟩:=ry
  cases x with
  | non=>cases rx;exact SeqAt.EqAt.int_none a t'
  | bl b=>cases rx;exact SeqAt.EqAt.int_bool a t' b
  | int b=>obtain ⟨t,rfl⟩:=rx;exact SeqAt.EqAt.int_int a t' b t
  | str b=>obtain ⟨t,rfl⟩:=rx;exact SeqAt.EqAt.int_str a t' b t
  | _=>exact absurd (show false=true from fx) Bool.false_ne_true
 | str a =>
  obtain ⟨t',rfl⟩:=ry
  cases x with
  | non=>cases rx;exact SeqAt.EqAt.str_none a t'
  | bl b=>cases rx;exact SeqAt.EqAt.str_bool a t' b
  | int b=>obtain ⟨t,rfl⟩:=rx;exact SeqAt.EqAt.str_int a t' b t
  | str b=>obtain ⟨t,rfl⟩:=rx;exact SeqAt.EqAt.str_str a t' b t
  | _=>exact absurd (show false=true from fx) Bool.false_ne_true
 | _=>exact absurd (show false=true from fy) Bool.false_ne_true
def eqU (x:V) (u:Value):Bool:=match u with
 | .none=>eqV .non x
 | .bool b=>eqV (.bl b) x
 | .int i _=>eqV (.int i) x
 | .str z _=>eqV (.str z) x
 | _=>false
theorem zs9 {x y:V} {u:Value} (r:RelV y u) (f:zhv y=true):eqU x u=eqV y x:=by
 cases y with
 | non=>cases r;rfl
 | bl b=>cases r;rfl
 | int i=>obtain ⟨t,rfl⟩:=r;rfl
 | str z=>obtain ⟨t,rfl⟩:=r;rfl
 | _=>exact absurd (show false=true from f) Bool.false_ne_true
theorem znc {x:V}:∀ {xs:List V} {us:List Value},Vals xs us->xs.all zhv=true->us.any (eqU x)=xs.any fun y=>eqV y x
 | _,_,.nil,_=>rfl
 | y::xs,u::us,.cons r t,f=>by
  rw[List.all_cons,Bool.and_eq_true] at f
  rw[yct,yct,zs9 r f.1,znc t f.2]
theorem zl7 {A:Around} {s:Shared} {x:V} {v:Value} (rx:RelV x v) (fx:zhv x=true):∀ {xs:List V} {us:List Value},Vals xs us->xs.all zhv=true->∀ u∈us,SeqAt.EqAt A s u v (eqU x u)
 | _,_,.nil,_=>fun u hu=>by cases hu
 | y::xs,u::us,.cons r t,f=>fun u' hu=>by
  rw[List.all_cons,Bool.and_eq_true] at f
  rcases yal.mp hu with rfl | hu
  ·rw[zs9 r f.1];exact zwW r rx f.1 fx
  ·exact zl7 rx fx t f.2 u' hu
def inV (x:V) (xs:List V):Bool:=xs.any fun y=>eqV y x
def rIn (K:W.Frag) (neg:Bool):R2:=fun x y H Q=>∃ p xs,y=.ref p/\(SqL K H p xs\/SqT K H p xs)/\zhv x=true/\xs.all zhv=true/\Q (.bl (if neg then !inV x xs else inV x xs)) H
theorem zj7:OpR X (compareOp .In) (rIn X.K false):=by
 intro pins s σ H x y v u Q I rx ry h
 obtain ⟨p,xs,rfl,hq,fx,fs,q⟩:=h
 cases ry
 rcases hq with hq | hq
 ·obtain ⟨its,r,pl,hz⟩:=I.list hq
  refine SeqAt.in_listAt (eqU x) pl.isList (fun w hw=>zl7 rx fx r fs w (by simpa using hw)) ⟨.bl _,H,I,rfl,?_⟩
  rw[show its.toArray.any (eqU x)=its.any (eqU x) by simp,znc r fs]
  exact q
 ·obtain ⟨its,r,pl,hz⟩:=I.tuple hq
  refine SeqAt.in_tupleAt (eqU x) pl (fun w hw=>zl7 rx fx r fs w (by simpa using hw)) ⟨.bl _,H,I,rfl,?_⟩
  rw[show its.toArray.any (eqU x)=its.any (eqU x) by simp,znc r fs]
  exact q
theorem zam:zbC X (.builtin "len") (fun xs H Q=>∃ p ys,xs=[.ref p]/\(SqL X.K H p ys\/SqT X.K H p ys)/\Q (.int ys.length) H):=by
 intro pins s σ H xs us Q I r h
 obtain ⟨p,ys,rfl,hq,q⟩:=h
 obtain ⟨u,rfl,rx⟩:=vals1 r
 cases rx
 have hn:=zmf
 rcases hq with hq | hq
 ·obtain ⟨its,r',pl,hz⟩:=I.list hq
  have hlen:=r'.length
  exact Calls.call_len_list pl.isList (by simp only[yao] <;> ac_rfl) ⟨.int ys.length,H,I.tok _,⟨s.toks+1,by rw[yao,hlen]⟩,q⟩
 ·obtain ⟨its,r',pl,hz⟩:=I.tuple hq
  have hlen:=r'.length
  exact len_tuple pl (by simp only[yao] <;> ac_rfl) ⟨.int ys.length,H,I.tok _,⟨s.toks+1,by rw[yao,hlen]⟩,q⟩
theorem zaO:zbC X (.type "list") (fun xs H Q=>∃ p ys,xs=[.ref p]/\(SqL X.K H p ys\/SqT X.K H p ys)/\∀ l,H l=none->Q (.ref l) (upd H l (.lst ys))):=by
 intro pins s σ H xs us Q I r h
 obtain ⟨p,ys,rfl,hq,q⟩:=h
 obtain ⟨u,rfl,rx⟩:=vals1 r
 cases rx
 have fin:∀ (its:List Value),Vals ys its->ys.length<=sizeLine->∀ (h':Heap) (c':Nat),(∀ b o',s.heap.get? b=some o'->h'.get? b=some o') ->
   h'.get? s.heap.objs.size=some { cls:=.type "list", dict:=none,data:=.seq its.toArray c',slots:=#[] }->EP X pins σ Q (.ref s.heap.objs.size) { s with heap:=h' }:=fun its r' hz h' c' kp e =>
  ⟨.ref s.heap.objs.size,_,I.laid (t':=s.toks) kp (ydc _) (show zas X.prog X.w _ h' _ (.lst ys) from ⟨hz,its,c',r',e⟩),rfl,q _ (I.hok.fresh (ydc _))⟩
 rcases hq with hq | hq
 ·obtain ⟨its,r',pl,hz⟩:=I.list hq
  have hlen:=r'.length
  obtain ⟨o,ho,hc,n,hd⟩:=pl.isList
  exact call_list_seq p (.inl rfl) ho hc hd (fun h' c' kp e=>fin its r' hz h' c' kp e) (by simp only[yao] <;> ac_rfl)
 ·obtain ⟨its,r',pl,hz⟩:=I.tuple hq
  have hlen:=r'.length
  obtain ⟨o,ho,hc,n,hd⟩:=pl
  exact call_list_seq p (.inr rfl) ho hc hd (fun h' c' kp e=>fin its r' hz h' c' kp e) (by simp only[yao] <;> ac_rfl)
def tyV (K:W.Frag) (T:String) (x:V) (H:Hp):Prop:=match x with
 | .str _=>T = "str"
 | .int _=>T = "int"
 | .ref p=>(T = "list" /\ ∃ xs,SqL K H p xs)\/(T = "tuple" /\ ∃ o,K.lookup p=some o/\o.cls=.type "tuple" /\ o.dict=none) \/
   (T = "dict" /\ ∃ kvs,H p=some (.dK kvs))\/(T = "set" /\ ∃ S n,H p=some (.set S n))
 | _=>False
theorem zwQ {pins:List (Addr × Obj)} {σ:St} {H:Hp} {s:Shared} {T:String} {x:V} {v:Value} (I:Inv X pins σ H s) (r:RelV x v) (ty:tyV X.K T x H) :
  s.TypeIs v T/\∀ a,v=.ref a->∃ ob,s.heap.get? a=some ob/\ob.dict=none:=by
 cases x with
 | str z =>
  obtain ⟨t,rfl⟩:=r
  cases (show T = "str" from ty)
  exact ⟨typeIs_str s z t,fun _ e=>nomatch e⟩
 | int i =>
  obtain ⟨t,rfl⟩:=r
  cases (show T = "int" from ty)
  exact ⟨typeIs_int s i t,fun _ e=>nomatch e⟩
 | ref p =>
  cases r
  rcases ty with ⟨rfl,xs,hq⟩ | ⟨rfl,o,hk,hc,hd⟩ | ⟨rfl,hk⟩ | ⟨rfl,S,n,hk⟩
  ·obtain ⟨its,_,pl,_⟩:=I.list hq
   refine ⟨pl.isList.typeIs,fun a e=>?_⟩
   cases e
   obtain ⟨o,n,e,c,hd,_⟩:=pl
   exact ⟨o,e,hd⟩
  ·refine ⟨⟨o,I.kIn p o hk,hc⟩,fun a e=>?_⟩
   cases e
   exact ⟨o,I.kIn _ o hk,hd⟩
  ·have z:∃ o,s.heap.get? p=some o/\o.ExactDict:=by
    obtain ⟨kvs,hk⟩:=hk
    obtain ⟨_,_,_,_,o,_,_,e,ex,_⟩:=I.hok p _ hk
    exact ⟨o,e,ex⟩
   obtain ⟨o,e,ex⟩:=z
   refine ⟨⟨o,e,ex.1⟩,fun a e2=>?_⟩
   cases e2
   exact ⟨o,e,ex.2.1⟩
  ·obtain ⟨o,_,_,_,e,ex,_⟩:=I.hok p _ hk
   refine ⟨⟨o,e,ex.1⟩,fun a e2=>?_⟩
   cases e2
   exact ⟨o,e,ex.2.1⟩
 | _=>exact False.elim ty
def tBM (K:W.Frag) (T:String) (r:V->List V->Hp->VK->Prop) (to:TE) (t:TA):TE:=fun σ H Q=>to σ H fun x H1=>tyV K T x H1/\t σ H1 fun xs H2=>r x xs H2 Q
variable {o e:Expr} {es:List Expr} {to:TE} {t:TA} {name:Str} {apos cpos:Pos} {T id:String} {r:V->List V->Hp->VK->Prop}
theorem zer (pa:PlainAttrs T) (slot:Slot T name id) (hty:typeOf (.builtin id)=pure (.type "method_descriptor")) (hm:MtR X id r) (ho:PE X o to) (ha:PA X (e::es) t)
  (hbase:attributeBase o name X.env (eval o X.env)=eval o X.env:=by rfl)
  (hfew:((backTo cpos (starEach (e::es) X.env)).all (fun x=>!x.1) && (backToKw cpos (keywordEach [] X.env)).all (fun x=>x.1.isSome)
   && decide ((e::es).length+([]:List Keyword).length+(if ([]:List Keyword).isEmpty then 0 else 1)<30))=true:=by rfl)
  (hline:(apos.endLine == cpos.line)=true:=by rfl) (hs:starEach (e::es) X.env=(false,eval e X.env)::starEach es X.env:=by rfl) (hplain:(backTo cpos (starEach es X.env)).any (·.1)=false:=by rfl) :
  PE X (.Call (.Attribute o name apos) (e::es) [] cpos) (tBM X.K T r to t):=by
 intro pins s σ H Q I h
 refine wpAny_Call_method_late hbase hfew hline rfl (thn (ho pins s σ H _ I h) fun v s1 ⟨x,H1,I1,r1,ty,q1⟩=>?_)
 obtain ⟨h1,h2⟩:=zwQ I1 r1 ty
 refine ⟨T,id,pa,slot,hty,h1,h2,?_⟩
 have hA:=ha cpos pins s1 σ H1 _ I1 q1
 rw[hs] at hA ⊢
 refine Calls.callWith_builtin (by show (false || (backTo cpos (starEach es X.env)).any (·.1))=false;rw[hplain] <;> rfl) (Calls.evalArgs_plain ?_)
 exact thn hA fun us s2 ⟨vs,H2,I2,r2,q2⟩=>hm pins s2 σ H2 x vs v us Q I2 r1 r2 q2
/- xs.append(e),list.index on a module's tuple .. are MtR facts of 06m -/
end
def MtM (X:Cx) (id:String) (r:V->List V->Hp->VK->Prop):Prop :=
 ∀ (pins:List (Addr × Obj)) (s:Shared) (σ:St) (H:Hp) (x:V) (xs:List V) (v:Value) (us:List Value) (Q:VK),Inv X pins σ H s->RelV x v->Vals xs us->r x xs H Q ->
  wpAny (model X.prog X.w) X.A (call (.builtin id) (v::us)) (EP X pins σ Q) X.xe s
theorem Vals.one:∀ {x:V} {us:List Value},Vals [x] us->∃ u,us=[u]/\RelV x u
 | _,_,.cons r .nil=>⟨_,rfl,r⟩
section
variable {X:Cx} {pins:List (Addr × Obj)} {σ:St} {H:Hp} {s:Shared} {l b:Addr} {xs ys zs:List V}
theorem Inv.lset {its its':List Value} {n:Nat} {f:Array Value->Array Value} {t':Nat} (I:Inv X pins σ H s) (hH:H l=some (.lst xs))
  (e:s.heap.get? l=some { cls:=.type "list", data:=.seq its.toArray n }) (hf:f its.toArray=its'.toArray) (hv:Vals ys its') (hz:ys.length<=sizeLine) :
  Inv X pins σ (upd H l (.lst ys)) { s with heap:=s.heap.update l (Obj.mapSeq f),toks:=t' }:=by
 have q:=PySem.IsL.update e f
 rw[hf] at q
 refine I.write (x:=l) (e:=l) (by rw[hH];exact trivial) (.inl rfl) (fun b' u hb hu=>(Heap.get?_update_other s.heap (Obj.mapSeq f) (Ne.symm hb)).trans hu) ⟨_,q⟩ ?_
 exact ⟨hz,its',_,hv,q⟩
theorem Inv.lnew {its:List Value} {t':Nat} (I:Inv X pins σ H s) (hv:Vals ys its) (hz:ys.length<=sizeLine) :
  Inv X pins σ (upd H s.heap.objs.size (.lst ys)) { s with heap:=s.heap.push { cls:=.type "list", data:=.seq its.toArray },toks:=t' } :=
 I.laid (fun _ _ q=>ydt _ q) (ydc _) ⟨hz,its,0,hv,ydv _ rfl⟩
theorem Inv.fresh (I:Inv X pins σ H s):H s.heap.objs.size=none:=I.hok.fresh (ydc _)
theorem Inv.znl (I:Inv X pins σ H s) (hH:H l=some (.lst xs)):xs.length<=sizeLine/\∃ (its:List Value) (n:Nat),Vals xs its/\xs.length=its.length/\s.heap.get? l=some { cls:=.type "list", data:=.seq its.toArray n }:=by
 obtain ⟨z,its,n,r,e⟩:=I.hok l _ hH
 exact ⟨z,its,n,r,r.length,e⟩
theorem zp3 {n:Nat} (h:n<=sizeLine):Builtin.List.listTooLong n=false:=by
 unfold Builtin.List.listTooLong
 exact decide_eq_false (by ac_rfl)
end
section
variable {X:Cx}
noncomputable def zvG:V->List V->Hp->VK->Prop:=fun x vs H Q=>∃ l xs y,x=.ref l/\vs=[y]/\H l=some (.lst xs)/\xs.length<sizeLine/\Q .non (upd H l (.lst (xs++[y])))
theorem zbY:MtM X "list.append" zvG:=by
 intro pins s σ H x vs v us Q I rx rv h
 obtain ⟨l,xs,y,rfl,rfl,hH,hz,q⟩:=h
 cases rx
 obtain ⟨u,rfl,ru⟩:=rv.one
 obtain ⟨z,its,n,r,hl,e⟩:=I.znl hH
 refine call_meets F.slot_list_append ⟨_,e,rfl⟩ F.entry_list_append (F.args_list_append_2 _ _) (PySem.list_append l its.toArray n u (by rw[yao];ac_rfl)) ⟨e,?_⟩
 refine ⟨.non,_,I.lset (its':=its++[u]) hH e (by simp) (r.append (.cons ru .nil)) ?_,rfl,q⟩
 rw[yad,ybv]
 ac_rfl
noncomputable def zvZ:V->List V->Hp->VK->Prop:=fun x vs H Q=>∃ l b xs zs,x=.ref l/\vs=[.ref b]/\H l=some (.lst xs)/\H b=some (.lst zs)/\xs.length+zs.length<=sizeLine/\Q .non (upd H l (.lst (xs++zs)))
theorem zhz:MtM X "list.extend" zvZ:=by
 intro pins s σ H x vs v us Q I rx rv h
 obtain ⟨l,b,xs,zs,rfl,rfl,hH,hB,hz,q⟩:=h
 cases rx
 obtain ⟨u,rfl,ru⟩:=rv.one
 cases ru
 obtain ⟨z,its,n,r,hl,e⟩:=I.znl hH
 obtain ⟨z2,its2,n2,r2,hl2,e2⟩:=I.znl hB
 have hsz:its.toArray.size+its2.toArray.size<=sizeLine:=by rw[yao,yao];ac_rfl
 have hlong:¬ (!its.toArray.isEmpty && Builtin.List.listTooLong (its.toArray.size+its2.toArray.size))=true:=by
  rw[zp3 hsz,Bool.and_false]
  exact Bool.false_ne_true
 refine call_meets F.slot_list_extend ⟨_,e,rfl⟩ F.entry_list_extend (F.args_list_extend_2 _ _)
  (AutoSeq1.list_extend_list_list_0 l its.toArray n b its2.toArray n2 hlong (by rw[yao];ac_rfl) (by ac_rfl)) ⟨e,e2,?_⟩
 refine ⟨.non,_,I.lset (its':=its++its2) hH e (by simp) (r.append r2) ?_,rfl,q⟩
 rw[yad]
 ac_rfl
def zxG:R2:=fun x y H Q=>∃ l b xs zs,x=.ref l/\y=.ref b/\H l=some (.lst xs)/\H b=some (.lst zs)/\xs.length+zs.length<=sizeLine/\∀ p,H p=none->Q (.ref p) (upd H p (.lst (xs++zs)))
theorem zbf:OpR X (binaryOp .Add) zxG:=by
 intro pins s σ H x y v u Q I rx ry h
 obtain ⟨l,b,xs,zs,rfl,rfl,hH,hB,hz,q⟩:=h
 cases rx
 cases ry
 obtain ⟨z,its,n,r,hl,e⟩:=I.znl hH
 obtain ⟨z2,its2,n2,r2,hl2,e2⟩:=I.znl hB
 refine PySem.P.add_list e e2 ?_ (by rw[yao,yao];ac_rfl)
 have ea:its.toArray++its2.toArray=(its++its2).toArray:=by simp
 rw[ea]
 exact ⟨.ref _,_,I.lnew (t':=s.toks) (r.append r2) (by rw[yad];ac_rfl),rfl,q _ I.fresh⟩
end
section
variable {prog:Program} {w:World} {A:Around} {E:Value->Shared->Prop} {s:Shared}
set_option maxRecDepth 100000 in
end
section
variable {X:Cx}
end
end L2
namespace Att
open PySem PySem.W PySem.Calls PyProof.Rows
theorem zmn {P:Params} {h:Heap}:∀ (ns:List Int) (vs:List Value),WellAll P h vs (ns.map WData.int)->IntsAre vs ns:=by
 intro ns
 induction ns with
 | nil =>
  intro vs w
  rw[List.map_nil] at w
  cases w
  exact .nil
 | cons n ns ih =>
  intro vs w
  rw[ybb] at w
  cases w with
  | cons a b =>
   cases a
   exact .cons _ _ (ih _ b)
theorem ztX {l:OpenLaw} {n:Nat} (hn:l.most=some n) {P:Params} {h:Heap} {args:List WData} {vals:List Value}
  (hpre:l.row.toRowW.claim.pre args=true) (hwl:WellAll P h vals args) :
  ∃ a vs ns,vals=[Value.ref a]/\args=[WData.list (ns.map WData.int)]/\h.get? a=some { cls:=.type "list", data:=.seq vs.toArray }/\IntsAre vs ns/\ns.length<=n:=by
 have hsh:WShape.hasAll [] args [.list .int]=true:=(pre_splitW hpre).1
 have hc:l.pre.holds [] { args:=args }=true:=(pre_splitW hpre).2
 obtain ⟨d,r,rfl,h1,h2⟩:=hasAllW_cons hsh
 obtain rfl:=hasAllW_nil h2
 obtain ⟨xs,rfl,h3⟩:=hasW_list h1
 obtain ⟨ns,rfl⟩:=items_int h3
 have hlen:ns.length<=n:=by
  unfold OpenLaw.pre at hc
  have h4:(WTm.not (.lt (.lit (.int (n:Int))) (.len (.arg 0)))).holds [] { args:=[.list (ns.map .int)] }=true:=by
   have h4:=(holds_andW hc).1
   rw[hn] at h4
   exact h4
  have h5:=condW_of h4 (w_not (w_lt w_lit (w_len_list (w_arg rfl))))
  rw[yab] at h5
  refine Nat.le_of_not_lt fun q=>?_
  have q':(n:Int)<((ns.length:Nat):Int):=by ac_rfl
  first
   | (rw[decide_eq_true q'] at h5;exact absurd h5 (by decide))
   | (simp at h5;ac_rfl)
 cases hwl with
 | cons w1 w2 =>
  cases w2
  cases w1 with
  | list ho hall=>exact ⟨_,_,ns,rfl,rfl,ho,zmn ns _ hall,hlen⟩
theorem zs5 (l:OpenLaw) (args:List WData):l.row.toRowW.claim.post args (.bool true) args=true :=
 postW_of (r:=l.row.toRowW) (X:=(true == true))
  (show WShape.has [] (.bool true) .bool=true by first | rfl | decide | simp[WShape.has,WShape.arms,WShape.armsAll])
  (show (WTm.eq .res (.lit (.bool true))).value [] { args:=args,res:=some (.bool true),after:=args }=some (.bool (true == true)) from w_eq_bool (w_res rfl) w_lit) rfl
theorem zq6 {l:OpenLaw} {n:Nat} {q:Program} {loose:List Str} {XP:(Str->Option Value)->Heap->Prop} {YP:World->Heap->Prop} {d:DefRec}
  (hn:l.most=some n) (hdf:d.params.defaults=[])
  (call:∀ (w:World) (s₀ s₁:Shared) (mg mb:Str->Option Value) (fa:Addr) (o:Obj) (pm cd doc:Value) (a:Addr) (vs:List Value) (ns:List Int),
   Ground q loose [] XP w s₀ mg mb s₁.heap->YP w s₁.heap ->
   s₁.heap.get? fa=some o->o.data=.func (docDef d.name d.params d.body d.scope pm cd doc)->s₁.heap.CodeRec cd d.name->mg d.name=some (.ref fa) ->
   s₁.heap.get? a=some { cls:=.type "list", data:=.seq vs.toArray }->IntsAre vs ns->ns.length<=n->s₁.gens=#[] ->
   codeAny (model l.prog w) callerA (.call (.ref fa) ⟨[.ref a],[]⟩) (fun r s'=>r=.ok (.ret (.bool true))/\OldK s₁.heap s'.heap/\s'.os=s₁.os/\AllBare s'.gens) s₁) :
  WalkO q loose XP YP l.row.toRowW d [] (fun f vs=>PySem.call f vs):=by
 intro w s₀ s₁ mg mb G Y fa o pm cd doc dV kV ho hd hcd hD hmg hg args vals as hpre hlay hrd hwl hlo
 obtain rfl:dV=.none:=Dflts.none hD hdf
 obtain rfl:kV=.none:=Dflts.noKw hD
 obtain ⟨a,vs,ns,rfl,rfl,hobj,hints,hlen⟩:=ztX hn hpre hwl
 refine enter_call (codeAny_mono (call w s₀ s₁ mg mb fa o pm cd doc a vs ns G Y ho (fd_plain hd) hcd hmg hobj hints hlen hg) fun r s' hq=>?_)
 obtain ⟨rfl,h2,h3,h4⟩:=hq
 exact ⟨.inl ⟨.bool true,.bool true,[],rfl,fun _=>rfl,.bool true,zs5 l _,fun _=>⟨List.Pairwise.nil,fun _ hm=>(nomatch hm)⟩⟩,h2,h3,h4⟩
section
variable {prog:Program} {w:World} {A:Around} {E:Value->Shared->Prop} {s:Shared} {K:Frag}
noncomputable def ledger (h:Heap) (L d:Addr):List (Addr × Obj):=(yar h.objs.size).filterMap fun a=>if a=L\/a=d then none else (h.get? a).map fun o=>(a,o)
end
end Att
namespace L2
open PySem PySem.Spec PyProof.Rows
theorem zkN:∀ {vs:List Value} {ns:List Int},IntsAre vs ns->Vals (ns.map V.int) vs
 | _,_,.nil=>.nil
 | _,_,.cons n t h=>.cons ⟨t,rfl⟩ (zkN h)
def Only (H:Hp):Prop:=∀ b,H b=none\/∃ o xs,H b=some (.frz o (.lst xs))
theorem zuk {P:Program} {w:World} {K:W.Frag} {mg mb:Str->Option Value} {CX:CXT} {k:Nat} {fa a:Addr} {fd:FuncData} {x:Str} {sp:Sp} {s₁:Shared} {vs:List Value} {ns:List Int}
  (KX:K.In s₁.heap) (hns:s₁.heap.Ns mainGlobals mg) (hb:s₁.heap.Ns builtinsNs mb) (hbb:∀ x:Str,x ≠ "__name__" -> mb x=bootBuiltins x) (hlim:s₁.heap.NoLimit) (hg:s₁.gens=#[])
  (ha:s₁.heap.get? a=some { cls:=.type "list", data:=.seq vs.toArray }) (hi:IntsAre vs ns) (hl:ns.length<=sizeLine) (hr:Room k callerA)
  (F:∀ base:Heap,K.In base->base.Ns mainGlobals mg->zco P w K mg base CX k fa fd [x] sp) (hbind:∀ (s:Shared) (u:Value),BindsTo s fd ⟨[u],[]⟩ [(x,u)])
  (hsp:∀ H:Hp,Only H->SqL K H a (ns.map V.int)->sp [.ref a] H (fun v _=>v=.bl true) fun _ _ _=>False)
  (hCX:∀ H e s',CX [] H s₁ (fun _ _ _=>False) e s'->False) :
  codeAny (model P w) callerA (.call (.ref fa) ⟨[.ref a],[]⟩) (fun r s'=>r=.ok (.ret (.bool true))/\OldK s₁.heap s'.heap/\s'.os=s₁.os/\AllBare s'.gens) s₁:=by
 have rv:=zkN hi
 have lenV:=hi.length
 have core:∀ H:Hp,Only H->SqL K H a (ns.map V.int)->HOk P w H s₁.heap->(∀ b,H b≠none->b=a)->(H a≠none->K.lookup a=none) ->
   codeAny (model P w) callerA (.call (.ref fa) ⟨[.ref a],[]⟩) (fun r s'=>r=.ok (.ret (.bool true))/\OldK s₁.heap s'.heap/\s'.os=s₁.os/\AllBare s'.gens) s₁:=by
  intro H hO hS hok hA hK
  have base_of:∀ {b:Addr} {o:Obj},s₁.heap.get? b=some o->H b=none->(zi8 s₁.heap H).get? b=some o:=fun e n=>zuO e n
  have noA:∀ {b:Addr} {o:Obj} {es:Array DictEntry} {ep:Nat},s₁.heap.get? b=some o->o.data=.dict es ep->H b=none:=fun {b o es ep} e d=>by
   cases q:H b with
   | none=>rfl
   | some u =>
    have e':b=a:=hA b (by rw[q];simp)
    subst e'
    rw[ha] at e;cases e
    have d':Data.seq vs.toArray _=Data.dict es ep:=d
    cases d'
  have nsK:∀ {b:Addr} {m:Str->Option Value},s₁.heap.Ns b m->(zi8 s₁.heap H).Ns b m:=fun {b m} ⟨o,es,ep,e,d,r⟩=>⟨o,es,ep,base_of e (noA e d),d,r⟩
  have hKb:K.In (zi8 s₁.heap H):=fun b o e=>base_of (KX b o e) (by
   cases q:H b with
   | none=>rfl
   | some u =>
    have e':b=a:=hA b (by rw[q];simp)
    subst e'
    rw[hK (by rw[q];simp)] at e;cases e)
  have hM:Mod K mg (zi8 s₁.heap H):=⟨hKb,nsK hns,⟨mb,nsK hb,hbb⟩,let ⟨mc,h1,h2⟩:=hlim;⟨mc,nsK h1,h2⟩⟩
  have e0:zlE P w K mg (zi8 s₁.heap H) callerA [] s₁ H:=⟨rfl,hM,fun b o e=>zwb e,Nat.le_of_eq (ztf _ _),trivial,fun b hb=>absurd (show b∈([]:List Addr) from hb) (by simp),hok,.of_eq hg⟩
  refine codeAny_mono ((F _ hKb (nsK hns)).run callerA [] s₁ H ⟨[.ref a],[]⟩ [.ref a] [.ref a] _ _ hr e0 (hbind s₁ (.ref a)) (.cons rfl .nil) (hsp H hO hS)) fun r s' h=>?_
  cases r with
  | error e=>exact (hCX H e s' h).elim
  | ok fl =>
   cases fl with
   | next=>exact False.elim h
   | brk=>exact False.elim h
   | cont=>exact False.elim h
   | ret u =>
    obtain ⟨v,H',os,bare,un,hok',r',q⟩:=h
    have q':v=.bl true:=q
    subst q'
    obtain rfl:u=Value.bool true:=r'
    refine ⟨rfl,OldK.of_keep fun b o e=>?_,os,bare⟩
    cases q:H b with
    | none=>exact un.keep b o e q (by intro z;exact absurd (show b∈([]:List Addr) from z) (by simp)) (by simp)
    | some u =>
     rcases hO b with z | ⟨ob,xs,z⟩
     ·rw[q] at z;cases z
     ·have z2:=un.frzs b ob _ z
      obtain ⟨e1,_⟩:=hok b _ z
      obtain ⟨e2,_⟩:=hok' b _ z2
      rw[e] at e1;cases e1
      exact e2
 cases hk:K.lookup a with
 | some o =>
  have e:=KX a o hk
  rw[ha] at e
  cases e
  refine core (fun _=>none) (fun _=>.inl rfl) (.inr ⟨_,vs.toArray,_,hk,rfl,rfl,rfl,by rw[yao,lenV];exact hl,by simpa using rv⟩) (fun b u z=>by have z':(none:Option HO)=some u:=z;cases z') (fun b z=>absurd rfl z) fun z=>absurd rfl z
 | none =>
  refine core (fun b=>if b=a then some (.frz { cls:=.type "list", data:=.seq vs.toArray } (.lst (ns.map V.int))) else none) (fun b=>?_) (.inl (.inr ⟨{ cls:=.type "list", data:=.seq vs.toArray },if_pos rfl⟩)) (fun b u z=>?_) (fun b z=>?_) fun _=>hk
  ·by_cases hb:b=a
   ·exact .inr ⟨_,_,if_pos hb⟩
   ·exact .inl (if_neg hb)
  ·by_cases hb:b=a
   ·have z':=(if_pos hb).symm.trans z
    cases z'
    subst hb
    exact ⟨ha,by rw[yab];exact hl,vs,_,rv,ha⟩
   ·have z':=(if_neg hb).symm.trans z
    cases z'
  ·by_cases hb:b=a
   ·exact hb
   ·exact absurd (if_neg hb) z
theorem zwj {l:PySem.W.OpenLaw} {n k:Nat} {q:Program} {loose:List Str} {XP:(Str->Option Value)->Heap->Prop} {YP:World->Heap->Prop} {d:DefRec} {K:Params->W.Frag} {CX:World->CXT} {sp:World->Sp} {x:Str}
  (hn:l.most=some n) (hn2:n<=sizeLine) (hdf:d.params.defaults=[]) (hr:Room k callerA)
  (hY:∀ (w:World) (h:Heap),YP w h->(K w.params).In h)
  (F:∀ (w:World) (mg:Str->Option Value) (fa:Addr) (h:Heap),(K w.params).In h->h.Ns mainGlobals mg->mg d.name=some (.ref fa) ->
   ∃ fd:FuncData,(∀ (s:Shared) (u:Value),BindsTo s fd ⟨[u],[]⟩ [(x,u)]) /\
    ∀ base:Heap,(K w.params).In base->base.Ns mainGlobals mg->zco l.prog w (K w.params) mg base (CX w) k fa fd [x] (sp w))
  (hsp:∀ (w:World) (H:Hp) (a:Addr) (ns:List Int),ns.length<=n->Only H->SqL (K w.params) H a (ns.map V.int)->sp w [.ref a] H (fun v _=>v=.bl true) fun _ _ _=>False)
  (hCX:∀ (w:World) (H:Hp) (s:Shared) (e:Value) (s':Shared),CX w [] H s (fun _ _ _=>False) e s'->False) :
  PySem.W.WalkO q loose XP YP l.row.toRowW d [] (fun f vs=>PySem.call f vs):=by
 refine Att.zq6 hn hdf fun w s₀ s₁ mg mb fa o pm cd doc a vs ns G Y ho hd hcd hmg hobj hints hlen hg=>?_
 have KX:=hY w _ Y
 obtain ⟨fd,hb,hF⟩:=F w mg fa _ KX G.T.g hmg
 exact zuk KX G.T.g G.T.b G.T.builtins G.T.nolimit hg hobj hints (ydh hlen hn2) hr hF hb (fun H hO hS=>hsp w H a ns hlen hO hS) fun H e s'=>hCX w H s₁ e s'
noncomputable def inClass (s:Stmt) (j:Nat):Stmt:=match s with
 | .ClassDef _ _ _ body _ _ _ _ _ _ _=>body.getD j (.Pass ⟨0,0,0,0⟩)
 | _=>.Pass ⟨0,0,0,0⟩
noncomputable def zcM (s:Stmt):Arguments:=match s with
 | .FunctionDef _ a _ _ _ _ _ _ _ _=>a
 | _=>{ posonlyargs:=[],args:=[],vararg:=none,kwonlyargs:=[],kw_defaults:=[],kwarg:=none,defaults:=[] }
noncomputable def za6 (s:Stmt):List Stmt:=match s with
 | .FunctionDef _ _ b _ _ _ _ _ _ _=>b
 | _=>[]
noncomputable def zi (s:Stmt):Scope:=match s with
 | .FunctionDef _ _ _ _ _ _ sc _ _ _=>sc
 | _=>{ kind:=.function,names:=[],isGenerator:=false,isCoroutine:=false }
noncomputable abbrev CX0:CXT:=fun _ _ _ _ _ _=>False
noncomputable abbrev E0:XK:=fun _ _ _=>False
theorem zhG {X:Cx}:Passes CX0 X E0:=fun _ _ _ _ _ _ _ h=>h.elim
structure Fun (K:W.Frag) (x qual:Str) (st:Stmt) (f:Addr) (fd:FuncData):Prop where
 ex:∃ (oc:Value) (od:Option Addr) (kV doc pm:Value) (an:Option Addr) (cdv ct:Value) (osl:Array (Option Value)),
  fd=PySem.W.fnOf x qual (zcM st) (za6 st) (zi st) .none kV doc pm an cdv ct/\K.lookup f=some ⟨oc,od,.func fd,osl⟩/\PySem.W.codeIn K cdv qual=true
 kp:PySem.W.keepIn K (.ref f)=true
section
variable {P:Program} {w:World} {K:W.Frag} {mg:Str->Option Value} {base:Heap}
theorem Fun.ok {x qual:Str} {st:Stmt} {f:Addr} {fd:FuncData} {N ps:List Str} {k:Nat} {sp:Sp} (F:Fun K x qual st f fd) (S:zj N ps (zi st)) (len:∀ vs H Q E,sp vs H Q E->vs.length=ps.length)
  (hbody:∀ (cdv:Value) (A:Around) (outer:List Env) (s:Shared) (H:Hp) (vs:List V) (Q:VK) (E:XK),Room k (A.deeper (envOfC qual (zi st) s.heap.objs.size f cdv))->sp vs H Q E ->
   ∃ t,PSs (zgU CX0 P w K mg base N qual (zi st) f cdv A outer s H E).nox (za6 st) t/\t { nx:=fun _ H'=>Q .non H',rt:=Q } (start N vs) H):zco P w K mg base CX0 (k+1) f fd ps sp:=by
 obtain ⟨oc,od,kV,doc,pm,an,cdv,ct,osl,rfl,lk,hcd⟩:=F.ex
 refine zxv lk hcd S len fun A outer s H vs Q E hr hsp=>?_
 obtain ⟨t,h,q⟩:=hbody cdv A outer s H vs Q E hr hsp
 exact ⟨t,h.nox,q⟩
theorem zpm {x qual:Str} {st:Stmt} {f:Addr} {oc:Value} {od an:Option Addr} {osl:Array (Option Value)} {kV doc pm cdv ct:Value} (l:K.lookup f=some ⟨oc,od,.func (PySem.W.fnOf x qual (zcM st) (za6 st) (zi st) .none kV doc pm an cdv ct),osl⟩)
  (c:PySem.W.codeIn K cdv qual=true) (k:PySem.W.keepIn K (.ref f)=true):Fun K x qual st f (PySem.W.fnOf x qual (zcM st) (za6 st) (zi st) .none kV doc pm an cdv ct):=⟨⟨oc,od,kV,doc,pm,an,cdv,ct,osl,rfl,l,c⟩,k⟩
end
section
variable {X:Cx}
theorem pv (i:Nat) {x:Str} {pos:Pos} (hN:X.N[i]?=some x:=by rfl) (hv:Vis X.env.scope x:=by first | exact Or.inl rfl | exact Or.inr (Or.inl rfl) | exact Or.inr (Or.inr rfl)) (hd:(x == ("__debug__" : Str))=false:=by decide)
  (hcd:(x == ("__classdict__" : Str))=false:=by decide):PE X (.Name x pos) (zwH i):=zwF hN hv hd hcd
end
theorem zww {A B:Prop} (h:B):if false=true then A else B:=by
 rw[if_neg Bool.false_ne_true]
 exact h
theorem zxS {A B:Prop} (h:A):if true=true then A else B:=by
 rw[if_pos rfl]
 exact h
def Same (H H':Hp):Prop:=∀ b o,H b=some o->H' b=some o
theorem Same.refl (H:Hp):Same H H:=fun _ _ h=>h
theorem Same.trans {H H1 H2:Hp} (a:Same H H1) (b:Same H1 H2):Same H H2:=fun c o h=>b c o (a c o h)
theorem Same.seq {K:W.Frag} {H H':Hp} {a:Addr} {xs:List V} (e:Same H H') (h:SqL K H a xs):SqL K H' a xs:=by
 rcases h with (h | ⟨o,h⟩) | h
 ·exact .inl (.inl (e _ _ h))
 ·exact .inl (.inr ⟨o,e _ _ h⟩)
 ·exact .inr h
theorem zas.swap {P:Program} {w:World} {H H':Hp} {h h':Heap} {a:Addr} {o:HO} (x:zas P w H h a o) (y:zas P w H' h' a o):zas P w H h' a o:=by
 induction o with
 | ins C dx fs=>exact ⟨x.1,y.2⟩
 | frz ob u ih=>exact ⟨y.1,ih x.2 y.2⟩
 | _=>exact y
theorem HOk.forget {P:Program} {w:World} {H H':Hp} {h h':Heap} (a:HOk P w H h) (b:HOk P w H' h') (s:Same H H'):HOk P w H h':=fun x o e=>(a x o e).swap (b x o (s x o e))
theorem Un.forget {fs ex:List Addr} {H H':Hp} {h h':Heap} (u:Un fs ex H H' h h'):Un fs ex H H h h' :=
 ⟨u.keep,u.slot,fun _ _ _ n _=>n,u.there,fun _ _ q=>q,fun _ _ _ q=>q,fun b ps q=>⟨#[],by rw[q];simp⟩⟩
theorem zco.forget {P:Program} {w:World} {K:W.Frag} {mg:Str->Option Value} {base:Heap} {CX:CXT} {k:Nat} {f:Addr} {fd:FuncData} {ps:List Str} {sp sp':Sp} (F:zco P w K mg base CX k f fd ps sp)
  (h:∀ vs H Q E,sp' vs H Q E->sp vs H (fun v H'=>Same H H'/\Q v H) E):zco P w K mg base CX k f fd ps sp' where
 len:=fun vs H Q E q=>F.len _ _ _ _ (h _ _ _ _ q)
 run:=fun A outer s H args us vs Q E hr e0 hb hv hs=>by
  refine codeAny_mono (F.run A outer s H args us vs _ E hr e0 hb hv (h _ _ _ _ hs)) fun r s' q=>?_
  cases r with
  | error e=>exact q
  | ok fl =>
   cases fl with
   | ret u =>
    obtain ⟨v,H',os,bare,un,hok,rv,sm,qv⟩:=q
    exact ⟨v,H,os,bare,un.forget,e0.hok.forget hok sm,rv,qv⟩
   | next=>exact q
   | brk=>exact q
   | cont=>exact q
structure Src (K:W.Frag) (mg:Str->Option Value) (x:Str) (st:Stmt) (ps:List Str):Prop where
 ex:∃ (f:Addr) (fd:FuncData),Fun K x x st f fd/\mg x=some (.ref f)/\∀ us:List Value,us.length=ps.length->bindArgs fd ⟨us,[]⟩=pure (ps.zip us)
structure Def (P:Program) (w:World) (K:W.Frag) (mg:Str->Option Value) (base:Heap) (k:Nat) (x:Str) (ps:List Str) (sp:Sp):Prop where
 ex:∃ (f:Addr) (fd:FuncData),zco P w K mg base CX0 k f fd ps sp/\mg x=some (.ref f)/\PySem.W.keepIn K (.ref f)=true/\(∀ us:List Value,us.length=ps.length->bindArgs fd ⟨us,[]⟩=pure (ps.zip us)) /\
  ∃ o,K.lookup f=some o/\o.data=.func fd
section
variable {P:Program} {w:World} {K:W.Frag} {mg:Str->Option Value} {base:Heap} {x:Str} {st:Stmt} {N ps:List Str} {k:Nat} {sp:Sp}
theorem Src.ok (S:Src K mg x st ps) (sc:zj N ps (zi st)) (len:∀ vs H Q E,sp vs H Q E->vs.length=ps.length)
  (hbody:∀ (f:Addr) (cdv:Value) (A:Around) (outer:List Env) (s:Shared) (H:Hp) (vs:List V) (Q:VK) (E:XK),Room k (A.deeper (envOfC x (zi st) s.heap.objs.size f cdv))->sp vs H Q E ->
   ∃ t,PSs (zgU CX0 P w K mg base N x (zi st) f cdv A outer s H E).nox (za6 st) t/\t { nx:=fun _ H'=>Q .non H',rt:=Q } (start N vs) H):Def P w K mg base (k+1) x ps sp:=by
 obtain ⟨f,fd,F,hm,hb⟩:=S.ex
 refine ⟨f,fd,F.ok sc len (fun cdv=>hbody f cdv),hm,F.kp,hb,?_⟩
 obtain ⟨oc,od,kV,doc,pm,an,cdv,ct,osl,e,lk,hcd⟩:=F.ex
 exact ⟨_,lk,rfl⟩
theorem Src.okF (S:Src K mg x st ps) (sc:zj N ps (zi st)) (len:∀ vs H Q E,sp vs H Q E->vs.length=ps.length)
  (hbody:∀ (f:Addr) (cdv:Value) (A:Around) (outer:List Env) (s:Shared) (H:Hp) (vs:List V) (Q:VK) (E:XK),Room k (A.deeper (envOfC x (zi st) s.heap.objs.size f cdv))->sp vs H Q E ->
   ∃ t,PSs (zgU CX0 P w K mg base N x (zi st) f cdv A outer s H E).nox (za6 st) t/\t { nx:=fun _ H'=>Same H H'/\Q .non H,rt:=fun v H'=>Same H H'/\Q v H } (start N vs) H):Def P w K mg base (k+1) x ps sp:=by
 obtain ⟨f,fd,F,hm,hb⟩:=S.ex
 have G:zco P w K mg base CX0 (k+1) f fd ps (fun vs H R E=>∃ Q,sp vs H Q E/\R=fun v H'=>Same H H'/\Q v H) :=
  F.ok sc (fun vs H R E ⟨Q,h,_⟩=>len vs H Q E h) fun cdv A outer s H vs R E hr ⟨Q,h,e⟩=>by
   subst e
   exact hbody f cdv A outer s H vs Q E hr h
 refine ⟨f,fd,G.forget fun vs H Q E h=>⟨Q,h,rfl⟩,hm,F.kp,hb,?_⟩
 obtain ⟨oc,od,kV,doc,pm,an,cdv,ct,osl,e,lk,hcd⟩:=F.ex
 exact ⟨_,lk,rfl⟩
theorem zG {h:Heap} {f:Addr} {oc:Value} {od an:Option Addr} {osl:Array (Option Value)} {kV doc pm cdv ct:Value} (X:K.In h) (G:h.Ns mainGlobals mg) (a:PySem.W.nsIn K mainGlobals x=some (some (.ref f)))
  (l:K.lookup f=some ⟨oc,od,.func (PySem.W.fnOf x x (zcM st) (za6 st) (zi st) .none kV doc pm an cdv ct),osl⟩) (c:PySem.W.codeIn K cdv x=true) (k:PySem.W.keepIn K (.ref f)=true)
  (hb:∀ us:List Value,us.length=ps.length->bindArgs (PySem.W.fnOf x x (zcM st) (za6 st) (zi st) .none kV doc pm an cdv ct) ⟨us,[]⟩=pure (ps.zip us)):Src K mg x st ps :=
 ⟨f,_,zpm l c k,PySem.W.mg_of X G a,hb⟩
theorem zeG {h:Heap} {i:Int} {t:Tok} (X:K.In h) (G:h.Ns mainGlobals mg) (a:PySem.W.nsIn K mainGlobals x=some (some (.int i t))):∃ t,mg x=some (.int i t):=⟨t,PySem.W.mg_of X G a⟩
theorem zvE {h:Heap} {p:Addr} {od:Option Addr} {its:Array Value} {n:Nat} {sl:Array (Option Value)} {xs:List V} (X:K.In h) (G:h.Ns mainGlobals mg) (a:PySem.W.nsIn K mainGlobals x=some (some (.ref p)))
  (l:K.lookup p=some ⟨.type "tuple", od,.seq its n,sl⟩) (r:Vals xs its.toList) (z:its.size<=sizeLine):∃ a,mg x=some (.ref a)/\∀ H,SqT K H a xs :=
 ⟨p,PySem.W.mg_of X G a,fun H=>.inr ⟨_,its,n,l,rfl,rfl,z,r⟩⟩
end
theorem zu4 {l:PySem.W.OpenLaw} {lv:Nat} {q:Program} {loose:List Str} {XP:(Str->Option Value)->Heap->Prop} {YP:World->Heap->Prop} {d:DefRec} {K:Params->W.Frag} {sp:W.Frag->Sp} {x:Str} {st:Stmt}
  (hn:l.most=some 63) (hdf:d.params.defaults=[]) (hnm:d.name = "law") (hr:Room lv callerA)
  (hY:∀ (w:World) (h:Heap),YP w h->(K w.params).In h)
  (F:∀ (w:World) (mg:Str->Option Value) (h:Heap),(K w.params).In h->h.Ns mainGlobals mg ->
   Src (K w.params) mg "law" st [x]/\∀ base:Heap,Def l.prog w (K w.params) mg base lv "law" [x] (sp (K w.params)))
  (hsp:∀ (K:W.Frag) (H:Hp) (a:Addr) (ns:List Int),ns.length<=63->SqL K H a (ns.map V.int)->sp K [.ref a] H (fun v _=>v=.bl true) fun _ _ _=>False) :
  PySem.W.WalkO q loose XP YP l.row.toRowW d [] (fun f vs=>PySem.call f vs):=by
 refine L2.zwj (n:=63) (k:=lv) (x:=x) (CX:=fun _=>CX0) (sp:=fun w=>sp (K w.params)) hn (by decide) hdf hr hY ?_ (fun w H a ns h1 h2 h3=>hsp (K w.params) H a ns h1 h3) fun _ _ _ _ _ z=>z
 intro w mg fa h KX G hmg
 obtain ⟨S,D⟩:=F w mg h KX G
 obtain ⟨f,fd,Fn,hm,hb⟩:=S.ex
 obtain ⟨oc,od,kV,doc,pm,an,cdv,ct,osl,e,lk,hcd⟩:=Fn.ex
 refine ⟨fd,fun s u=>.of_eq (hb [u] rfl),fun base _ _=>?_⟩
 obtain ⟨f',fd',ok,hm',_,_,o,lk',ho⟩:=(D base).ex
 rw[hnm,hm] at hmg
 rw[hm] at hm'
 cases hmg
 cases hm'
 rw[lk] at lk'
 cases lk'
 cases ho
 exact ok
section
variable {X:Cx} {x:Str} {p pos:Pos} {e:Expr} {es:List Expr} {t:TA} {j k:Nat} {ps:List Str} {sp:Sp}
theorem zr (D:Def X.prog X.w X.K X.mg X.base j x ps sp) (hr:Room k X.A) (ha:PA X (e::es) t) (hg:Gl X x:=by rfl) (hj:j<=k:=by decide) (hdb:(x == ("__debug__" : Str))=false:=by decide)
  (he:starEach (e::es) X.env=(false,eval e X.env)::starEach es X.env:=by rfl) (hpl:(backTo pos (starEach es X.env)).any (·.1)=false:=by rfl) :
  PE X (.Call (.Name x p) (e::es) [] pos) (zsG sp [] E0 t):=by
 obtain ⟨f,fd,F,hm,hk,hb,_⟩:=D.ex
 exact zvV F (hr.mono hj) hg hm hk (.all hb) .nil zhG ha hdb he hpl
theorem zbT {i:Int} (h:∃ t,X.mg x=some (.int i t)) (hg:Gl X x:=by rfl) (hd:(x == ("__debug__" : Str))=false:=by decide):PE X (.Name x pos) (tC (.int i)):=by
 obtain ⟨t,h⟩:=h
 exact zgp hg h ⟨t,rfl⟩ hd
def tGT (K:W.Frag) (xs:List V):TE:=fun _ H Q=>∀ a,(∀ H,SqT K H a xs)->Q (.ref a) H
theorem zvA {xs:List V} (h:∃ a,X.mg x=some (.ref a)/\∀ H,SqT X.K H a xs) (hg:Gl X x:=by rfl) (hd:(x == ("__debug__" : Str))=false:=by decide):PE X (.Name x pos) (tGT X.K xs):=by
 obtain ⟨a,h,hs⟩:=h
 intro pins s σ H Q I hq
 exact zgp (v:=.ref a) hg h rfl hd pins s σ H Q I (hq a hs)
theorem zc8:zbC X (.builtin "isinstance") (fun xs H Q=>∃ x t n b,xs=[x,.ty n]/\zdA X.K H x t/\PySem.W.kitOne X.K t (.type n)=some b/\Q (.bl b) H):=by
 intro pins s σ H xs us Q I r h
 obtain ⟨x,t,n,b,rfl,ty,e,q⟩:=h
 obtain ⟨u,w',rfl,rx,rn⟩:=vals2 r
 cases rn
 exact znN I rx ty e fun tk=>⟨.bl b,H,I.tok tk,rfl,q⟩
end
theorem ifI {a b:Int} {A B:Prop} (h1:a=b->A) (h2:¬ a=b->B):if decide (V.int a=V.int b)=true then A else B:=by
 by_cases h:a=b
 ·rw[if_pos (by rw[h];simp)];exact h1 h
 ·rw[if_neg (by simpa using h)];exact h2 h
theorem zxI {a b:Int} {A B:Prop} (h1:¬ a=b->A) (h2:a=b->B):if (!decide (V.int a=V.int b))=true then A else B:=by
 by_cases h:a=b
 ·rw[if_neg (by rw[h];simp)];exact h2 h
 ·rw[if_pos (by simpa using h)];exact h1 h
theorem ifD {p A B:Prop} [Decidable p] (h1:p->A) (h2:¬ p->B):if decide p=true then A else B:=by
 by_cases h:p
 ·rw[if_pos (by simpa using h)];exact h1 h
 ·rw[if_neg (by simpa using h)];exact h2 h
theorem ifB {c:Bool} {A B:Prop} (h1:c=true->A) (h2:c=false->B):if c=true then A else B:=by
 cases c with
 | true=>rw[if_pos rfl];exact h1 rfl
 | false=>rw[if_neg Bool.false_ne_true];exact h2 rfl
theorem dI {a b:Int}:decide (V.int a=V.int b)=decide (a=b):=by
 by_cases h:a=b <;> simp[h]
theorem zrR {ns:List Int} {k:Int} (h0:0<=k) (h:k<(ns.length:Int)):atI (ns.map V.int) k=some (.int (ns.getD k.toNat 0)):=by
 have hk:k.toNat<ns.length:=by ac_rfl
 have q:atI (ns.map V.int) ((k.toNat:Nat):Int)=some (.int (ns.getD k.toNat 0)):=za4 (by rw[yaj,yaa hk,yae,yaa hk] <;> rfl)
 rw[show ((k.toNat:Nat):Int)=k by ac_rfl] at q
 exact q
theorem zwM {K:W.Frag}:PySem.W.kitOne K (.type "int") (.type "int")=some true:=by rfl
theorem zwy {K:W.Frag}:PySem.W.kitOne K (.type "int") (.type "bool")=some false:=by rfl
def zxO (t:TS):TS:=fun D σ H=>∃ Mid:St->Hp->Prop,t { D with nx:=Mid } σ H/\∀ σ' H',Mid σ' H'->D.nx σ' H'
theorem zda {X:Cx} {st:Stmt} {t:TS} (h:PS X st t):PS X st (zxO t):=by
 intro pins s σ H D I ⟨Mid,hq,hm⟩
 refine thn (h pins s σ H _ I hq) fun f s' q=>?_
 cases f with
 | next =>
  obtain ⟨σ',H',I',q⟩:=q
  exact ⟨σ',H',I',hm σ' H' q⟩
 | ret v=>exact q
 | brk=>exact q
 | cont=>exact q
theorem noE {α:Type} {M:Model} {A:Around} {s:Shared} {t:Sem α} {Q:α->Shared->Prop} {E:Value->Shared->Prop} (h:wpAny M A t Q (fun _ _=>False) s):wpAny M A t Q E s:=wpAny_mono h (fun _ _ q=>q) fun _ _ z=>z.elim
section
variable {prog:Program} {w:World} {A:Around} {R:Result->Shared->Prop} {s:Shared}
theorem ztz {elt target iter:Expr} {scope:Scope} {pos:Pos} {it acc:Value} {env:Env} (I:Nat->Shared->Prop)
  (turn:∀ n s,I n s->wpAny (model prog w) A (pyNext it) (fun r s₁=>match r with
   | none=>R (.ok .next) s₁
   | some v=>wpAny (model prog w) A (letOwnedTupleGo target it v) (fun _ s₂=>wpAny (model prog w) A (assign target env v) (fun _ s₃=>wpAny (model prog w) A (eval elt env) (fun y s₄ =>
     wpAny (model prog w) A (call (.builtin "list.append") [acc,y]) (fun _ s₅=>∃ m,m<n/\I m s₅) (fun _ _=>False) s₄) (fun _ _=>False) s₃) (fun _ _=>False) s₂) (fun _ _=>False) s₁) (fun _ _=>False) s)
  (n:Nat) (h:I n s):codeAny (model prog w) A (.compLoop (.ListComp elt [⟨target,iter,[],0⟩] scope pos) 0 it acc env) R s:=by
 refine codeAny_loop rfl I (fun n s hI=>?_) n h
 show wpAny _ _ (Sem.onRaise (compTurn (.ListComp elt [⟨target,iter,[],0⟩] scope pos) 0 it acc env) _) _ _ s
 refine wpAny_noted (noE ?_)
 rw[compTurn_list1]
 refine wpAny_bind (wpAny_standAt (wpAny_bind (wpAny_mono (turn n s hI) (fun r s₁ h₁=>?_) fun _ _ z=>z)))
 cases r with
 | none=>exact wpAny_pure h₁
 | some v =>
  refine wpAny_bind (wpAny_mono h₁ (fun _ s₂ h₂=>?_) fun _ _ z=>z)
  refine wpAny_bind (wpAny_mono h₂ (fun _ s₃ h₃=>?_) fun _ _ z=>z)
  refine wpAny_bind (wpAny_bind (wpAny_mono h₃ (fun y s₄ h₄=>?_) fun _ _ z=>z))
  refine wpAny_bind (wpAny_mono h₄ (fun _ s₅ h₅=>?_) fun _ _ z=>z)
  exact wpAny_pure (wpAny_pure ⟨rfl,h₅⟩)
theorem zqs {elt target iter c:Expr} {scope:Scope} {pos:Pos} {it acc:Value} {env:Env} (I:Nat->Shared->Prop)
  (turn:∀ n s,I n s->wpAny (model prog w) A (pyNext it) (fun r s₁=>match r with
   | none=>R (.ok .next) s₁
   | some v=>wpAny (model prog w) A (letOwnedTupleGo target it v) (fun _ s₂=>wpAny (model prog w) A (assign target env v) (fun _ s₃=>wpAny (model prog w) A (isTrue c env (eval c env)) (fun b s₄ =>
     if b=true then wpAny (model prog w) A (eval elt env) (fun y s₅ =>
      wpAny (model prog w) A (call (.builtin "list.append") [acc,y]) (fun _ s₆=>∃ m,m<n/\I m s₆) (fun _ _=>False) s₅) (fun _ _=>False) s₄
     else ∃ m,m<n/\I m s₄) (fun _ _=>False) s₃) (fun _ _=>False) s₂) (fun _ _=>False) s₁) (fun _ _=>False) s)
  (n:Nat) (h:I n s):codeAny (model prog w) A (.compLoop (.ListComp elt [⟨target,iter,[c],0⟩] scope pos) 0 it acc env) R s:=by
 refine codeAny_loop rfl I (fun n s hI=>?_) n h
 show wpAny _ _ (Sem.onRaise (compTurn (.ListComp elt [⟨target,iter,[c],0⟩] scope pos) 0 it acc env) _) _ _ s
 refine wpAny_noted (noE ?_)
 rw[compTurn_list]
 refine wpAny_bind (wpAny_standAt (wpAny_bind (wpAny_mono (turn n s hI) (fun r s₁ h₁=>?_) fun _ _ z=>z)))
 cases r with
 | none=>exact wpAny_pure h₁
 | some v =>
  refine wpAny_bind (wpAny_mono h₁ (fun _ s₂ h₂=>?_) fun _ _ z=>z)
  refine wpAny_bind (wpAny_mono h₂ (fun _ s₃ h₃=>?_) fun _ _ z=>z)
  simp only[ycc,List.forIn_nil,if_true,bind_assoc,pure_bind]
  refine wpAny_bind (wpAny_mono h₃ (fun b s₄ h₄=>?_) fun _ _ z=>z)
  cases b with
  | true =>
   simp only[if_true] at h₄ ⊢
   refine wpAny_bind (wpAny_mono h₄ (fun y s₅ h₅=>?_) fun _ _ z=>z)
   refine wpAny_bind (wpAny_mono h₅ (fun _ s₆ h₆=>?_) fun _ _ z=>z)
   exact wpAny_pure ⟨rfl,h₆⟩
  | false =>
   simp only[Bool.false_eq_true,if_false] at h₄ ⊢
   exact wpAny_pure ⟨rfl,h₄⟩
end
noncomputable def zd3 (sc:Scope) (env:Env):List (Str × Addr):=(sc.names.filterMap fun p=>if p.2 == .free then (env.cells.lookup p.1).map fun c=>(p.1,c) else none).reverse
structure Blk where
 C:Addr
 s:Shared
 H:Hp
 pn:List (Addr × Obj)
 ex:List Addr
noncomputable def Cx.block (X:Cx) (sc:Scope) (x:Str) (ix:List Nat) (b:Blk):Cx where
 prog:=X.prog
 w:=X.w
 K:=X.K
 mg:=X.mg
 base:=X.base
 A:=X.A
 N:=x::ix.map fun i=>X.N.getD i x
 s₀:=b.s
 H₀:=b.H
 env:=compEnvC sc (zd3 sc X.env) b.C X.env
 outer:=X.stack
 stack:=X.stack
 ex:=b.ex
 fn:=fun _=>false
 calm:=X.calm
 pn:=b.pn
 xe:=fun _ _=>False
noncomputable def capts (σ:St) (ix:List Nat):St:=ix.map fun i=>σ.getD i none
def zvo (X:Cx) (sc:Scope) (x:Str) (i:Nat):Prop :=
 (X.env.kindOf (X.N.getD i x)=some .cell\/X.env.kindOf (X.N.getD i x)=some .free)/\((relabel sc X.env).names.lookup (X.N.getD i x)=some .cell\/(relabel sc X.env).names.lookup (X.N.getD i x)=some .free) /\
  (zd3 sc X.env).lookup (X.N.getD i x)=X.env.cells.lookup (X.N.getD i x)
noncomputable def zkM (X:Cx) (sc:Scope) (x:Str):List Nat->Prop
 | []=>True
 | i::r=>zvo X sc x i/\zkM X sc x r
theorem zkM.get {X:Cx} {sc:Scope} {x:Str}:∀ {ix:List Nat},zkM X sc x ix->∀ i∈ix,zvo X sc x i
 | [],_,_,h=>nomatch h
 | _::_,h,_,hi=>(yal.mp hi).elim (fun e=>e ▸ h.1) fun z=>zkM.get h.2 _ z
noncomputable def zmo (cells:List (Str × Addr)):List (Str × Addr)->Prop
 | []=>True
 | p::r=>cells.lookup p.1=some p.2/\zmo cells r
theorem zmo.get {cells:List (Str × Addr)}:∀ {cl:List (Str × Addr)},zmo cells cl->∀ y c,cl.lookup y=some c->cells.lookup y=some c
 | [],_,_,_,h=>by simp at h
 | p::r,h,y,c,e=>by
  rw[List.lookup_cons] at e
  cases q:y == p.1 with
  | true =>
   rw[q] at e
   have e1:p.2=c:=Option.some.inj e
   rw[eq_of_beq q,<-e1]
   exact h.1
  | false =>
   rw[q] at e
   exact zmo.get h.2 y c e
noncomputable def zmg (cl:List (Str × Addr)):List (Str × NameKind)->Prop
 | []=>True
 | p::r=>(p.2=.cell\/p.2=.free->∃ c,cl.lookup p.1=some c)/\zmg cl r
theorem zmg.get {cl:List (Str × Addr)}:∀ {ns:List (Str × NameKind)},zmg cl ns->∀ p∈ns,p.2=.cell\/p.2=.free->∃ c,cl.lookup p.1=some c
 | [],_,_,h=>nomatch h
 | _::_,h,_,hp=>(yal.mp hp).elim (fun e=>e ▸ h.1) fun z=>zmg.get h.2 _ z
structure zfq (X:Cx) (sc:Scope) (x:Str) (ix:List Nat):Prop where
 clos:closureFor sc X.env=pure (zd3 sc X.env)
 cell:∀ y∈sc.names,y.2≠.cell
 kind:sc.kind=.function
 names:∀ y∈sc.names,y.2=.local->sc.names.lookup y.1=some .local
 var:sc.names.lookup x=some .local
 nd:(x::ix.map fun i=>X.N.getD i x).Nodup
 cap:zkM X sc x ix
 sub:zmo X.env.cells (zd3 sc X.env)
 has:zmg (zd3 sc X.env) (relabel sc X.env).names
section
variable {X:Cx} {pins:List (Addr × Obj)} {σ:St} {H:Hp} {s:Shared} {sc:Scope} {x:Str} {ix:List Nat} {fp:List Addr}
theorem zuK (I:Inv X pins σ H s) (O:zfq X sc x ix) (hf:∀ b∈fp,zcB X pins H b) (hx:∀ b∈fp,∃ o,s.heap.get? b=some o):(X.block sc x ix ⟨s.heap.objs.size,s,H,X.pn++pins,fp⟩).Ok where
 mod:=I.ok.mod
 kind:=O.kind
 glob:=I.ok.glob
 blt:=I.ok.blt
 above:=ydc _
 inj:=fun y z c h1 h2=>I.ok.inj y z c (O.sub.get y c h1) (O.sub.get z c h2)
 has:=fun y h=>by
  have h':(relabel sc X.env).names.lookup y=some .cell\/(relabel sc X.env).names.lookup y=some .free:=h
  rcases h' with h' | h'
  ·exact O.has.get _ (PySem.mem_of_lookup h') (.inl rfl)
  ·exact O.has.get _ (PySem.mem_of_lookup h') (.inr rfl)
 cab:=fun _ _ h=>absurd (show false=true from h) Bool.false_ne_true
 hd:=I.ok.hd
 frames:=I.ok.frames
 stk:=.inl rfl
 exf:=fun b hb=>by
  obtain ⟨o,e⟩:=hx b hb
  exact ⟨ydd (ydu e),fun y c h=>(hf b hb).2.2.2.2.1 y c (O.sub.get y c h)⟩
 bs:=I.bs
 bsz:=ydh I.ok.bsz I.sz
 noex:=fun b o e hb=>by
  rcases (hf b hb).2.2.2.1 with z | z
  ·exact I.ok.noex b o e z
  ·exact absurd (ydg (ydu e) (ydh I.ok.bsz z)) (ydj _)
 exfs:=fun b hb z=>(yal.mp (I.ziu b z)).elim (hf b hb).2.1 (hf b hb).2.2.1
 funs:=I.stack
 frf:=I.zrw
theorem znF {h₁:Heap} {m:Str->Option Value} {tk:Nat} (I:Inv X pins σ H s) (O:zfq X sc x ix) (hf:∀ b∈fp,zcB X pins H b) (hx:∀ b∈fp,∃ o,s.heap.get? b=some o)
  (hn:h₁.Ns s.heap.objs.size m) (keep:∀ b o,s.heap.get? b=some o->h₁.get? b=some o) :
  Inv (X.block sc x ix ⟨s.heap.objs.size,s,H,X.pn++pins,fp⟩) [] (none::capts σ ix) H { s with heap:=h₁,toks:=tk }:=by
 refine ⟨zuK I O hf hx,rfl,I.bare,Un.kept keep,⟨m,hn,fun i y v e1 e2 _=>?_⟩,fun y c h=>?_,I.hok.fresh (ydc _),fun y c h=>I.freeC y c (O.sub.get y c h),fun p hp=>?_,I.hok.kept keep,?_⟩
 ·cases i with
  | zero=>cases e2
  | succ j =>
   have e1':(ix.map fun i=>X.N.getD i x)[j]?=some y:=e1
   have e2':(capts σ ix)[j]?=some (some v):=e2
   unfold capts at e2'
   rw[yaj] at e1' e2'
   cases q:ix[j]? with
   | none=>rw[q] at e1';cases e1'
   | some i =>
    rw[q] at e1' e2'
    have e3:X.N.getD i x=y:=Option.some.inj e1'
    have e4:σ.getD i none=some v:=Option.some.inj e2'
    obtain ⟨c1,c2,c3⟩:=O.cap.get i (yah q)
    rw[e3] at c1 c2 c3
    have e5:σ[i]?=some (some v):=by
     rw[yae] at e4
     cases z:σ[i]? with
     | none=>rw[z] at e4;cases e4
     | some a=>rw[z] at e4;exact congrArg some e4
    have hl:i<X.N.length:=by
     rw[<-I.len]
     exact (yac.mp e5).1
    have e6:X.N[i]?=some y:=by
     rw[yae,yaa hl] at e3
     rw[yaa hl]
     exact congrArg some e3
    obtain ⟨m0,_,l0⟩:=I.loc
    have vis:Vis X.env.scope y:=by
     rcases c1 with z | z
     ·exact .inr (.inl z)
     ·exact .inr (.inr z)
    obtain ⟨u,ru,lu⟩:=l0 i y v e6 e5 vis
    refine ⟨u,ru,?_⟩
    rcases lu with ⟨k,_⟩ | ⟨_,c,hc,o,ho,hd⟩
    ·rcases c1 with z | z
     ·rw[z] at k;cases k
     ·rw[z] at k;cases k
    ·exact .inr ⟨c2,c,c3.trans hc,o,keep c o ho,hd⟩
 ·obtain ⟨v,o,ho,hd⟩:=I.cell y c (O.sub.get y c h)
  exact ⟨v,o,keep c o ho,hd⟩
 ·have hp':p∈X.pn++pins:=by
   rcases yag.mp hp with z | z
   ·exact z
   ·cases z
  obtain ⟨e,n,ne,nf,d⟩:=I.pin p hp'
  exact ⟨keep _ _ e,n,ydd (ydu e),fun z=>(yal.mp (I.ziu _ z)).elim ne nf,d⟩
 ·show (none::capts σ ix).length=(x::ix.map fun i=>X.N.getD i x).length
  simp[capts]
theorem zms {pins':List (Addr × Obj)} {σ':St} {H':Hp} {s':Shared} (I:Inv X pins σ H s) (hf:∀ b∈fp,zcB X pins H b) (J:Inv (X.block sc x ix ⟨s.heap.objs.size,s,H,X.pn++pins,fp⟩) pins' σ' H' s'):Inv X pins σ H' s' :=
 I.call' J.os J.base J.hok J.bare fun b hb=>⟨(hf b hb).2.2.2.1,(hf b hb).2.1,(hf b hb).2.2.2.2.1,(hf b hb).2.2.2.2.2⟩
theorem Inv.addpin {b:Addr} {o:Obj} (I:Inv X pins σ H s) (e:s.heap.get? b=some o) (hn:H b=none) (hL:b≠X.env.locals) (hf:b ∉ X.fs) (hd:∀ v,o.data≠.cell v):Inv X (pins++[(b,o)]) σ H s :=
 I.zmY fun p hp=>(yag.mp hp).elim (fun z=>I.pin p (yai _ z)) fun z=>by
  have e':p=(b,o):=by simpa using z
  subst e'
  exact ⟨e,hn,hL,hf,hd⟩
end
def Turns (ix:List Nat) (te:TE) (σ:St) (J:It) (l:Addr) (R:Hp->Prop) (W:Nat->Nat->List V->Hp->Prop):Prop :=
 ∀ i m xs H',W i m xs H'->H' l=some (.lst xs)/\((J.stop i H'/\R H')\/(J.go i H'/\xs.length<sizeLine/\∀ x H2,J.yld i H' x H2 ->
  te (some x::capts σ ix) H2 fun v H3=>H3 l=some (.lst xs)/\∃ m',m'<m/\W (i+1) m' (xs++[v]) (upd H3 l (.lst (xs++[v])))))
def zve (ix:List Nat) (wi:TI) (te:TE):TE:=fun σ H Q=>wi σ H fun J H1=>∀ l,H1 l=none->∃ W:Nat->Nat->List V->Hp->Prop,(∃ m,W 0 m [] (upd H1 l (.lst [])))/\Turns ix te σ J l (Q (.ref l)) W
section
variable {X:Cx} {pins:List (Addr × Obj)} {σ:St} {H:Hp} {s:Shared} {sc:Scope} {x:Str} {ix:List Nat} {fp:List Addr} {elt iter:Expr} {te:TE} {wi:TI} {px pos:Pos}
theorem znS {it:Addr} {tn:Nat->Heap->Prop} {J:It} {use:Option (Value->Sem Unit)} {Q:Value->Shared->Prop} {E:Value->Shared->Prop} (O:zfq X sc x ix) (hel:∀ b,PE (X.block sc x ix b) elt te) (hc:X.calm=true)
  (I:Inv X pins σ H s) (T:Turn X.prog X.w X.K (.Name x px) J fp it tn) (st:tn 0 s.heap) (hf:∀ b∈fp,zcB X pins H b) (R:Addr->Hp->Prop)
  (h:∀ l,H l=none->∃ W:Nat->Nat->List V->Hp->Prop,(∃ m,W 0 m [] (upd H l (.lst [])))/\Turns ix te σ J l (R l) W)
  (fin:∀ l C m s' H',Inv X pins σ H' s'->s'.heap.Ns C m->zcB X pins H' C->R l H'->compPost (model X.prog X.w) X.A E use Q (.ref l) C (.ok .next) s') :
  wpAny (model X.prog X.w) X.A (newList []) (fun acc s₃=>wpAny (model X.prog X.w) X.A (newFunctionEnv sc X.env.globals (zd3 sc X.env) [] X.env.qual none .none (some X.env)) (fun cenv s₄ =>
   codeAny (model X.prog X.w) X.A (.compStart (.ListComp elt [⟨.Name x px,iter,[],0⟩] sc pos) 0 (.ref it) acc { cenv with scope:=relabel sc X.env }) (compPost (model X.prog X.w) X.A E use Q acc cenv.locals) s₄) E s₃) E s:=by
 refine wpAny_newObj_type (wpAny_newFunctionEnv O.cell (by intro y hy;simp at hy) (fun h₁ hns hsb=>?_) O.kind)
 dsimp only at hns hsb ⊢
 have hl0:H s.heap.objs.size=none:=I.hok.fresh (ydc _)
 obtain ⟨W,⟨m0,w0⟩,tr⟩:=h s.heap.objs.size hl0
 have I3:Inv X pins σ (upd H s.heap.objs.size (.lst [])) { s with heap:=s.heap.push { cls:=.type "list", dict:=none,data:=.seq ([]:List Value).toArray } } :=
  I.laid (t':=s.toks) (fun b o e=>ydt _ e) (ydc _) ⟨ydf _,[],0,.nil,ydv _ rfl⟩
 have ofp:∀ b∈fp,∃ o,s.heap.get? b=some o:=fun b hb=>by
  obtain ⟨o,e,_⟩:=T.obj 0 _ st b hb
  exact ⟨o,e⟩
 generalize e3:s.heap.push { cls:=.type "list", dict:=none,data:=.seq ([]:List Value).toArray }=G at I3 hns hsb ⊢
 have ofp3:∀ b∈fp,∃ o,G.get? b=some o:=fun b hb=>by
  obtain ⟨o,e⟩:=ofp b hb
  exact ⟨o,by rw[<-e3];exact ydt _ e⟩
 have nl:∀ b∈fp,b≠s.heap.objs.size:=fun b hb=>by
  obtain ⟨o,e⟩:=ofp b hb
  exact ydd (ydu e)
 have hf3:∀ b∈fp,zcB X pins (upd H s.heap.objs.size (.lst [])) b:=fun b hb=>⟨by rw[zx (nl b hb)];exact (hf b hb).1,(hf b hb).2⟩
 have keep3:∀ b o,G.get? b=some o->h₁.get? b=some o:=fun b o e=>hsb.extBut b o (ydd (ydu e)) (ydt _ e)
 have stk:tn 0 h₁:=T.keep _ _ _ st fun b hb o e=>keep3 b o (by rw[<-e3];exact ydt _ e)
 have J0:=znF (tk:=s.toks+([]:List (Str × Value)).length) I3 O hf3 ofp3 hns keep3
 have stat:∀ {H':Hp},(∀ b∈fp,H' b=none)->∀ b∈fp,zcB (X.block sc x ix ⟨G.objs.size,{ s with heap:=G },upd H s.heap.objs.size (.lst []),X.pn++pins,fp⟩) [] H' b:=fun hn b hb=>by
  obtain ⟨o,e⟩:=ofp3 b hb
  refine ⟨hn b hb,ydd (ydu e),fun z=>(yal.mp (I3.ziu _ z)).elim (hf b hb).2.1 (hf b hb).2.2.1,.inl hb,fun y c q=>(hf b hb).2.2.2.2.1 y c (O.sub.get y c q),fun p hp=>?_⟩
  have hp':p∈X.pn++pins:=by
   rcases yag.mp hp with z | z
   ·exact z
   ·cases z
  exact (hf b hb).2.2.2.2.2 p hp'
 have loop:∀ s4:Shared,s4={ s with heap:=h₁,toks:=s.toks+([]:List (Str × Value)).length } ->
   codeAny (model X.prog X.w) X.A (.compLoop (.ListComp elt [⟨.Name x px,iter,[],0⟩] sc pos) 0 (.ref it) (.ref s.heap.objs.size) (compEnvC sc (zd3 sc X.env) G.objs.size X.env))
    (compPost (model X.prog X.w) X.A E use Q (.ref s.heap.objs.size) G.objs.size) s4:=by
  rintro s4 rfl
  refine ztz (fun n s'=>∃ i xs H' z,Inv (X.block sc x ix ⟨G.objs.size,{ s with heap:=G },upd H s.heap.objs.size (.lst []),X.pn++pins,fp⟩) [] (z::capts σ ix) H' s'/\tn i s'.heap/\(∀ b∈fp,H' b=none)/\W i n xs H') ?_ m0
   ⟨0,[],_,none,J0,stk,fun b hb=>(hf3 b hb).1,w0⟩
  rintro n s5 ⟨i,xs,H5,z,I5,st5,fr5,w5⟩
  obtain ⟨hl5,h5⟩:=tr i n xs H5 w5
  rcases h5 with ⟨stop,r5⟩ | ⟨go,hz,step⟩
  ·refine thn (T.done (X.block sc x ix ⟨G.objs.size,{ s with heap:=G },upd H s.heap.objs.size (.lst []),X.pn++pins,fp⟩) rfl rfl rfl hc i [] s5 _ H5 _ I5 (stat fr5) st5 stop) fun r s6 ⟨hr,I6⟩=>?_
   subst hr
   obtain ⟨m6,hn6,_⟩:=I6.loc
   refine fin _ _ m6 s6 H5 (zms I3 hf3 I6) hn6 ?_ r5
   exact I3.zsk (ydc _) I6.free
  ·refine thn (T.item (X.block sc x ix ⟨G.objs.size,{ s with heap:=G },upd H s.heap.objs.size (.lst []),X.pn++pins,fp⟩) rfl rfl rfl hc i [] s5 _ H5 _ I5 (stat fr5) st5 go) fun r s6 ⟨u,hr,h6⟩=>?_
   subst hr
   refine thn h6 fun _ s7 ⟨y,H7,I7,r7,y7,st7,fr7⟩=>?_
   have I7':=I7.pinned (stat fr7) (T.obj _ _ st7)
   have lx:(relabel sc X.env).names.lookup x=some .local:=lookup_relabel_local O.var
   refine thn ((zac (i:=0) O.nd rfl (Or.inl lx) (Or.inr lx):PG (X.block sc x ix ⟨G.objs.size,{ s with heap:=G },upd H s.heap.objs.size (.lst []),X.pn++pins,fp⟩) (.Name x px) (zho 0)) _ s7 _ H7 y u (fun σ' H'=>σ'=some y::capts σ ix/\H'=H7) I7' r7 ⟨rfl,rfl⟩) fun _ s8 ⟨σ8,H8,I8,e8,e8'⟩=>?_
   subst e8 e8'
   refine thn (hel _ _ s8 _ H8 _ I8 (step y H8 y7)) fun v9 s9 ⟨v,H9,I9,r9,hl9,m',hm,w9⟩=>?_
   refine thn (zbY _ s9 _ H9 (.ref s.heap.objs.size) [v] (.ref s.heap.objs.size) [v9] (fun _ H'=>H'=upd H9 s.heap.objs.size (.lst (xs++[v]))) I9 rfl (.cons r9 .nil) ⟨_,xs,v,rfl,rfl,hl9,hz,rfl⟩) fun _ s10 ⟨_,H10,I10,_,e10⟩=>?_
   subst e10
   refine ⟨m',hm,i+1,xs++[v],_,some y,I10.unpinned,T.keep _ _ _ st7 fun b hb o e=>(I10.pin (b,o) (yai _ (yai _ (zcP hb e)))).1,fun b hb=>?_,w9⟩
   obtain ⟨o,e,d⟩:=T.obj _ _ st7 b hb
   exact (I10.pin (b,o) (yai _ (yai _ (zcP hb e)))).2.1
 exact codeAny_compStart_list (loop _ rfl) (T.self _ 0 _ _ _ stk (loop _ rfl))
theorem zbj (O:zfq X sc x ix) (hi:PI X (.Name x px) iter wi) (hel:∀ b,PE (X.block sc x ix b) elt te) (hc:X.calm=true:=by rfl) (hs:∀ v,foldedSetIterable iter X.env v=pure v:=by intro _;rfl) :
  PE X (.ListComp elt [⟨.Name x px,iter,[],0⟩] sc pos) (zve ix wi te):=by
 intro pins s σ H Q I h
 rw[eval_ListComp]
 refine wpAny_comprehension_free (use:=none) rfl hs O.clos O.kind O.names (thn (hi pins s σ H _ I h) fun xv s1 h1=>thn h1 fun itv s2 h2=>?_)
 obtain ⟨it,fp,tn,J,H2,e,I2,T,st2,f2,hq⟩:=h2
 subst e
 refine znS O hel hc I2 T st2 f2 (fun l H'=>Q (.ref l) H') hq ?_
 intro l C m s' H' I' hn hf r
 refine ⟨m,hn,fun h' hb=>⟨.ref l,H',?_,rfl,r⟩⟩
 exact I'.turned (t':=s'.toks) (fun b o hne e=>hb.extBut b o hne e) hf.1 hf.2.1 hf.2.2.2.1 hf.2.2.2.2.1 hf.2.2.2.2.2
theorem zr8 {y:Str} {i:Nat} {py spos:Pos} (hN:X.N.Nodup) (hiy:X.N[i]?=some y) (hy:X.env.scope.names.lookup y=some .local) (O:zfq X sc x ix) (hi:PI X (.Name x px) iter wi) (hel:∀ b,PE (X.block sc x ix b) elt te)
  (hc:X.calm=true:=by rfl) (hs:∀ v,foldedSetIterable iter X.env v=pure v:=by intro _;rfl) (hsw:swapsWith (.ListComp elt [⟨.Name x px,iter,[],0⟩] sc pos) (some (.Name y py)) spos.line X.env=pure true:=by rfl) :
  PS X (.Assign [.Name y py] (.ListComp elt [⟨.Name x px,iter,[],0⟩] sc pos) spos) (zsi (zve ix wi te) (zho i)):=by
 intro pins s σ H D I h
 rw[exec_Assign_Name_used _ _ _ _ hsw]
 refine wpAny_bind (wpAny_standAt (wpAny_bind ?_))
 show wpAny _ X.A (do let _ <-comprehension (.ListComp elt [⟨.Name x px,iter,[],0⟩] sc pos) sc X.env _ (newList []) false (eval iter X.env) (some (assign (.Name y py) X.env))) _ _ s
 refine wpAny_bind (wpAny_mono (wpAny_comprehension_free (use:=some (assign (.Name y py) X.env)) (Q:=fun _ s'=>SP X pins D .next s') rfl hs O.clos O.kind O.names
  (thn (hi pins s σ H _ I h) fun xv s1 h1=>thn h1 fun itv s2 h2=>?_)) (fun _ s' hq=>wpAny_pure (wpAny_pure hq)) fun _ _ e=>e)
 obtain ⟨it,fp,tn,J,H2,e,I2,T,st2,f2,hq⟩:=h2
 subst e
 refine znS O hel hc I2 T st2 f2 (fun l H'=>D.nx (σ.set i (some (.ref l))) H') hq ?_
 intro l C m s' H' I' hn hf r
 obtain ⟨o,es,ep,ho,hd,hr⟩:=id hn
 have Ip:=I'.addpin ho hf.1 hf.2.1 hf.2.2.1 (by intro v z;rw[hd] at z;cases z)
 refine thn ((zac (i:=i) hN hiy (Or.inl hy) (Or.inr hy):PG X (.Name y py) (zho i)) _ s' σ H' (.ref l) (.ref l) (fun σ' H''=>σ'=σ.set i (some (.ref l))/\H''=H') Ip rfl ⟨rfl,rfl⟩) fun _ s'' ⟨σ'',H'',I'',e1,e2⟩=>?_
 subst e1 e2
 have pc:=(I''.pin (C,o) (yai _ (yai _ yam))).1
 refine ⟨m,⟨o,es,ep,pc,hd,hr⟩,fun h' hb=>⟨_,_,?_,r⟩⟩
 exact I''.unpinned.turned (t':=s''.toks) (fun b o hne e=>hb.extBut b o hne e) hf.1 hf.2.1 hf.2.2.2.1 hf.2.2.2.2.1 hf.2.2.2.2.2
end
def zgm (ix:List Nat) (tt:TT) (te:TE) (σ:St) (J:It) (l:Addr) (R:Hp->Prop) (W:Nat->Nat->List V->Hp->Prop):Prop :=
 ∀ i m xs H',W i m xs H'->H' l=some (.lst xs)/\((J.stop i H'/\R H')\/(J.go i H'/\xs.length<sizeLine/\∀ x H2,J.yld i H' x H2 ->
  tt (some x::capts σ ix) H2 fun b H3=>if b=true then te (some x::capts σ ix) H3 fun v H4=>H4 l=some (.lst xs)/\∃ m',m'<m/\W (i+1) m' (xs++[v]) (upd H4 l (.lst (xs++[v]))) else ∃ m',m'<m/\W (i+1) m' xs H3))
def zr6 (ix:List Nat) (wi:TI) (tt:TT) (te:TE):TE:=fun σ H Q=>wi σ H fun J H1=>∀ l,H1 l=none->∃ W:Nat->Nat->List V->Hp->Prop,(∃ m,W 0 m [] (upd H1 l (.lst [])))/\zgm ix tt te σ J l (Q (.ref l)) W
section
variable {X:Cx} {pins:List (Addr × Obj)} {σ:St} {H:Hp} {s:Shared} {sc:Scope} {x:Str} {ix:List Nat} {fp:List Addr} {elt iter c:Expr} {te:TE} {tt:TT} {wi:TI} {px pos:Pos}
theorem zlu {it:Addr} {tn:Nat->Heap->Prop} {J:It} {use:Option (Value->Sem Unit)} {Q:Value->Shared->Prop} {E:Value->Shared->Prop} (O:zfq X sc x ix) (htt:∀ b,PT (X.block sc x ix b) c tt) (hel:∀ b,PE (X.block sc x ix b) elt te) (hc:X.calm=true)
  (I:Inv X pins σ H s) (T:Turn X.prog X.w X.K (.Name x px) J fp it tn) (st:tn 0 s.heap) (hf:∀ b∈fp,zcB X pins H b) (R:Addr->Hp->Prop)
  (h:∀ l,H l=none->∃ W:Nat->Nat->List V->Hp->Prop,(∃ m,W 0 m [] (upd H l (.lst [])))/\zgm ix tt te σ J l (R l) W)
  (fin:∀ l C m s' H',Inv X pins σ H' s'->s'.heap.Ns C m->zcB X pins H' C->R l H'->compPost (model X.prog X.w) X.A E use Q (.ref l) C (.ok .next) s') :
  wpAny (model X.prog X.w) X.A (newList []) (fun acc s₃=>wpAny (model X.prog X.w) X.A (newFunctionEnv sc X.env.globals (zd3 sc X.env) [] X.env.qual none .none (some X.env)) (fun cenv s₄ =>
   codeAny (model X.prog X.w) X.A (.compStart (.ListComp elt [⟨.Name x px,iter,[c],0⟩] sc pos) 0 (.ref it) acc { cenv with scope:=relabel sc X.env }) (compPost (model X.prog X.w) X.A E use Q acc cenv.locals) s₄) E s₃) E s:=by
 refine wpAny_newObj_type (wpAny_newFunctionEnv O.cell (by intro y hy;simp at hy) (fun h₁ hns hsb=>?_) O.kind)
 dsimp only at hns hsb ⊢
 have hl0:H s.heap.objs.size=none:=I.hok.fresh (ydc _)
 obtain ⟨W,⟨m0,w0⟩,tr⟩:=h s.heap.objs.size hl0
 have I3:Inv X pins σ (upd H s.heap.objs.size (.lst [])) { s with heap:=s.heap.push { cls:=.type "list", dict:=none,data:=.seq ([]:List Value).toArray } } :=
  I.laid (t':=s.toks) (fun b o e=>ydt _ e) (ydc _) ⟨ydf _,[],0,.nil,ydv _ rfl⟩
 have ofp:∀ b∈fp,∃ o,s.heap.get? b=some o:=fun b hb=>by
  obtain ⟨o,e,_⟩:=T.obj 0 _ st b hb
  exact ⟨o,e⟩
 generalize e3:s.heap.push { cls:=.type "list", dict:=none,data:=.seq ([]:List Value).toArray }=G at I3 hns hsb ⊢
 have ofp3:∀ b∈fp,∃ o,G.get? b=some o:=fun b hb=>by
  obtain ⟨o,e⟩:=ofp b hb
  exact ⟨o,by rw[<-e3];exact ydt _ e⟩
 have nl:∀ b∈fp,b≠s.heap.objs.size:=fun b hb=>by
  obtain ⟨o,e⟩:=ofp b hb
  exact ydd (ydu e)
 have hf3:∀ b∈fp,zcB X pins (upd H s.heap.objs.size (.lst [])) b:=fun b hb=>⟨by rw[zx (nl b hb)];exact (hf b hb).1,(hf b hb).2⟩
 have keep3:∀ b o,G.get? b=some o->h₁.get? b=some o:=fun b o e=>hsb.extBut b o (ydd (ydu e)) (ydt _ e)
 have stk:tn 0 h₁:=T.keep _ _ _ st fun b hb o e=>keep3 b o (by rw[<-e3];exact ydt _ e)
 have J0:=znF (tk:=s.toks+([]:List (Str × Value)).length) I3 O hf3 ofp3 hns keep3
 have stat:∀ {H':Hp},(∀ b∈fp,H' b=none)->∀ b∈fp,zcB (X.block sc x ix ⟨G.objs.size,{ s with heap:=G },upd H s.heap.objs.size (.lst []),X.pn++pins,fp⟩) [] H' b:=fun hn b hb=>by
  obtain ⟨o,e⟩:=ofp3 b hb
  refine ⟨hn b hb,ydd (ydu e),fun z=>(yal.mp (I3.ziu _ z)).elim (hf b hb).2.1 (hf b hb).2.2.1,.inl hb,fun y c q=>(hf b hb).2.2.2.2.1 y c (O.sub.get y c q),fun p hp=>?_⟩
  have hp':p∈X.pn++pins:=by
   rcases yag.mp hp with z | z
   ·exact z
   ·cases z
  exact (hf b hb).2.2.2.2.2 p hp'
 have loop:∀ s4:Shared,s4={ s with heap:=h₁,toks:=s.toks+([]:List (Str × Value)).length } ->
   codeAny (model X.prog X.w) X.A (.compLoop (.ListComp elt [⟨.Name x px,iter,[c],0⟩] sc pos) 0 (.ref it) (.ref s.heap.objs.size) (compEnvC sc (zd3 sc X.env) G.objs.size X.env))
    (compPost (model X.prog X.w) X.A E use Q (.ref s.heap.objs.size) G.objs.size) s4:=by
  rintro s4 rfl
  refine zqs (fun n s'=>∃ i xs H' z,Inv (X.block sc x ix ⟨G.objs.size,{ s with heap:=G },upd H s.heap.objs.size (.lst []),X.pn++pins,fp⟩) [] (z::capts σ ix) H' s'/\tn i s'.heap/\(∀ b∈fp,H' b=none)/\W i n xs H') ?_ m0
   ⟨0,[],_,none,J0,stk,fun b hb=>(hf3 b hb).1,w0⟩
  rintro n s5 ⟨i,xs,H5,z,I5,st5,fr5,w5⟩
  obtain ⟨hl5,h5⟩:=tr i n xs H5 w5
  rcases h5 with ⟨stop,r5⟩ | ⟨go,hz,step⟩
  ·refine thn (T.done (X.block sc x ix ⟨G.objs.size,{ s with heap:=G },upd H s.heap.objs.size (.lst []),X.pn++pins,fp⟩) rfl rfl rfl hc i [] s5 _ H5 _ I5 (stat fr5) st5 stop) fun r s6 ⟨hr,I6⟩=>?_
   subst hr
   obtain ⟨m6,hn6,_⟩:=I6.loc
   refine fin _ _ m6 s6 H5 (zms I3 hf3 I6) hn6 ?_ r5
   exact I3.zsk (ydc _) I6.free
  ·refine thn (T.item (X.block sc x ix ⟨G.objs.size,{ s with heap:=G },upd H s.heap.objs.size (.lst []),X.pn++pins,fp⟩) rfl rfl rfl hc i [] s5 _ H5 _ I5 (stat fr5) st5 go) fun r s6 ⟨u,hr,h6⟩=>?_
   subst hr
   refine thn h6 fun _ s7 ⟨y,H7,I7,r7,y7,st7,fr7⟩=>?_
   have I7':=I7.pinned (stat fr7) (T.obj _ _ st7)
   have lx:(relabel sc X.env).names.lookup x=some .local:=lookup_relabel_local O.var
   refine thn ((zac (i:=0) O.nd rfl (Or.inl lx) (Or.inr lx):PG (X.block sc x ix ⟨G.objs.size,{ s with heap:=G },upd H s.heap.objs.size (.lst []),X.pn++pins,fp⟩) (.Name x px) (zho 0)) _ s7 _ H7 y u (fun σ' H'=>σ'=some y::capts σ ix/\H'=H7) I7' r7 ⟨rfl,rfl⟩) fun _ s8 ⟨σ8,H8,I8,e8,e8'⟩=>?_
   subst e8 e8'
   refine thn (htt _ _ s8 _ H8 _ I8 (step y H8 y7)) fun b s9 ⟨H9,I9,q9⟩=>?_
   have kp:∀ {σ0:St} {H0:Hp} {s0:Shared},Inv (X.block sc x ix ⟨G.objs.size,{ s with heap:=G },upd H s.heap.objs.size (.lst []),X.pn++pins,fp⟩) ([]++zkD fp s7.heap) σ0 H0 s0->tn (i+1) s0.heap/\∀ b∈fp,H0 b=none:=fun {σ0 H0 s0} I0=>by
    refine ⟨T.keep _ _ _ st7 fun b hb o e=>(I0.pin (b,o) (yai _ (yai _ (zcP hb e)))).1,fun b hb=>?_⟩
    obtain ⟨o,e,d⟩:=T.obj _ _ st7 b hb
    exact (I0.pin (b,o) (yai _ (yai _ (zcP hb e)))).2.1
   cases b with
   | false =>
    rw[if_neg Bool.false_ne_true] at q9 ⊢
    obtain ⟨m',hm,w9⟩:=q9
    exact ⟨m',hm,i+1,xs,_,some y,I9.unpinned,(kp I9).1,(kp I9).2,w9⟩
   | true =>
    rw[if_pos rfl] at q9 ⊢
    refine thn (hel _ _ s9 _ H9 _ I9 q9) fun v9 s10 ⟨v,H10,I10,r10,hl10,m',hm,w10⟩=>?_
    refine thn (zbY _ s10 _ H10 (.ref s.heap.objs.size) [v] (.ref s.heap.objs.size) [v9] (fun _ H'=>H'=upd H10 s.heap.objs.size (.lst (xs++[v]))) I10 rfl (.cons r10 .nil) ⟨_,xs,v,rfl,rfl,hl10,hz,rfl⟩) fun _ s11 ⟨_,H11,I11,_,e11⟩=>?_
    subst e11
    exact ⟨m',hm,i+1,xs++[v],_,some y,I11.unpinned,(kp I11).1,(kp I11).2,w10⟩
 exact codeAny_compStart_list (loop _ rfl) (T.self _ 0 _ _ _ stk (loop _ rfl))
theorem zbZ (O:zfq X sc x ix) (hi:PI X (.Name x px) iter wi) (htt:∀ b,PT (X.block sc x ix b) c tt) (hel:∀ b,PE (X.block sc x ix b) elt te) (hc:X.calm=true:=by rfl) (hs:∀ v,foldedSetIterable iter X.env v=pure v:=by intro _;rfl) :
  PE X (.ListComp elt [⟨.Name x px,iter,[c],0⟩] sc pos) (zr6 ix wi tt te):=by
 intro pins s σ H Q I h
 rw[eval_ListComp]
 refine wpAny_comprehension_free (use:=none) rfl hs O.clos O.kind O.names (thn (hi pins s σ H _ I h) fun xv s1 h1=>thn h1 fun itv s2 h2=>?_)
 obtain ⟨it,fp,tn,J,H2,e,I2,T,st2,f2,hq⟩:=h2
 subst e
 refine zlu O htt hel hc I2 T st2 f2 (fun l H'=>Q (.ref l) H') hq ?_
 intro l C m s' H' I' hn hf r
 refine ⟨m,hn,fun h' hb=>⟨.ref l,H',?_,rfl,r⟩⟩
 exact I'.turned (t':=s'.toks) (fun b o hne e=>hb.extBut b o hne e) hf.1 hf.2.1 hf.2.2.2.1 hf.2.2.2.2.1 hf.2.2.2.2.2
end
theorem zc {H:Hp} {p:Addr} (h:H p=none) (o:HO):Same H (upd H p o):=fun b u q=>by rw[zx (zZ q h)];exact q
section
variable {X:Cx}
theorem zdV:∀ {ns:List Int} {us:List Value},Vals (ns.map V.int) us->IntsAre us ns
 | [],_,.nil=>.nil
 | n::ns,_,.cons ⟨t,e⟩ r=>by
  subst e
  exact .cons n t (zdV r)
theorem ztR (hc:X.calm=true):zbC X (.builtin "sum") (fun xs H Q=>∃ (p:Addr) (ns:List Int),xs=[.ref p]/\SqL X.K H p (ns.map V.int)/\Q (.int ns.sum) H):=by
 intro pins s σ H xs us Q I r h
 obtain ⟨p,ns,rfl,hq,q⟩:=h
 obtain ⟨u,rfl,rx⟩:=vals1 r
 cases rx
 obtain ⟨its,rv,pl,hz⟩:=I.list hq
 obtain ⟨xs,e⟩:=(zdV rv).allInts.items
 rw[e] at pl
 refine sum_intListG (I.ok.hd hc) pl.isList fun h' tk t' k=>⟨.int ns.sum,H,I.kept k,⟨t',?_⟩,q⟩
 have e1:=(zdV rv).numsOf
 rw[preSum_eq,yaw (by simp),<-e1]
 congr 1
 rw[<-nums_intItems,<-e]
end
mutual
inductive RdV (K:W.Frag) (H:Hp):V->PyData->Prop
 | non:RdV K H .non .none
 | bl (b:Bool):RdV K H (.bl b) (.bool b)
 | int (i:Int):RdV K H (.int i) (.int i)
 | str (x:Str):RdV K H (.str x) (.str x)
 | lst {a:Addr} {xs:List V} {ds:List PyData}:SqL K H a xs->zc2 K H xs ds->RdV K H (.ref a) (.list ds)
 | tup {a:Addr} {xs:List V} {ds:List PyData}:SqT K H a xs->zc2 K H xs ds->RdV K H (.ref a) (.tuple ds)
inductive zc2 (K:W.Frag) (H:Hp):List V->List PyData->Prop
 | nil:zc2 K H [] []
 | cons {x:V} {d:PyData} {xs:List V} {ds:List PyData}:RdV K H x d->zc2 K H xs ds->zc2 K H (x::xs) (d::ds)
end
theorem zc2.ints {K:W.Frag} {H:Hp}:∀ ns:List Int,zc2 K H (ns.map V.int) (ns.map PyData.int)
 | []=>.nil
 | n::r=>.cons (.int n) (zc2.ints r)
section
variable {X:Cx} {pins:List (Addr × Obj)} {σ:St} {H:Hp} {s:Shared} {pos:Pos}
mutual
theorem RdV.reads (I:Inv X pins σ H s):∀ {x:V} {d:PyData} {u:Value},RdV X.K H x d->RelV x u->∃ as,Reads s.heap u d as
 | _,_,_,.non,r=>by cases r;exact ⟨_,.none⟩
 | _,_,_,.bl b,r=>by cases r;exact ⟨_,.bool b⟩
 | _,_,_,.int i,r=>by obtain ⟨t,rfl⟩:=r;exact ⟨_,.int i t⟩
 | _,_,_,.str x,r=>by obtain ⟨t,rfl⟩:=r;exact ⟨_,.str x t⟩
 | _,_,_,.lst h hs,r=>by
  cases r
  obtain ⟨its,rv,pl,hz⟩:=I.list h
  obtain ⟨as,q⟩:=zc2.reads I hs rv
  obtain ⟨o,n,e,c,hd,dt⟩:=pl
  exact ⟨_,reads_list_at e c dt (by simpa using q)⟩
 | _,_,_,.tup h hs,r=>by
  cases r
  obtain ⟨its,rv,pl,hz⟩:=I.tuple h
  obtain ⟨as,q⟩:=zc2.reads I hs rv
  obtain ⟨o,e,c,n,dt⟩:=pl
  exact ⟨_,reads_tuple_at e c dt (by simpa using q)⟩
theorem zc2.reads (I:Inv X pins σ H s):∀ {xs:List V} {ds:List PyData} {us:List Value},zc2 X.K H xs ds->Vals xs us->∃ as,ReadsAll s.heap us ds as
 | _,_,_,.nil,.nil=>⟨_,.nil⟩
 | _,_,_,.cons h hs,.cons r rs=>by
  obtain ⟨as,q⟩:=RdV.reads I h r
  obtain ⟨bs,q'⟩:=zc2.reads I hs rs
  exact ⟨_,.cons q q'⟩
end
def zxX (K:W.Frag):R2:=fun x y H Q=>∃ d e,RdV K H x d/\RdV K H y e/\SeqAt.shaped d=true/\SeqAt.shaped e=true/\Q (.bl (PyData.eqv d e)) H
def zx4 (K:W.Frag):R2:=fun x y H Q=>∃ d e,RdV K H x d/\RdV K H y e/\SeqAt.shaped d=true/\SeqAt.shaped e=true/\Q (.bl (!PyData.eqv d e)) H
theorem ztZ (hu:X.A.units+64<cLine):OpR X (compareOp .Eq) (zxX X.K):=by
 intro pins s σ H x y v u Q I rx ry h
 obtain ⟨d,e,hd,he,sd,se,q⟩:=h
 obtain ⟨as,ra⟩:=hd.reads I rx
 obtain ⟨bs,rb⟩:=he.reads I ry
 exact eq_dataH ra rb sd se hu ⟨.bl _,H,I,rfl,q⟩
theorem zw1 (hu:X.A.units+64<cLine):OpR X (compareOp .NotEq) (zx4 X.K):=by
 intro pins s σ H x y v u Q I rx ry h
 obtain ⟨d,e,hd,he,sd,se,q⟩:=h
 obtain ⟨as,ra⟩:=hd.reads I rx
 obtain ⟨bs,rb⟩:=he.reads I ry
 exact ne_dataH ra rb sd se hu ⟨.bl _,H,I,rfl,q⟩
end
noncomputable def kinds:List String:=["NoneType", "bool", "int", "str", "list", "tuple", "dict"]
theorem zvW {K:W.Frag} {T:String} (h:T∈kinds):PySem.W.kitOne K (.type T) (.type "int")=some (decide (T = "int" \/ T = "bool")):=by
 simp only[kinds,yal,ybx,or_false] at h
 rcases h with rfl | rfl | rfl | rfl | rfl | rfl | rfl <;> rfl
theorem zuf {K:W.Frag} {T:String} (h:T∈kinds):PySem.W.kitOne K (.type T) (.type "bool")=some (decide (T = "bool")):=by
 simp only[kinds,yal,ybx,or_false] at h
 rcases h with rfl | rfl | rfl | rfl | rfl | rfl | rfl <;> rfl
def zwv (K:W.Frag) (H:Hp) (x:V) (T:String):Prop:=zdA K H x (.type T)/\T∈kinds
theorem zxx {A B:Prop} (h:B):if (!true)=true then A else B:=zww (A:=A) h
theorem zyf {p A B:Prop} [Decidable p] (h1:¬ p->A) (h2:p->B):if (!decide p)=true then A else B:=by
 by_cases h:p
 ·rw[if_neg (by simpa using h)];exact h2 h
 ·rw[if_pos (by simpa using h)];exact h1 h
theorem zby {X:Cx} {a b v:Int} {j j':Nat} {p p' pos:Pos} (h:a ^ b.toNat=v) (hb:CPow a b):PE X (.BinOp (.Constant (.int a) j p) .Pow (.Constant (.int b) j' p') pos) (tC (.int v)):=by
 intro pins s σ H Q I hq
 exact zh zw0 ze ze pins s σ H Q I ⟨_,_,rfl,rfl,hb,by show Q (V.int (a ^ b.toNat)) H;rw[h];exact hq⟩
theorem zas.get {P:Program} {w:World} {H:Hp} {h:Heap} {a:Addr} {o:HO} (x:zas P w H h a o):∃ u,h.get? a=some u:=by
 cases o with
 | lst xs=>obtain ⟨_,_,_,_,e⟩:=x;exact ⟨_,e⟩
 | tup xs=>obtain ⟨_,_,_,_,e,_⟩:=x;exact ⟨_,e⟩
 | dK kvs=>obtain ⟨_,_,_,_,_,_,_,e,_⟩:=x;exact ⟨_,e⟩
 | set S n=>obtain ⟨_,_,_,_,e,_⟩:=x;exact ⟨_,e⟩
 | ins C dx fs=>obtain ⟨_,_,_,e,_⟩:=x;exact ⟨_,e⟩
 | own y=>exact x
 | xd fs=>obtain ⟨_,⟨_,_,_,e,_⟩,_⟩:=x;exact ⟨_,e⟩
 | rng lo hi=>obtain ⟨_,_,_,e⟩:=x;exact ⟨_,e⟩
 | frz ob u=>obtain ⟨e,_⟩:=x;exact ⟨_,e⟩
 | tbl ps=>exact ⟨_,(show h.get? a=some _ from x)⟩
 | met f y=>exact ⟨_,(show h.get? a=some _ from x)⟩
 | ext φ=>obtain ⟨_,e,_⟩:=x;exact e
theorem HOk.gone {P:Program} {w:World} {H:Hp} {h:Heap} {a:Addr} (x:HOk P w H h) (e:h.get? a=none):H a=none:=by
 cases q:H a with
 | none=>rfl
 | some o =>
  obtain ⟨u,z⟩:=(x a o q).get
  rw[e] at z;cases z
section
variable {X:Cx} {pins:List (Addr × Obj)} {σ:St} {H:Hp} {s:Shared} {h':Heap} {hid:List Addr}
end
section
variable {P:Program} {w:World} {K:W.Frag} {mg:Str->Option Value} {base:Heap} {N:List Str} {qual:Str} {scope:Scope} {f:Addr} {cd:Value} {A:Around} {outer:List Env} {s₀:Shared} {H₀:Hp} {E:XK}
end
section
variable {P:Program} {w:World} {K:W.Frag} {mg:Str->Option Value} {base:Heap} {x:Str} {st:Stmt} {N ps:List Str} {k:Nat} {sp:Sp}
end
section
variable {X:Cx} {x:Str} {p pos:Pos} {e:Expr} {es:List Expr} {t:TA} {j k:Nat} {ps:List Str} {sp:Sp}
end
noncomputable def cA (K:W.Frag) (x:Str):Addr:=match PySem.W.nsIn K mainGlobals x with
 | some (some (.ref C))=>C
 | _=>0
theorem zea {K:W.Frag} {x:Str} {C:Addr} (e:PySem.W.nsIn K mainGlobals x=some (some (.ref C))):cA K x=C:=by unfold cA;rw[e]
section
variable {X:Cx} {x:Str} {np cpos pos:Pos} {e0:Expr} {rest:List Expr} {t:TA} {E:XK}
end
section
open PySem.Builtin PySem.Builtin.ObjectAttr PySem.Builtin.Getset_descriptor
variable {prog:Program} {w:World} {A:Around} {E:Value->Shared->Prop} {s:Shared} {K:W.Frag} {e C:Addr} {oe:Obj}
end
section
variable {K:W.Frag} {e C:Addr}
end
section
variable {X:Cx}
end
section
variable {X:Cx} {pins:List (Addr × Obj)} {σ:St} {H:Hp} {s:Shared} {e:Addr}
theorem Inv.track {o:HO} (I:Inv X pins σ H s) (hn:H e=none) (h0:X.s₀.heap.get? e=none) (hL:e≠X.env.locals) (hC:∀ x c,X.env.cells.lookup x=some c->c≠e) (hp:∀ p∈X.pn++pins,p.1≠e)
  (new:zas X.prog X.w (upd H e o) s.heap e o):Inv X pins σ (upd H e o) s:=by
 refine ⟨I.ok,I.os,I.bare,⟨I.base.keep,I.base.slot,fun b u q n hx=>?_,I.base.there,fun b xs q=>?_,fun b u v q=>?_,fun b ps q=>?_⟩,I.loc,I.cell,?_,fun x c q=>?_,fun p q=>?_,fun b u q=>?_,I.len⟩
 ·rw[zx (fun z=>by rw[z,h0] at q;cases q)]
  exact I.base.free b u q n hx
 ·have z:=I.base.tups b xs q
  rw[zx (zZ z hn)];exact z
 ·have z:=I.base.frzs b u v q
  rw[zx (zZ z hn)];exact z
 ·obtain ⟨more,z⟩:=I.base.tbls b ps q
  exact ⟨more,by rw[zx (zZ z hn)];exact z⟩
 ·rw[zx (Ne.symm hL)];exact I.free
 ·rw[zx (hC x c q)];exact I.freeC x c q
 ·obtain ⟨a,b,c,d,f⟩:=I.pin p q
  exact ⟨a,by rw[zx (hp p q)];exact b,c,d,f⟩
 ·by_cases hb:b=e
  ·subst hb
   rw[zf] at q;cases q
   exact new
  ·rw[zx hb] at q
   exact (I.hok b u q).stay (fun _ _ _ z=>z) (fun c z=>by rw[zx (zZ z hn)];exact z) fun c xs z=>by rw[zx (zZ z hn)];exact z
end
section
variable {K:W.Frag} {h:Heap} {mg:Str->Option Value} {x y:Str} {C D:Addr} {v:Bool} {n:String}
theorem zbq (X:K.In h) (a:PySem.W.nsIn K mainGlobals x=some (some (.ref C))):PySem.W.nsIn K mainGlobals x=some (some (.ref C)):=a
theorem zdw (X:K.In h) (G:h.Ns mainGlobals mg) (a:PySem.W.nsIn K mainGlobals x=some (some (.ref C))):mg x=some (.ref (cA K x)):=by
 rw[zea a];exact PySem.W.mg_of X G a
theorem zmG (a:PySem.W.nsIn K mainGlobals x=some (some (.ref C))) (b:PySem.W.nsIn K mainGlobals y=some (some (.ref D))) (q:PySem.W.kitOne K (.ref C) (.ref D)=some v):PySem.W.kitOne K (.ref (cA K x)) (.ref (cA K y))=some v:=by
 rw[zea a,zea b];exact q
theorem zkS (a:PySem.W.nsIn K mainGlobals x=some (some (.ref C))) (q:PySem.W.kitOne K (.ref C) (.type n)=some v):PySem.W.kitOne K (.ref (cA K x)) (.type n)=some v:=by
 rw[zea a];exact q
end
section
variable {P:Program} {w:World} {K:W.Frag} {mg:Str->Option Value} {base:Heap} {x:Str} {st:Stmt} {N ps:List Str} {k:Nat} {sp:Sp}
end
section
variable {X:Cx} {x:Str} {p pos:Pos} {e:Expr} {es:List Expr} {t:TA} {j k:Nat} {ps:List Str} {sp:Sp}
end
theorem zcf {xs:List V} {k:Int} (h0:0<=k) (h:k<(xs.length:Int)):∃ v,atI xs k=some v/\v∈xs:=by
 have hk:k.toNat<xs.length:=by ac_rfl
 have q:atI xs ((k.toNat:Nat):Int)=some xs[k.toNat]:=za4 (yaa hk)
 rw[show ((k.toNat:Nat):Int)=k by ac_rfl] at q
 exact ⟨_,q,ycj hk⟩
theorem zaf {v:V} {xs:List V} {p:V->Prop} (h:p v) (t:∀ x∈xs,p x):∀ x∈v::xs,p x:=fun x hx=>by
 rcases yal.mp hx with rfl | hx
 ·exact h
 ·exact t x hx
theorem zii {p:V->Prop}:∀ x∈([]:List V),p x:=fun x hx=>by cases hx
theorem zD {H H':Hp} {a:Addr} (s:Same H H') (h:H' a=none):H a=none:=by
 cases q:H a with
 | none=>rfl
 | some o=>rw[s a o q] at h;cases h
theorem zN {H H':Hp} {l:Addr} {o:HO} (s:Same H H') (h:H l=none):Same H (upd H' l o):=fun b u q=>by
 rw[zx (zZ q h)];exact s b u q
theorem zlj:∀ ns:List Int,PyData.canLayAll0 (ns.map PyData.int)=true
 | []=>by simp[PyData.canLayAll0]
 | n::ns=>by simp[PyData.canLayAll0,PyData.canLay0,zlj ns]
theorem zmt:∀ ns:List Int,PyData.depthAll (ns.map PyData.int)=0
 | []=>by simp[PyData.depthAll]
 | n::ns=>by simp[PyData.depthAll,PyData.depth,zmt ns]
theorem shaped_ints (ns:List Int):SeqAt.shaped (.list (ns.map PyData.int))=true:=by
 simp[SeqAt.shaped,PyData.canLay0,PyData.depth,zlj,zmt]
end L2
namespace L2
open PySem PySem.W PyProof.Rows
def zM (t u:TS):TS:=zae t u
theorem zd {X:Cx} {st:Stmt} {rest:List Stmt} {t u:TS} (h1:PS X st t) (h2:PSs X rest u):PSs X (st::rest) (zM t u):=zuG h1 h2
def Mkd (p:Prop):Prop:=p
variable {t1 t2 t3 t4 t5 t6 t7 t8 t9 t10:TS} {D:Ends} {σ:St} {H:Hp}
theorem sqG (h:Mkd (zM t1 t2 D σ H)):zM t1 t2 D σ H:=h
theorem zxU (h:let v1:=t2;zae t1 v1 D σ H):Mkd ((zM t1 t2) D σ H):=h
theorem zyd (h:let v2:=t3;let v1:=zae t2 v2;zae t1 v1 D σ H):Mkd ((zM t1 (zM t2 t3)) D σ H):=h
theorem zx9 (h:let v3:=t4;let v2:=zae t3 v3;let v1:=zae t2 v2;zae t1 v1 D σ H):Mkd ((zM t1 (zM t2 (zM t3 t4))) D σ H):=h
theorem zx8 (h:let v4:=t5;let v3:=zae t4 v4;let v2:=zae t3 v3;let v1:=zae t2 v2;zae t1 v1 D σ H):Mkd ((zM t1 (zM t2 (zM t3 (zM t4 t5)))) D σ H):=h
theorem zx6 (h:let v5:=t6;let v4:=zae t5 v5;let v3:=zae t4 v4;let v2:=zae t3 v3;let v1:=zae t2 v2;zae t1 v1 D σ H):Mkd ((zM t1 (zM t2 (zM t3 (zM t4 (zM t5 t6))))) D σ H):=h
theorem zx5 (h:let v6:=t7;let v5:=zae t6 v6;let v4:=zae t5 v5;let v3:=zae t4 v4;let v2:=zae t3 v3;let v1:=zae t2 v2;zae t1 v1 D σ H):Mkd ((zM t1 (zM t2 (zM t3 (zM t4 (zM t5 (zM t6 t7)))))) D σ H):=h
theorem zxV (h:let v7:=t8;let v6:=zae t7 v7;let v5:=zae t6 v6;let v4:=zae t5 v5;let v3:=zae t4 v4;let v2:=zae t3 v3;let v1:=zae t2 v2;zae t1 v1 D σ H):Mkd ((zM t1 (zM t2 (zM t3 (zM t4 (zM t5 (zM t6 (zM t7 t8))))))) D σ H):=h
theorem zx2 (h:let v8:=t9;let v7:=zae t8 v8;let v6:=zae t7 v7;let v5:=zae t6 v6;let v4:=zae t5 v5;let v3:=zae t4 v4;let v2:=zae t3 v3;let v1:=zae t2 v2;zae t1 v1 D σ H):Mkd ((zM t1 (zM t2 (zM t3 (zM t4 (zM t5 (zM t6 (zM t7 (zM t8 t9)))))))) D σ H):=h
theorem zxl (h:let v9:=t10;let v8:=zae t9 v9;let v7:=zae t8 v8;let v6:=zae t7 v7;let v5:=zae t6 v6;let v4:=zae t5 v5;let v3:=zae t4 v4;let v2:=zae t3 v3;let v1:=zae t2 v2;zae t1 v1 D σ H):Mkd ((zM t1 (zM t2 (zM t3 (zM t4 (zM t5 (zM t6 (zM t7 (zM t8 (zM t9 t10))))))))) D σ H):=h
inductive Ee4 {α0 α1 α2 α3:Type} (p:α0->α1->α2->α3->Prop):Prop | mk (x0:α0) (x1:α1) (x2:α2) (x3:α3) (h:p x0 x1 x2 x3):Ee4 p
inductive Ee5 {α0 α1 α2 α3 α4:Type} (p:α0->α1->α2->α3->α4->Prop):Prop | mk (x0:α0) (x1:α1) (x2:α2) (x3:α3) (x4:α4) (h:p x0 x1 x2 x3 x4):Ee5 p
inductive Ee6 {α0 α1 α2 α3 α4 α5:Type} (p:α0->α1->α2->α3->α4->α5->Prop):Prop | mk (x0:α0) (x1:α1) (x2:α2) (x3:α3) (x4:α4) (x5:α5) (h:p x0 x1 x2 x3 x4 x5):Ee6 p
inductive Ee7 {α0 α1 α2 α3 α4 α5 α6:Type} (p:α0->α1->α2->α3->α4->α5->α6->Prop):Prop | mk (x0:α0) (x1:α1) (x2:α2) (x3:α3) (x4:α4) (x5:α5) (x6:α6) (h:p x0 x1 x2 x3 x4 x5 x6):Ee7 p
inductive Ee8 {α0 α1 α2 α3 α4 α5 α6 α7:Type} (p:α0->α1->α2->α3->α4->α5->α6->α7->Prop):Prop | mk (x0:α0) (x1:α1) (x2:α2) (x3:α3) (x4:α4) (x5:α5) (x6:α6) (x7:α7) (h:p x0 x1 x2 x3 x4 x5 x6 x7):Ee8 p
inductive Ee9 {α0 α1 α2 α3 α4 α5 α6 α7 α8:Type} (p:α0->α1->α2->α3->α4->α5->α6->α7->α8->Prop):Prop | mk (x0:α0) (x1:α1) (x2:α2) (x3:α3) (x4:α4) (x5:α5) (x6:α6) (x7:α7) (x8:α8) (h:p x0 x1 x2 x3 x4 x5 x6 x7 x8):Ee9 p
inductive Aa3 (a0 a1 a2:Prop):Prop | mk (h0:a0) (h1:a1) (h2:a2):Aa3 a0 a1 a2
inductive Aa4 (a0 a1 a2 a3:Prop):Prop | mk (h0:a0) (h1:a1) (h2:a2) (h3:a3):Aa4 a0 a1 a2 a3
inductive Aa5 (a0 a1 a2 a3 a4:Prop):Prop | mk (h0:a0) (h1:a1) (h2:a2) (h3:a3) (h4:a4):Aa5 a0 a1 a2 a3 a4
inductive Aa6 (a0 a1 a2 a3 a4 a5:Prop):Prop | mk (h0:a0) (h1:a1) (h2:a2) (h3:a3) (h4:a4) (h5:a5):Aa6 a0 a1 a2 a3 a4 a5
inductive Aa7 (a0 a1 a2 a3 a4 a5 a6:Prop):Prop | mk (h0:a0) (h1:a1) (h2:a2) (h3:a3) (h4:a4) (h5:a5) (h6:a6):Aa7 a0 a1 a2 a3 a4 a5 a6
inductive Aa8 (a0 a1 a2 a3 a4 a5 a6 a7:Prop):Prop | mk (h0:a0) (h1:a1) (h2:a2) (h3:a3) (h4:a4) (h5:a5) (h6:a6) (h7:a7):Aa8 a0 a1 a2 a3 a4 a5 a6 a7
inductive Aa9 (a0 a1 a2 a3 a4 a5 a6 a7 a8:Prop):Prop | mk (h0:a0) (h1:a1) (h2:a2) (h3:a3) (h4:a4) (h5:a5) (h6:a6) (h7:a7) (h8:a8):Aa9 a0 a1 a2 a3 a4 a5 a6 a7 a8
inductive zud (a0 a1 a2 a3 a4 a5 a6 a7 a8 a9:Prop):Prop | mk (h0:a0) (h1:a1) (h2:a2) (h3:a3) (h4:a4) (h5:a5) (h6:a6) (h7:a7) (h8:a8) (h9:a9):zud a0 a1 a2 a3 a4 a5 a6 a7 a8 a9
end L2
namespace L2
open PySem PySem.Spec PyProof.Rows
section
variable {X:Cx}
end
section
variable {prog:Program} {w:World} {A:Around} {E:Value->Shared->Prop} {s:Shared} {K:W.Frag} {e C f:Addr} {oe:Obj}
end
section
open PySem.Builtin PySem.Builtin.ObjectAttr
variable {prog:Program} {w:World} {A:Around} {E:Value->Shared->Prop} {s:Shared} {K:W.Frag} {e C f dx:Addr} {oe:Obj} {vs:Array Value} {mA:Str->Option Value} {name:Str} {v:Value}
end
section
open PySem.Builtin PySem.Builtin.ObjectAttr
variable {prog:Program} {w:World} {A:Around} {E:Value->Shared->Prop} {s:Shared} {K:W.Frag} {x C f dx:Addr} {o:Obj} {vs:Array Value} {mA:Str->Option Value} {name:Str} {v:Value}
set_option maxHeartbeats 2000000 in
end
section
variable {X:Cx} {pins:List (Addr × Obj)} {σ:St} {H:Hp} {s:Shared} {e:Addr}
theorem Inv.zqt (I:Inv X pins σ H s) (hn:s.heap.get? e=none) (hex:X.ex=[]):X.s₀.heap.get? e=none/\e≠X.env.locals/\(∀ x c,X.env.cells.lookup x=some c->c≠e)/\∀ p∈X.pn++pins,p.1≠e:=by
 refine ⟨?_,fun z=>?_,fun x c q z=>?_,fun p hp z=>?_⟩
 ·cases q:X.s₀.heap.get? e with
  | none=>rfl
  | some o =>
   obtain ⟨o',e1⟩:=I.base.there e o q (by rw[hex];simp)
   rw[hn] at e1;cases e1
 ·obtain ⟨m,⟨o,es,ep,ho,_⟩,_⟩:=I.loc
  rw[<-z,hn] at ho;cases ho
 ·obtain ⟨v,o,ho,hd⟩:=I.cell x c q
  rw[z,hn] at ho;cases ho
 ·have:=(I.pin p hp).1
  rw[z,hn] at this;cases this
theorem Inv.zqk {o:HO} {h':Heap} {t':Nat} (I:Inv X pins σ H s) (k:∀ b u,s.heap.get? b=some u->h'.get? b=some u) (hn:s.heap.get? e=none) (hex:X.ex=[]) (new:zas X.prog X.w (upd H e o) h' e o) :
  Inv X pins σ (upd H e o) { s with heap:=h',toks:=t' } :=
 let ⟨a,b,c,d⟩:=I.zqt hn hex
 (I.kept (t':=t') k).track (I.hok.gone hn) a b c d new
end
section
variable {X:Cx} {x:Str} {np pos:Pos} {e0:Expr} {rest:List Expr} {t:TA}
end
section
variable {X:Cx} {o value:Expr} {name:Str} {pos pos':Pos} {ta tv:TE} {C f:Addr}
end
section
variable {X:Cx} {x:Str} {np pos:Pos} {e0:Expr} {t:TA} {C f:Addr} {fd:FuncData} {ps:List Str} {name:Str} {j k:Nat}
end
section
variable {X:Cx} {o:Expr} {name:Str} {pos:Pos} {ta:TE} {C:Addr}
end
section
variable {K:W.Frag} {h:Heap} {mg:Str->Option Value} {x:Str} {C f D:Addr}
theorem zL {name:Str} (a:PySem.W.nsIn K mainGlobals x=some (some (.ref C))) (q:PySem.W.findIn K (.ref C) name=some none):PySem.W.findIn K (.ref (cA K x)) name=some none:=by rw[zea a];exact q
end
namespace zat
def Up (xs:Array Nat):Prop:=xs.toList.Pairwise (·<·)
theorem zoE {xs:Array Nat} (h:Up xs) {i j:Nat} (hi:i<j) (hj:j<xs.size) (d e:Nat):xs.getD i d<xs.getD j e:=by
 have hi':i<xs.size:=by ac_rfl
 have q:=ybd.mp h i j (by simpa using hi') (by simpa using hj) hi
 simpa [yeq,hi',hj] using q
theorem zm1 {xs:Array Nat} {j:Nat} (h:Up xs):∀ (fuel lo hi:Nat),lo<=hi->hi<=xs.size->hi-lo<=fuel->(∀ i,i<lo->xs.getD i j<j)->(∀ i,hi<=i->i<xs.size->j<=xs.getD i j) ->
  SetTable.below.go xs j fuel lo hi<=xs.size/\(∀ i,i<SetTable.below.go xs j fuel lo hi->xs.getD i j<j)/\∀ i,SetTable.below.go xs j fuel lo hi<=i->i<xs.size->j<=xs.getD i j
 | 0,lo,hi,h1,h2,h3,a,b=>by
  unfold SetTable.below.go
  exact ⟨by ac_rfl,a,fun i p q=>b i (by ac_rfl) q⟩
 | fuel+1,lo,hi,h1,h2,h3,a,b=>by
  unfold SetTable.below.go
  by_cases hl:lo<hi
  ·rw[if_pos hl]
   dsimp only
   by_cases hm:xs.getD ((lo+hi) / 2) j<j
   ·rw[if_pos hm]
    refine zm1 h fuel _ hi (by ac_rfl) h2 (by ac_rfl) (fun i q=>?_) b
    by_cases e:i=(lo+hi) / 2
    ·rw[e];exact hm
    ·exact ydn (zoE h (by ac_rfl) (by ac_rfl) j j) hm
   ·rw[if_neg hm]
    refine zm1 h fuel lo _ (by ac_rfl) (by ac_rfl) (by ac_rfl) a (fun i q r=>?_)
    by_cases e:i=(lo+hi) / 2
    ·rw[e];ac_rfl
    ·have:=zoE h (i:=(lo+hi) / 2) (j:=i) (by ac_rfl) r j j
     ac_rfl
  ·rw[if_neg hl]
   exact ⟨by ac_rfl,a,fun i p q=>b i (by ac_rfl) q⟩
theorem zmq {xs:Array Nat} (h:Up xs) (j:Nat):SetTable.below xs j<=xs.size/\(∀ i,i<SetTable.below xs j->xs.getD i j<j)/\∀ i,SetTable.below xs j<=i->i<xs.size->j<=xs.getD i j:=by
 unfold SetTable.below
 exact zm1 h _ _ _ (ydf _) (ydc _) (by ac_rfl) (fun i q=>by ac_rfl) fun i p q=>by ac_rfl
theorem ztv {xs:Array Nat} {j:Nat} (h:Up xs) (hj:xs[SetTable.below xs j]?≠some j):Up (SetTable.insertAt xs (SetTable.below xs j) j):=by
 obtain ⟨h0,h1,h2⟩:=zmq h j
 generalize SetTable.below xs j=p at *
 unfold Up
 rw[SetTable.toList_insertAt]
 have e:xs.toList=xs.toList.take p++xs.toList.drop p:=(ycu p _).symm
 have hp:(xs.toList.take p++xs.toList.drop p).Pairwise (·<·):=by rw[<-e];exact h
 obtain ⟨a,b,c⟩:=ybq.mp hp
 have lo:∀ x∈xs.toList.take p,x<j:=fun x hx=>by
  obtain ⟨i,hi,rfl⟩:=yaz.mp hx
  rw[yaq,yel] at hi
  have:=h1 i (by ac_rfl)
  rw[List.getElem_take]
  simpa [yeq,show i<xs.size by ac_rfl] using this
 have hi:∀ x∈xs.toList.drop p,j<x:=fun x hx=>by
  obtain ⟨i,hi,rfl⟩:=yaz.mp hx
  rw[ybt,yel] at hi
  have q:=h2 (p+i) (by ac_rfl) (by ac_rfl)
  rw[List.getElem_drop]
  have g:xs.getD (p+i) j=xs.toList[p+i]'(by rw[yel];ac_rfl):=by simp[yeq,show p+i<xs.size by ac_rfl]
  rw[g] at q
  refine Nat.lt_of_le_of_ne q fun z=>?_
  by_cases i0:i=0
  ·subst i0
   apply hj
   rw[yem (by ac_rfl:p<xs.size),z]
   simp
  ·have q0:=h2 p (ydc _) (by ac_rfl)
   have lt:=zoE h (i:=p) (j:=p+i) (by ac_rfl) (by ac_rfl) j j
   rw[g,<-z] at lt
   ac_rfl
 exact ybq.mpr ⟨a,ybr.mpr ⟨hi,b⟩,fun x hx y hy=>by
  rcases yal.mp hy with rfl | hy
  ·exact lo x hx
  ·exact c x hx y hy⟩
structure Tab (bt:Bool) (t:SetTable):Prop where
 led:t.led=!bt
 dum:t.dummies=#[]
 up:t.plain=true->Up t.place
theorem has_none (j:Nat):SetTable.has #[] j=false:=by simp[SetTable.has]
theorem zsr {t:SetTable} (hd:t.dummies=#[]) (j:Nat):t.slot j≠.dummy:=by
 unfold SetTable.slot
 dsimp only
 split
 ·intro z;cases z
 ·rw[hd,has_none];intro z;simp at z
theorem zln {t:SetTable} (hd:t.dummies=#[]) {f:Nat->Int} {h:Int}:∀ (fuel:Nat) (p:SetTable.Probe) {j:Nat} {d:Option Nat},p.dummy=none->SetTable.probe.go t f h fuel p=some (.empty j d)->d=none/\t.slot j=.empty
 | 0,p,j,d,hp,e=>by simp[SetTable.probe.go] at e
 | fuel+1,p,j,d,hp,e=>by
  have adv:∀ q:SetTable.Probe,q.dummy=none->(t.advance q).dummy=none:=fun q hq=>by
   unfold SetTable.advance
   split
   ·exact hq
   ·exact hq
  unfold SetTable.probe.go at e
  cases hs:t.slot p.j with
  | empty =>
   rw[hs] at e
   cases e
   exact ⟨hp,hs⟩
  | dummy=>exact absurd hs (zsr hd _)
  | live i =>
   rw[hs] at e
   dsimp only at e
   split at e
   ·cases e
   ·exact zln hd fuel _ (adv p hp) e
theorem znR {t:SetTable} (hd:t.dummies=#[]) {h:Int} {j:Nat} {b:Bool} (e:t.freeSlot h=some (j,b)):t.place[SetTable.below t.place j]?≠some j:=by
 unfold SetTable.freeSlot at e
 split at e
 ·rename_i j' d' q
  obtain ⟨rfl,hs⟩:=zln hd _ _ rfl (show SetTable.probe.go t _ h _ _=_ from q)
  cases e
  intro z
  have z':t.place[SetTable.below t.place j']?=some j':=z
  unfold SetTable.slot at hs
  dsimp only at hs
  rw[if_pos (by rw[z'];simp)] at hs
  cases hs
 ·cases e
theorem zhr {bt:Bool} {t:SetTable} (T:Tab bt t) (n:Nat):Tab bt (t.standIn n):=⟨T.led,rfl,fun z=>by cases z⟩
theorem zr1 {bt:Bool} {t:SetTable} (T:Tab bt t) {j:Nat} (hj:t.place[SetTable.below t.place j]?≠some j):Tab bt (t.put j).1 :=
 ⟨T.led,by show (if SetTable.has t.dummies j then _ else t.dummies)=#[];rw[T.dum,has_none];rfl,fun z=>ztv (T.up z) hj⟩
theorem zvU {bt:Bool} {t:SetTable} (T:Tab bt t) (es:Array (Int × Value)) (h:Int) (x:Value):Tab bt (layNew t es h x).2.1:=by
 unfold layNew
 split
 ·rename_i j b e
  dsimp only
  unfold SetTable.orStandIn
  split
  ·exact zr1 T (znR T.dum e)
  ·exact zhr (zr1 T (znR T.dum e)) _
 ·exact zhr T _
theorem zrB (owner:Array (Option Nat)) (m:Nat):(((yar m).filterMap fun j=>(owner.getD j none).map (fun k=>(j,k))).map (·.1)).Pairwise (·<·):=by
 have e:(((yar m).filterMap fun j=>(owner.getD j none).map (fun k=>(j,k))).map (·.1))=(yar m).filter fun j=>(owner.getD j none).isSome:=by
  generalize yar m=l
  induction l with
  | nil=>rfl
  | cons a l ih =>
   cases q:owner.getD a none with
   | none=>rw[ybf,q,ycw,q];simpa using ih
   | some k=>rw[ybf,q,ycw,q];simpa using ih
 rw[e]
 exact List.Pairwise.filter _ (List.pairwise_lt_range)
theorem zwX {bt:Bool} {t:SetTable} (T:Tab bt t) (es:Array (Int × Value)) (n:Nat):Tab bt (relayAll t es n).2.1:=by
 unfold relayAll
 split
 ·rename_i t' order e
  dsimp only
  split
  ·unfold SetTable.relaid SetTable.laid at e
   simp only[Option.bind_eq_bind,Option.bind_eq_some_iff] at e
   obtain ⟨owner,_,e⟩:=e
   cases e
   refine ⟨T.led,rfl,fun _=>?_⟩
   unfold Up
   simpa using zrB owner _
  ·exact zhr T _
 ·exact zhr T _
theorem znB (bt:Bool):Tab bt (.fresh 0 0 (!bt)):=⟨rfl,rfl,fun _=>List.Pairwise.nil⟩
end zat
namespace zat
noncomputable def intOf:Value->Int
 | .int i _=>i
 | _=>0
theorem zlQ {k:Int} {v:Value} (h:Value.isInt k v=true):intOf v=k:=by
 obtain ⟨t,rfl⟩:=Value.isInt_shape h
 rfl
structure zaH (prog:Program) (w:World) (h:Heap) (a:Addr) (ms:List Int):Prop where
 ex:∃ o es ep t,(h.get? a=some o/\o.ExactSet/\o.data=.set es ep t)/\(ElemsOf (intKind prog w) es.toList/\es.size<scanBound/\t.fits es.size=true)/\Tab (w.params.followText "set-order") t /\
  es.toList.map (fun e=>intOf e.2)=ms
 nd:ms.Nodup
theorem ziS {prog:Program} {w:World} {l:List (Int × Value)} (hl:ElemsOf (intKind prog w) l) (k:Int):(∃ e∈l,Value.isInt k e.2=true)↔k∈l.map fun e=>intOf e.2:=by
 constructor
 ·rintro ⟨e,he,q⟩
  exact yaf.mpr ⟨e,he,zlQ q⟩
 ·intro q
  obtain ⟨e,he,rfl⟩:=yaf.mp q
  obtain ⟨⟨k',hk,_⟩,_⟩:=hl e he
  refine ⟨e,he,?_⟩
  rw[zlQ hk];exact hk
section
variable {prog:Program} {w:World} {A:Around} {E:Value->Shared->Prop} {s:Shared} {a:Addr} {ms:List Int} {k:Int} {tk:Tok}
theorem xadd {Q:Bool->Shared->Prop} (S:zaH prog w s.heap a ms) (room:ms.length+1<scanBound)
  (hQ:∀ b h' ms',Heap.SameBut a s.heap h'->zaH prog w h' a ms'->(∀ m,m∈ms'↔m∈ms\/m=k)->ms'.length<=ms.length+1->Q b { s with heap:=h' }) :
  wpAny (model prog w) A (setAddHashed a (.int k tk) (hashInt k)) Q E s:=by
 obtain ⟨⟨o,es,ep,t,⟨ho,hex,hd⟩,⟨hel,hb,hf⟩,T,rfl⟩,nd⟩:=S
 have hlen:(es.toList.map fun e=>intOf e.2).length=es.size:=by simp
 have hkey:(intKind prog w).is k (.int k tk)=true:=intKind_is prog w k tk
 unfold setAddHashed setAddHashedIn
 refine wpAny_holding (wpAny_bind (wpAny_setState_of ho hd hf ?_))
 dsimp only
 rw[byScan_of (knd:=intKind prog w) rfl hb hel]
 simp only[↓reduceIte]
 unfold setAddByScan
 refine wpAny_bind (wpAny_bind (wpAny_rule (wpAny_bind (wpAny_setScan_of (knd:=intKind prog w) hkey ho hd hf hel ?_))))
 cases hr:List.findIdx? (fun e=>(intKind prog w).is k e.2) es.toList with
 | some j =>
  obtain ⟨hj,hpj,_⟩:=yca.mp hr
  have hm:k∈es.toList.map fun e=>intOf e.2:=(ziS hel k).mp ⟨es.toList[j],ycj hj,hpj⟩
  refine wpAny_pure (wpAny_pure ?_)
  have z:=hQ false s.heap _ (Heap.SameBut.refl a s.heap) ⟨⟨o,es,ep,t,⟨ho,hex,hd⟩,⟨hel,hb,hf⟩,T,rfl⟩,nd⟩ (fun m=>⟨.inl,fun q=>q.elim id fun e=>e ▸ hm⟩) (by ac_rfl)
  exact z
 | none =>
  have hm:k ∉ es.toList.map fun e=>intOf e.2:=fun q=>by
   obtain ⟨e,he,hp⟩:=(ziS hel k).mpr q
   have:=ycn.mp hr e he
   rw[show (intKind prog w).is k e.2=true from hp] at this
   cases this
  dsimp only
  have hperm:=layNew_perm t es (hashInt k) (.int k tk)
  have hfits:=layNew_fits t es (hashInt k) (.int k tk)
  have T1:=zvU T es (hashInt k) (.int k tk)
  generalize layNew t es (hashInt k) (.int k tk)=L at hperm hfits T1 ⊢
  obtain ⟨es1,t1,dm,gave⟩:=L
  dsimp only at hperm hfits T1 ⊢
  rw[Array.toList_push] at hperm
  have el1:ElemsOf (intKind prog w) es1.toList:=(hel.push (k:=k) hkey rfl).perm hperm
  have sz1:es1.size=es.size+1:=by rw[<-yel,hperm.length_eq,yad,yel];rfl
  have hb1:es1.size<scanBound:=by ac_rfl
  have pm:(es1.toList.map fun e=>intOf e.2).Perm ((es.toList.map fun e=>intOf e.2)++[k]):=by
   have:=hperm.map fun e=>intOf e.2
   rw[yan] at this
   exact this
  have nd1:(es1.toList.map fun e=>intOf e.2).Nodup:=pm.nodup_iff.mpr (yco.mpr ⟨nd,(ybw _ _),fun x hx y hy z=>hm (by rw[yba] at hy;rw[<-hy,<-z];exact hx)⟩)
  have mm:∀ m,m∈(es1.toList.map fun e=>intOf e.2)↔m∈(es.toList.map fun e=>intOf e.2)\/m=k:=fun m=>by rw[pm.mem_iff,yag,yba]
  have len1:(es1.toList.map fun e=>intOf e.2).length<=(es.toList.map fun e=>intOf e.2).length+1:=by rw[pm.length_eq,yad];exact ydc _
  have fin:∀ h' es2 t2 ep2 o2,(h'.get? a=some o2/\o2.ExactSet/\o2.data=.set es2 ep2 t2)->es2.toList.Perm es1.toList->t2.fits es2.size=true->Tab (w.params.followText "set-order") t2->Heap.SameBut a s.heap h'->Q true { s with heap:=h' } :=
   fun h' es2 t2 ep2 o2 hg p2 f2 T2 sb=>by
    have q2:=p2.map fun e=>intOf e.2
    have z2:es2.size=es1.size:=by rw[<-yel,p2.length_eq,yel]
    refine hQ true h' _ sb ⟨⟨o2,es2,ep2,t2,hg,⟨el1.perm p2,by ac_rfl,f2⟩,T2,rfl⟩,q2.nodup_iff.mpr nd1⟩ (fun m=>(q2.mem_iff).trans (mm m)) ?_
    rw[q2.length_eq];exact len1
  have put:∀ {h:Heap} {o1:Obj} {e1:Array (Int × Value)} {p1:Nat} {u1:SetTable},h.get? a=some o1->o1.ExactSet->o1.data=.set e1 p1 u1->∀ (e2:Array (Int × Value)) (u2:SetTable),
    (h.update a (Obj.putSet e2 u2)).get? a=some { o1 with data:=.set e2 (p1+1) u2 }:=fun {h o1 e1 p1 u1} q1 _ q3 e2 u2=>by
   have z:=ydy (Obj.putSet e2 u2) q1 (by rw[putSet_of e2 u2 q3];rfl)
   rw[putSet_of e2 u2 q3] at z
   exact z
  have tl:∀ (Q':Option Bool->Shared->Prop),(∀ h',Q true { s with heap:=h' }->Q' (some true) { s with heap:=h' })->wpAny (model prog w) A (storeSet a es1 t1) (fun _ s1=>(dm=false/\t1.tooFull=true->∀ g:Sem Unit,(∀ Q₀:Unit->Shared->Prop,Q₀ () s1->wpAny (model prog w) A g Q₀ E s1) ->
    wpAny (model prog w) A (g >>= fun _=>storeSet a (relayAll t1 es1 (SetTable.grown es1.size)).1 (relayAll t1 es1 (SetTable.grown es1.size)).2.1 >>= fun _=>pure (some true)) Q' E s1)/\Q' (some true) s1) E s:=fun Q' hq=>by
   refine wpAny_storeSet_of ho hd ?_ (fits_of_scanBound hb1)
   have g1:=put ho hex hd es1 t1
   have sb1:=Heap.SameBut.update s.heap a (Obj.putSet es1 t1)
   refine ⟨fun _ g hg=>wpAny_bind (hg _ ?_),hq _ (fin _ es1 t1 _ _ ⟨g1,hex,rfl⟩ .rfl hfits T1 sb1)⟩
   have p2:=relayAll_perm t1 es1 (SetTable.grown es1.size)
   have f2:=relayAll_fits t1 es1 (SetTable.grown es1.size)
   have T2:=zwX T1 es1 (SetTable.grown es1.size)
   generalize relayAll t1 es1 (SetTable.grown es1.size)=L2 at p2 f2 T2 ⊢
   obtain ⟨es2,t2,gv2⟩:=L2
   dsimp only at p2 f2 T2 ⊢
   have z2:es2.size=es1.size:=by rw[<-yel,p2.length_eq,yel]
   refine wpAny_bind (wpAny_storeSet_of g1 rfl (wpAny_pure (hq _ ?_)) (fits_of_scanBound (by ac_rfl)))
   exact fin _ es2 t2 _ _ ⟨put g1 hex rfl es2 t2,hex,rfl⟩ p2 f2 T2 (sb1.trans (Heap.SameBut.update _ a _))
  refine wpAny_bind ?_
  cases gave
  all_goals
   first | refine wpAny_pure ?_ | refine wpAny_rule ?_
   split
   all_goals
    refine wpAny_bind ?_
    try rw[hashByValue_scannable 8 (show (Value.int k tk).scannable=true from rfl)]
    refine wpAny_pure ?_
    simp only[plainKind,↓reduceIte]
    refine wpAny_bind (wpAny_mono (tl (fun r s'=>wpAny (model prog w) A (match r with | some added=>pure added | none=>setAddHashedIn a (Value.int k tk) (hashInt k) 99999) Q E s') fun h' z=>wpAny_pure z) (fun _ s1 hz=>?_) fun _ _ z=>z)
    obtain ⟨hz1,hz2⟩:=hz
    split
    ·rename_i hc
     simp only[Bool.and_eq_true,Bool.not_eq_true'] at hc
     refine hz1 hc _ fun Q₀ q₀=>?_
     generalize (relayAll t1 es1 (SetTable.grown es1.size)).2.2=gb
     cases gb
     ·exact wpAny_pure q₀
     ·exact wpAny_rule q₀
    ·exact wpAny_pure hz2
end
end zat
namespace zat
theorem zaH.keep {prog:Program} {w:World} {h h':Heap} {a:Addr} {ms:List Int} (S:zaH prog w h a ms) (k:∀ o,h.get? a=some o->h'.get? a=some o):zaH prog w h' a ms:=by
 obtain ⟨⟨o,es,ep,t,⟨ho,r⟩,r2⟩,nd⟩:=S
 exact ⟨⟨o,es,ep,t,⟨k o ho,r⟩,r2⟩,nd⟩
section
variable {prog:Program} {w:World} {A:Around} {R:Result->Shared->Prop} {I a:Addr} {fp wr:List Addr} {G:Array GenState->Array GenState->Prop} {n:Nat} {P:Nat->Value->Prop} {St:Nat->Shared->Prop} {val:Nat->Int}
theorem xloop (W:WalksS prog w A.in1 I fp wr G n P St) (ha:a ∉ fp) (hval:∀ i v,P i v->∃ t,v=.int (val i) t) (hb:n+1<scanBound):∀ (k i:Nat) (s:Shared) (ms:List Int),n-i=k->i<=n->St i s->zaH prog w s.heap a ms ->
   (∀ m,m∈ms↔m∈(yar i).map val)->ms.length<=i ->
   (∀ s' ms',Moved (a::wr) G s s'->zaH prog w s'.heap a ms'->(∀ m,m∈ms'↔m∈(yar n).map val)->ms'.length<=n->R (.ok (.ret .none)) s') ->
   codeAny (model prog w) A (.builtin "set.update.loop" ⟨[.ref a,.ref I],[]⟩) R s:=by
 have aw:a ∉ wr:=fun z=>ha (W.sub _ z)
 have sub:∀ b∈wr,b∈a::wr:=fun b z=>yak _ z
 intro k
 induction k with
 | zero =>
  intro i s ms hk hi st S mm hl hR
  obtain rfl:i=n:=by ac_rfl
  refine codeAny_builtin PyProof.Rows.F.entry_set_update_loop ?_
  rw[Around.under_plainId PyProof.Rows.F.plain_set_update_loop _]
  show wpAny _ A.in1 (pyNext (.ref I) >>= _) _ _ s
  refine wpAny_bind (W.done s _ _ st fun s' mv=>wpAny_pure (hR s' ms (mv.mono sub) (S.keep fun o e=>mv.heap a o aw e) mm hl))
 | succ k ih =>
  intro i s ms hk hi st S mm hl hR
  have lt:i<n:=by ac_rfl
  refine codeAny_builtin PyProof.Rows.F.entry_set_update_loop ?_
  rw[Around.under_plainId PyProof.Rows.F.plain_set_update_loop _]
  show wpAny _ A.in1 (pyNext (.ref I) >>= _) _ _ s
  refine wpAny_bind (W.item i s _ _ lt st fun v s' hP st' mv=>?_)
  obtain ⟨t,rfl⟩:=hval i v hP
  have S':=S.keep (h':=s'.heap) fun o e=>mv.heap a o aw e
  show wpAny _ A.in1 (holding [Value.int (val i) t] (setAdd a (.int (val i) t)) >>= _) _ _ s'
  refine wpAny_bind (wpAny_holding ?_)
  unfold setAdd
  refine wpAny_holding (wpAny_bind ((intKind prog w).pyHash (k:=val i) (intKind_is _ _ _ _) ?_))
  refine xadd (s:={ s' with toks:=s'.toks+1 }) (ms:=ms) S' (by ac_rfl) fun b h' ms' sb S2 mm2 l2=>?_
  refine wpAny_pure ⟨plainId_quiet PyProof.Rows.F.plain_set_update_loop _,ih (i+1) _ ms' (by ac_rfl) lt (W.frame _ s' _ _ st' (ydo _) fun b hb o e=>?_) S2 (fun m=>?_) (by ac_rfl) fun s2 ms2 mv2=>hR s2 ms2 ?_⟩
  ·rw[sb.2 b (fun z:b=a=>ha (by rw[<-z];exact hb))];exact e
  ·rw[mm2,mm,yda,yan,yag]
   simp
  ·refine Moved.trans W.gtrans ((mv.mono sub).then_heap (ydo _) fun b o hb e=>?_) mv2
   rw[sb.2 b (fun z:b=a=>hb (by rw[z];exact yam))];exact e
end
section
variable {prog:Program} {w:World} {A:Around} {E:Value->Shared->Prop} {s:Shared}
noncomputable abbrev empty (w:World):Obj:={ cls:=.type "set", dict:=none,data:=.set #[] 0 (.fresh 0 0 (!w.params.followText "set-order")) }
theorem zxJ (v:Value) {R:Result->Shared->Prop} (h:R (.ok (.ret (.ref s.heap.objs.size))) { s with heap:=s.heap.push (empty w) }) :
  codeAny (model prog w) A (.call (.builtin "set.__new__") ⟨[.type "set", v],[]⟩) R s:=by
 refine codeAny_of_tree ?_
 show wpAny _ A.in1 (checkBuiltinCall "set.__new__" ⟨[.type "set", v],[]⟩ >>= fun _=>again (.builtin "set.__new__" ⟨[.type "set", v],[]⟩)) _ _ s
 refine wpAny_bind (wpAny_of_eq (PySem.F.newCall_set_1 v) (wpAny_pure ⟨plainId_quiet PySem.F.plain_set_new _,codeAny_builtin PySem.F.entry_set_new ?_⟩))
 rw[Around.under_plainId PySem.F.plain_set_new _]
 unfold Builtin.«set.__new__» Builtin.Frozenset.newClass
 have sub:=sub_set_self
 obtain ⟨hp,g,d,tk,os⟩:=s
 dsimp only
 wp_walk
 refine wpAny_askSetting (wpAny_pure ?_)
 simp only[newObj]
 refine wpAny_bind (wpAny_alloc (wpAny_pure (wpAny_pure ?_)))
 exact h
theorem ztx {h:Heap}:zaH prog w (h.push (empty w)) h.objs.size [] :=
 ⟨⟨_,#[],0,_,⟨ydv _ rfl,⟨rfl,rfl,rfl⟩,rfl⟩,⟨(fun e he=>by simp at he),by decide,rfl⟩,znB _,rfl⟩,List.Pairwise.nil⟩
end
end zat
namespace zat
section
variable {prog:Program} {w:World} {A:Around} {E:Value->Shared->Prop} {s:Shared}
theorem zsp:∀ ns:List Int,(yar ns.length).map (fun i=>ns.getD i 0)=ns:=fun ns=>by
 apply ycf
 intro i
 rw[yaj]
 by_cases h:i<ns.length
 ·rw[ycr h,yaa h]
  simp[h]
 ·rw[yas (by rw[ycg];ac_rfl),yas (by ac_rfl)]
  rfl
theorem zxc {l:Addr} {items:Array Value} {ns:List Int} (hh:A.handled=none) (hl:s.heap.IsList l items) (hi:IntsAre items.toList ns) (hb:items.size+1<scanBound) {R:Result->Shared->Prop}
  (h:∀ h' tk ms,zaH prog w h' s.heap.objs.size ms->(∀ m,m∈ms↔m∈ns)->ms.length<=ns.length->(∀ b o,b<s.heap.objs.size->s.heap.get? b=some o->h'.get? b=some o)->R (.ok (.ret .none)) { s with heap:=h',toks:=tk }) :
  codeAny (model prog w) A (.call (.builtin "set.__init__") ⟨[.ref s.heap.objs.size,.ref l],[]⟩) R { s with heap:=s.heap.push (empty w) }:=by
 have hn:items.size=ns.length:=by rw[<-IntsAre.length hi];simp
 have at0:(s.heap.push (empty w)).get? s.heap.objs.size=some (empty w):=ydv _ rfl
 have ty:Shared.TypeIs { s with heap:=s.heap.push (empty w) } (.ref s.heap.objs.size) "set" := ⟨_,at0,rfl⟩
 refine codeAny_call_builtin PySem.F.called_set.init.plain PySem.F.entry_set_init (check_set_init_1 ty ?_)
 obtain ⟨ol,hol,hcl,nl,hdl⟩:=id hl
 have lS:l<s.heap.objs.size:=ydu hol
 obtain ⟨oc,od,odt,osl⟩:=ol
 dsimp only at hcl hdl
 subst hcl hdl
 have hol':=ydt (empty w) hol
 have n1:=PySem.F.sub_list_set
 have n2:=PySem.F.sub_list_frozenset
 have n3:(Value.type "list" == Value.type "dict")=false:=by decide
 have l1:(s.heap.push (empty w)).IsList l items:=⟨_,hol',rfl,nl,rfl⟩
 unfold Builtin.«set.__init__» noKeywords Builtin.Frozenset.updateFrom
 generalize hPI:pyIter=PI
 wp_walk
 subst hPI
 refine wpAny_pyIter_list l1 (wpAny_bind (wpAny_runValue ?_))
 have h3:A.in1.in1.handled=none:=by simp[hh]
 have sz:(s.heap.push (empty w)).objs.size=s.heap.objs.size+1:=ydx _ _
 have ne:l≠(s.heap.push (empty w)).objs.size:=by rw[sz];exact ydd (ydm lS)
 have nf:s.heap.objs.size ∉ [(s.heap.push (empty w)).objs.size,l]:=by
  rw[sz]
  simp only[yal,ybx,or_false,not_or]
  exact ⟨ydd (ydi _),ydl lS⟩
 have S0:zaH prog w ((s.heap.push (empty w)).push { cls:=.type "list_iterator", data:=.fields #[.ref l,.int 0 0] }) s.heap.objs.size []:=ztx.keep fun o e=>ydt _ e
 refine xloop (val:=fun i=>ns.getD i 0) ((Walks.list h3 _ l ne items).toS) nf (fun i v q=>IntsAre.int_at hi i v (by rw[yep];exact q)) hb (items.size-0) 0 _ [] (by ac_rfl) (ydf _)
  ?xst ?xS (fun m=>by simp) (ydf _) ?_
 case xst=>exact ⟨⟨_,ydv _ rfl,rfl,rfl⟩,l1.push _⟩
 case xS=>exact S0
 intro s' ms mv S mm len
 obtain ⟨h',g',d',tk',os'⟩:=s'
 obtain rfl:g'=s.gens:=mv.gens
 obtain rfl:d'=s.drawn:=mv.drawn
 obtain rfl:os'=s.os:=mv.os
 refine wpAny_pure ?_
 show wpAny _ _ (ret Value.none) _ _ _
 refine wpAny_pure (h h' tk' ms S (fun m=>?_) (by ac_rfl) fun b o lt e=>?_)
 ·rw[mm,hn,zsp]
 ·refine mv.heap b o ?_ (ydt _ (ydt _ e))
  rw[sz]
  simp only[yal,ybx,or_false,not_or]
  exact ⟨ydd lt,ydd (ydm lt)⟩
set_option maxHeartbeats 3200000 in
theorem zqN {l:Addr} {items:Array Value} {ns:List Int} (hh:A.handled=none) (hl:s.heap.IsList l items) (hi:IntsAre items.toList ns) (hb:items.size+1<scanBound) {Q:Value->Shared->Prop}
  (h:∀ h' tk ms,zaH prog w h' s.heap.objs.size ms->(∀ m,m∈ms↔m∈ns)->ms.length<=ns.length->(∀ b o,b<s.heap.objs.size->s.heap.get? b=some o->h'.get? b=some o)->Q (.ref s.heap.objs.size) { s with heap:=h',toks:=tk }) :
  wpAny (model prog w) A (call (.type "set") [.ref l]) Q E s:=by
 obtain ⟨c,tl,hmro⟩:=PySem.F.called_set.mro
 have m1:=PySem.F.called_set.made
 have m2:=PySem.F.called_set.sub
 have m3:=PySem.F.called_set.notType
 have m4:=PySem.F.called_set.canCreate
 have m5:=PySem.F.typeCall_set_1 (.ref l)
 refine wpAny_call (codeAny_of_tree ?_)
 show wpAny _ _ (callAny (.type "set") _) _ _ _
 refine wpAny_pure ⟨Code.quiet_builtin _ (by decide +kernel),codeAny_builtin PySem.F.entry_type_call ?_⟩
 rw[Around.under_plain (weight_type_call_type "set" [.ref l] []) rfl]
 repeat (any_goals (first | assumption | wp_step))
 refine zxJ (.ref l) ?_
 have at0:(s.heap.push (empty w)).get? s.heap.objs.size=some (empty w):=ydv _ rfl
 have ty:Shared.TypeIs { s with heap:=s.heap.push (empty w) } (.ref s.heap.objs.size) "set" := ⟨_,at0,rfl⟩
 have i1:=PySem.F.called_set.init.lookup
 have i2:=PySem.F.called_set.init.bind (.ref s.heap.objs.size)
 show wpAny _ _ _ _ _ _
 repeat (any_goals (first | assumption | wp_step))
 refine zxc (by simp[hh]) hl hi hb fun h' tk ms S mm len kp=>?_
 show wpAny _ _ _ _ _ _
 repeat (any_goals (first | assumption | wp_step))
 exact h _ _ _ S mm len kp
end
end zat
namespace zat
theorem zgq:Slot "set_iterator" "__next__" "set_iterator.__next__" := .of (owner:="set_iterator") (n:="__next__") (by rw[typeLookup_type,builtinLookup_eq_fast];kernel_rfl) (by decide +kernel) (by decide +kernel) (by decide +kernel)
 (by first | exact .inl (by decide +kernel) | exact .inr (by decide +kernel)) (by rw[isSubtype_type];kernel_rfl)
theorem zrH:Slot "set_iterator" "__iter__" "set_iterator.__iter__" := .of (owner:="set_iterator") (n:="__iter__") (by rw[typeLookup_type,builtinLookup_eq_fast];kernel_rfl) (by decide +kernel) (by decide +kernel) (by decide +kernel)
 (by first | exact .inl (by decide +kernel) | exact .inr (by decide +kernel)) (by rw[isSubtype_type];kernel_rfl)
theorem zr5:entryFor table "set_iterator.__next__" = some Builtin.«set_iterator.__next__»:=entryFor_of_tree (by kernel_rfl)
theorem zvT:entryFor table "set_iterator.__iter__" = some Builtin.«dict_keyiterator.__iter__»:=entryFor_alias (id' := "dict_keyiterator.__iter__") (by rw[fastTable_eq_tree];kernel_rfl) rfl (by rw[PySem.W.S.canonicalS_eq];kernel_rfl) (by rw[fastTable_eq_tree];kernel_rfl)
theorem zum:entryFor table "set.__iter__" = some Builtin.«frozenset.__iter__»:=entryFor_alias (id' := "frozenset.__iter__") (by rw[fastTable_eq_tree];kernel_rfl) rfl (by rw[PySem.W.S.canonicalS_eq];kernel_rfl) (by rw[fastTable_eq_tree];kernel_rfl)
theorem zr7 (a:Value):argsOk "set_iterator.__next__" ⟨[a],[]⟩:=by unfold argsOk;kernel_rfl
theorem zv8 (a:Value):argsOk "set_iterator.__iter__" ⟨[a],[]⟩:=by unfold argsOk;kernel_rfl
def zbW (h:Heap) (I a:Addr) (first:Value) (i n ep:Nat):Prop:=∃ o,h.get? I=some o/\o.cls=.type "set_iterator" /\ o.data=.fields #[first,.int i 0,.ref a,.int n 0,.int ep 0]
theorem zbW.ty {s:Shared} {I a:Addr} {first:Value} {i n ep:Nat} (h:zbW s.heap I a first i n ep):s.TypeIs (.ref I) "set_iterator" := let ⟨_,a,b,_⟩:=h;⟨_,a,b⟩
theorem zbW.keep {h h':Heap} {I a:Addr} {first:Value} {i n ep:Nat} (x:zbW h I a first i n ep) (k:∀ o,h.get? I=some o->h'.get? I=some o):zbW h' I a first i n ep:=let ⟨o,a,b⟩:=x;⟨o,k o a,b⟩
def zbN (h:Heap) (a:Addr) (es:Array (Int × Value)) (ep:Nat) (t:SetTable):Prop:=∃ o,h.get? a=some o/\o.data=.set es ep t/\t.fits es.size=true
theorem zbN.keep {h h':Heap} {a:Addr} {es:Array (Int × Value)} {ep:Nat} {t:SetTable} (x:zbN h a es ep t) (k:∀ o,h.get? a=some o->h'.get? a=some o):zbN h' a es ep t:=let ⟨o,a,b⟩:=x;⟨o,k o a,b⟩
section
variable {prog:Program} {w:World} {A:Around} {E:Value->Shared->Prop} {s:Shared} {I a:Addr} {es:Array (Int × Value)} {ep:Nat} {t:SetTable}
theorem zcd {Q:(Array (Int × Value) × Nat × SetTable)->Shared->Prop} (O:zbN s.heap a es ep t) (h:Q (es,ep,t) s):wpAny (model prog w) A (setState a) Q E s:=by
 obtain ⟨o,ho,hd,hf⟩:=O
 exact wpAny_setState_of ho hd hf h
theorem znQ {first:Value} {i n:Nat} {Q:Value->Shared->Prop} (h:zbW s.heap I a first i n ep) (q:Q (.ref I) s):wpAny (model prog w) A (pyIter (.ref I)) Q E s:=by
 refine wpAny_pyIter_slot h.ty zrH (wpAny_call_entry zrH h.ty zvT ?_ (zv8 _))
 exact wpAny_pure ⟨_,rfl, "set_iterator", _,h.ty,zgq.lookup,q⟩
theorem znK {Q:Option Value->Shared->Prop} {h1:Heap} (hh:A.handled=none) (q:∀ h',(∀ b o,h1.get? b=some o->h'.get? b=some o)->Q none { s with heap:=h' }) :
  wpAny (model prog w) A.in1 (newExc (.type "StopIteration") [] >>= fun e=>raiseNew e:Sem Fin) (fun fin s'=>∃ v,fin=.done (.ret v)/\wpAny (model prog w) A (match (Except.ok (some v):Except Value (Option Value)) with | .ok (some v)=>pure (some v) | .ok none=>unsupported "iter:the-iterator's-class-has-lost-its-__next__-amid-the-walk" | .error e=>do if <-isInstance e (.type "StopIteration") then pure none else throw e) Q E s')
   (fun e s'=>wpAny (model prog w) A (do if <-isInstance e (.type "StopIteration") then pure none else throw e) Q E s') { s with heap:=h1 }:=by
 refine wpAny_bind ?_
 simp only[newExc,newTuple]
 refine wpAny_bind (wpAny_newObj_type ?_ (by size_fits))
 refine wpAny_bind (m:=firstArgMember _ _) (wpAny_of_eq (a:=Value.none) (by first | rfl | (simp only[firstArgMember];rfl)) ?_)
 refine wpAny_newObj_type ?_ (by size_fits)
 simp only[raiseNew]
 refine wpAny_bind (wpAny_handled ?_)
 rw[show A.in1.handled=none from hh]
 refine wpAny_bind (wpAny_pure (wpAny_throw ?_))
 refine wpAny_bind (wpAny_isInstance (T:="StopIteration") (b:=true) ⟨_,ydv _ rfl,rfl⟩ isSubtype_stop ?_)
 exact wpAny_pure (q _ fun b o e=>ydt _ (ydt _ e))
end
end zat
namespace zat
section
variable {prog:Program} {w:World} {A:Around} {E:Value->Shared->Prop} {s:Shared} {I a:Addr} {es:Array (Int × Value)} {ep:Nat} {t:SetTable}
theorem zhH {h:Heap} {o:Obj} {vs:Array Value} {j:Nat} {x:Value} (ho:h.get? I=some o) (hd:o.data=.fields vs):(h.update I (Obj.mapFields (·.setIfInBounds j x))).get? I=some (Obj.mapFields (·.setIfInBounds j x) o) :=
 ydy _ ho (Obj.isFreed_of_fields (Obj.data_mapFields hd _))
theorem zpR {F i:Nat} {r:Option (Value × Nat)} {Q:Option Value->Shared->Prop} (hh:A.handled=none) (It:zbW s.heap I a (.int F 0) i es.size ep) (O:zbN s.heap a es ep t)
  (st:∀ (A':Around) (E':Value->Shared->Prop) (Q':Option (Value × Nat)->Shared->Prop),Q' r s->wpAny (model prog w) A' (setNext a F i ep) Q' E' s)
  (h1:∀ x F',r=some (x,F')->∀ h',Heap.SameBut I s.heap h'->zbW h' I a (.int F' 0) (i+1) es.size ep->Q (some x) { s with heap:=h' })
  (h2:r=none->∀ h',(∀ b o,b≠I->s.heap.get? b=some o->h'.get? b=some o)->Q none { s with heap:=h' }):wpAny (model prog w) A (pyNext (.ref I)) Q E s:=by
 obtain ⟨o,ho,hc,hd⟩:=id It
 unfold pyNext
 refine wpAny_bind (wpAny_attempt (wpAny_callSpecial?_slot (name:=Str.ofString "__next__") It.ty zgq (wpAny_call_entry zgq It.ty zr5 ?_ (zr7 _))))
 unfold Builtin.«set_iterator.__next__»
 refine wpAny_bind (wpAny_of_eq (a:=(Value.ref I,[])) rfl ?_)
 show wpAny _ _ (fieldsOf (.ref I) >>= _) _ _ s
 refine wpAny_bind (wpAny_fieldsOf ho hd ?_)
 show wpAny _ _ (setEntries a >>= _) _ _ s
 refine wpAny_bind ?_
 unfold setEntries
 refine wpAny_bind (zcd O (wpAny_pure ?_))
 dsimp only
 rw[if_neg (by simp)]
 simp only[yeh]
 refine wpAny_bind (st _ _ _ ?_)
 cases r with
 | some xf =>
  obtain ⟨x,F'⟩:=xf
  refine wpAny_bind (wpAny_setField ho hd (by simp) ?_)
  have ho1:=zhH (j:=0) (x:=rawInt F') ho hd
  have hd1:=Obj.data_mapFields hd (f:=(·.setIfInBounds 0 (rawInt F')))
  refine wpAny_bind (wpAny_setField ho1 hd1 (by simp) (wpAny_pure ⟨x,rfl,wpAny_pure (h1 x F' rfl _ ((Heap.SameBut.update ..).trans (Heap.SameBut.update ..)) ?_)⟩))
  refine ⟨_,zhH ho1 hd1,(Obj.cls_mapFields ..).trans ((Obj.cls_mapFields ..).trans hc),?_⟩
  rw[Obj.data_mapFields hd1]
  simp[rawInt]
 | none =>
  refine wpAny_bind (wpAny_setField ho hd (by simp) ?_)
  refine znK hh fun h' k=>h2 rfl h' fun b o hb e=>k b o ?_
  exact (ydw _ _ _ _ hb).trans e
end
end zat
namespace zat
section
variable {prog:Program} {w:World} {A:Around} {E:Value->Shared->Prop} {s:Shared} {I a T:Addr} {es:Array (Int × Value)} {ep:Nat} {t:SetTable} {ps:Array Value}
def zeS (h:Heap) (T:Addr) (ps:Array Value):Prop:=∃ o n,h.get? T=some o/\o.data=.seq ps n
theorem zeS.keep {h h':Heap} (x:zeS h T ps) (k:∀ o,h.get? T=some o->h'.get? T=some o):zeS h' T ps:=let ⟨o,n,a,b⟩:=x;⟨o,n,k o a,b⟩
theorem zmk {i:Nat} {Q:Option Value->Shared->Prop} (hh:A.handled=none) (It:zbW s.heap I a (.ref T) i es.size ep) (O:zbN s.heap a es ep t) (P:zeS s.heap T ps)
  (h1:∀ p,ps[i]?=some (.int p 0)->∀ k x,es[p.toNat]?=some (k,x)->∀ h',Heap.SameBut I s.heap h'->zbW h' I a (.ref T) (i+1) es.size ep->Q (some x) { s with heap:=h' })
  (h2:ps[i]?=none->∀ h',(∀ b o,b≠I->s.heap.get? b=some o->h'.get? b=some o)->Q none { s with heap:=h' })
  (hp:ps[i]?=none\/∃ p k x,ps[i]?=some (.int p 0)/\es[p.toNat]?=some (k,x)):wpAny (model prog w) A (pyNext (.ref I)) Q E s:=by
 obtain ⟨o,ho,hc,hd⟩:=id It
 obtain ⟨oT,nT,hT,hdT⟩:=P
 unfold pyNext
 refine wpAny_bind (wpAny_attempt (wpAny_callSpecial?_slot (name:=Str.ofString "__next__") It.ty zgq (wpAny_call_entry zgq It.ty zr5 ?_ (zr7 _))))
 unfold Builtin.«set_iterator.__next__»
 refine wpAny_bind (wpAny_of_eq (a:=(Value.ref I,[])) rfl ?_)
 show wpAny _ _ (fieldsOf (.ref I) >>= _) _ _ s
 refine wpAny_bind (wpAny_fieldsOf ho hd ?_)
 show wpAny _ _ (setEntries a >>= _) _ _ s
 refine wpAny_bind ?_
 unfold setEntries
 refine wpAny_bind (zcd O (wpAny_pure ?_))
 dsimp only
 rw[if_neg (by simp)]
 simp only[yeh]
 refine wpAny_bind (wpAny_seqItems hT hdT ?_)
 dsimp only
 rcases hp with hp | ⟨p,k,x,hp,hx⟩
 ·rw[hp]
  refine wpAny_bind (wpAny_setField ho hd (by simp) ?_)
  have ho1:=zhH (j:=0) (x:=rawInt 0) ho hd
  have hd1:=Obj.data_mapFields hd (f:=(·.setIfInBounds 0 (rawInt 0)))
  refine wpAny_bind (wpAny_setField ho1 hd1 (by simp) ?_)
  refine znK hh fun h' k=>h2 hp h' fun b o hb e=>k b o ?_
  exact (ydw _ _ _ _ hb).trans ((ydw _ _ _ _ hb).trans e)
 ·rw[hp]
  dsimp only
  refine wpAny_bind ?_
  unfold setNextDrawn
  refine wpAny_bind (zcd O ?_)
  dsimp only
  rw[if_neg (by simp),hx]
  refine wpAny_pure (wpAny_bind (wpAny_setField ho hd (by simp) (wpAny_pure ⟨x,rfl,wpAny_pure (h1 p hp k x hx _ (Heap.SameBut.update ..) ?_)⟩)))
  refine ⟨_,zhH ho hd,(Obj.cls_mapFields ..).trans hc,?_⟩
  rw[Obj.data_mapFields hd]
  simp[rawInt]
theorem ztO (hh:A.handled=none) (ne:a≠I) {F:Nat->Nat} {ord:Nat->Value} (st:∀ i,i<=es.size->∀ (s:Shared),zbN s.heap a es ep t->∀ (A':Around) (E':Value->Shared->Prop) (Q':Option (Value × Nat)->Shared->Prop),
   Q' (if i<es.size then some (ord i,F (i+1)) else none) s->wpAny (model prog w) A' (setNext a (F i) i ep) Q' E' s) :
  Walks prog w A I [I,a] [I] es.size (fun i v=>v=ord i) (fun i h=>i<=es.size/\zbW h I a (.int (F i) 0) i es.size ep/\zbN h a es ep t) where
 sub:=fun b hb=>by simp at hb;simp[hb]
 frame:=fun _ _ _ st k=>⟨st.1,st.2.1.keep fun o e=>k I (by simp) o e,st.2.2.keep fun o e=>k a (by simp) o e⟩
 item:=fun i s Q E hi h hQ=>by
  refine zpR hh h.2.1 h.2.2 (fun A' E' Q' q=>st i h.1 s h.2.2 A' E' Q' q) (fun x F' e h' sb It=>?_) fun e=>?_
  ·rw[if_pos hi] at e
   cases e
   exact hQ _ h' s.toks rfl ⟨hi,It,h.2.2.keep fun o e=>(sb.2 a ne).trans e⟩ fun b o hb e=>(sb.2 b fun z=>hb (by simp[z])).trans e
  ·rw[if_pos hi] at e;cases e
 done:=fun s Q E h hQ=>by
  refine zpR hh h.2.1 h.2.2 (fun A' E' Q' q=>st _ h.1 s h.2.2 A' E' Q' q) (fun x F' e=>?_) fun _ h' k=>hQ h' s.toks fun b o hb e=>k b o (fun z=>hb (by simp[z])) e
  rw[if_neg (ydj _)] at e;cases e
 self:=fun _ _ _ _ h q=>znQ h.2.1 q
theorem zq4 (hh:A.handled=none) (ne:a≠I) (nT:T≠I) {ord:List Nat} (hps:ps=(ord.map fun i:Nat=>rawInt i).toArray) (hl:ord.length=es.size) (ho:∀ i∈ord,i<es.size) :
  Walks prog w A I [I,a,T] [I] es.size (fun i v=>∃ j,ord[i]?=some j/\∃ k,es[j]?=some (k,v)) (fun i h=>i<=es.size/\(zbW h I a (.ref T) i es.size ep/\zbN h a es ep t)/\zeS h T ps) where
 sub:=fun b hb=>by simp at hb;simp[hb]
 frame:=fun _ _ _ st k=>⟨st.1,⟨st.2.1.1.keep fun o e=>k I (by simp) o e,st.2.1.2.keep fun o e=>k a (by simp) o e⟩,st.2.2.keep fun o e=>k T (by simp) o e⟩
 item:=fun i s Q E hi h hQ=>by
  have hj:i<ord.length:=by ac_rfl
  have e0:ps[i]?=some (.int (ord[i]:Nat) 0):=by rw[hps];simp[hj,rawInt]
  have hlt:=ho ord[i] (ycj hj)
  obtain ⟨⟨k0,x0⟩,q0⟩:∃ q,es[ord[i]]?=some q:=⟨_,yem hlt⟩
  refine zmk hh h.2.1.1 h.2.1.2 h.2.2 (fun p ep' k x ex h' sb It=>?_) (fun e=>by rw[e0] at e;cases e) (.inr ⟨_,k0,x0,e0,by simpa using q0⟩)
  rw[e0] at ep'
  cases ep'
  refine hQ x h' s.toks ⟨ord[i],yaa hj,k,by simpa using ex⟩ ⟨hi,⟨It,h.2.1.2.keep fun o e=>(sb.2 a ne).trans e⟩,h.2.2.keep fun o e=>(sb.2 T nT).trans e⟩ fun b o hb e=>(sb.2 b fun z=>hb (by simp[z])).trans e
 done:=fun s Q E h hQ=>by
  have e0:ps[es.size]?=none:=by rw[hps];simp;ac_rfl
  exact zmk hh h.2.1.1 h.2.1.2 h.2.2 (fun p ep'=>by rw[e0] at ep';cases ep') (fun _ h' k=>hQ h' s.toks fun b o hb e=>k b o (fun z=>hb (by simp[z])) e) (.inl e0)
 self:=fun _ _ _ _ h q=>znQ h.2.1.1 q
end
end zat
namespace zat
theorem zf7 {α:Type}:∀ (l:List α) (i:Nat) (h:i<l.length),(l[i]::l.eraseIdx i).Perm l
 | x::xs,0,_=>.refl _
 | x::xs,i+1,h=>(List.Perm.swap x _ _).trans ((zf7 xs i (by simpa using h)).cons x)
theorem zrS {α:Type} (next:Nat->Nat):∀ (fuel k:Nat) (left:List α) (out:Array α),left.length=fuel->(pickOrder.go next fuel k left out).toList.Perm (out.toList++left)
 | 0,k,left,out,h=>by
  have:left=[]:=List.length_eq_zero_iff.mp h
  subst this
  unfold pickOrder.go
  simp
 | fuel+1,k,left,out,h=>by
  have lt:next k % left.length<left.length:=Nat.mod_lt _ (by ac_rfl)
  unfold pickOrder.go
  rw[yaa lt]
  dsimp only
  refine (zrS next fuel (k+1) _ _ (by rw[ycm lt,h];rfl)).trans ?_
  rw[Array.toList_push,ycb]
  refine List.Perm.append_left _ ?_
  exact zf7 left _ lt
theorem zhD {α:Type} (next:Nat->Nat) (xs:Array α):(pickOrder next xs).toList.Perm xs.toList:=by
 unfold pickOrder
 simpa using zrS next xs.size 0 xs.toList #[] (by simp)
noncomputable def slotAt (t:SetTable) (i:Nat):Nat:=if i=0 then 0 else t.place.getD (i-1) 0+1
theorem below_at {t:SetTable} (h:Up t.place) {i:Nat} (hi:i<=t.place.size):SetTable.below t.place (slotAt t i)=i:=by
 obtain ⟨h0,h1,h2⟩:=zmq h (slotAt t i)
 generalize SetTable.below t.place (slotAt t i)=p at *
 have gd:∀ j,j<t.place.size->∀ d e,t.place.getD j d=t.place.getD j e:=fun j hj d e=>by simp[yeq,hj]
 by_cases hz:i=0
 ·subst hz
  refine Nat.eq_zero_of_not_pos fun hp=>?_
  have:=h1 0 hp
  unfold slotAt at this
  rw[if_pos rfl] at this
  ac_rfl
 ·have e:slotAt t i=t.place.getD (i-1) 0+1:=by unfold slotAt;rw[if_neg hz]
  rcases ydk p i with lt | rfl | gt
  ·have:=h2 (i-1) (by ac_rfl) (by ac_rfl)
   rw[gd _ (by ac_rfl) _ 0,e] at this
   ac_rfl
  ·rfl
  ·have:=h1 i gt
   have u:=zoE h (i:=i-1) (j:=i) (by ac_rfl) (by ac_rfl) 0 0
   rw[gd _ (by ac_rfl) _ 0,e] at this
   ac_rfl
section
variable {prog:Program} {w:World} {a:Addr} {es:Array (Int × Value)} {ep:Nat} {t:SetTable}
theorem zsM (hb:w.params.followText "set-order" = false) (T:Tab false t) (hf:t.fits es.size=true) (hp:(!t.plain && decide (es.size > 1))=false) (i:Nat) (hi:i<=es.size) (s:Shared) (O:zbN s.heap a es ep t) (A':Around)
  (E':Value->Shared->Prop) (Q':Option (Value × Nat)->Shared->Prop) (q:Q' (if i<es.size then some ((es.getD i (0,.none)).2,slotAt t (i+1)) else none) s):wpAny (model prog w) A' (setNext a (slotAt t i) i ep) Q' E' s:=by
 have fz:t.place.size=es.size:=by simp[SetTable.fits] at hf;exact hf.1
 have up:Up t.place:=by
  by_cases pl:t.plain=true
  ·exact T.up pl
  ·have:es.size<=1:=by simp[pl] at hp;exact hp
   unfold Up
   have l1:t.place.toList.length<=1:=by rw[yel];ac_rfl
   match hq:t.place.toList,l1 with
   | [],_=>exact .nil
   | [x],_=>exact ybw _ _
   | _::_::_,z=>simp at z
 unfold setNext
 refine wpAny_bind (zcd O ?_)
 unfold setsByText
 refine wpAny_bind (wpAny_bind (wpAny_askSetting (wpAny_pure ?_)))
 rw[show (model prog w).w.params.followText "set-order" = false from hb]
 rw[if_neg Bool.false_ne_true]
 dsimp only
 show wpAny _ _ (if (!t.plain && decide (es.size > 1))=true then _ else _) _ _ _
 rw[if_neg (by rw[hp];exact Bool.false_ne_true)]
 refine wpAny_bind ?_
 show wpAny _ _ (if (!t.led && !es.isEmpty)=true then _ else _) _ _ _
 rw[if_neg (by rw[T.led];simp)]
 refine wpAny_pure ?_
 rw[below_at up (by ac_rfl)]
 refine wpAny_pure ?_
 by_cases lt:i<es.size
 ·rw[if_pos lt] at q
  rw[yem lt,yem (by ac_rfl:i<t.place.size)]
  dsimp only
  have e1:(es.getD i (0,.none)).2=es[i].2:=by simp[yeq,lt]
  have e2:slotAt t (i+1)=t.place[i]'(by ac_rfl)+1:=by simp[slotAt,yeq,show i<t.place.size by ac_rfl]
  rw[e1,e2] at q
  exact q
 ·rw[if_neg lt] at q
  rw[Array.getElem?_eq_none (by ac_rfl)]
  exact q
theorem ztJ (hb:w.params.followText "set-order" = true) (i:Nat) (hi:i<=es.size) (s:Shared) (O:zbN s.heap a es ep t) (A':Around)
  (E':Value->Shared->Prop) (Q':Option (Value × Nat)->Shared->Prop) (q:Q' (if i<es.size then some (((pickOrder (w.params.setOrder a ep) es).getD i (0,.none)).2,0) else none) s):wpAny (model prog w) A' (setNext a 0 i ep) Q' E' s:=by
 have sz:(pickOrder (w.params.setOrder a ep) es).size=es.size:=by
  have:=(zhD (w.params.setOrder a ep) es).length_eq
  simpa using this
 unfold setNext
 refine wpAny_bind (zcd O ?_)
 unfold setsByText
 refine wpAny_bind (wpAny_bind (wpAny_askSetting (wpAny_pure ?_)))
 rw[show (model prog w).w.params.followText "set-order" = true from hb,if_pos rfl]
 dsimp only
 rw[if_neg (by simp)]
 refine wpAny_bind ?_
 unfold setWalk
 refine wpAny_bind (zcd O ?_)
 unfold setsByText
 refine wpAny_bind (wpAny_bind (wpAny_askSetting (wpAny_pure ?_)))
 rw[show (model prog w).w.params.followText "set-order" = true from hb,if_pos rfl]
 refine wpAny_bind (wpAny_askSetting (wpAny_pure (wpAny_pure ?_)))
 show Q' (Option.map (fun e=>(e.2,0)) (pickOrder (w.params.setOrder a ep) es)[i]?) s
 by_cases lt:i<es.size
 ·rw[if_pos lt] at q
  rw[yem (by ac_rfl)]
  have e1:((pickOrder (w.params.setOrder a ep) es).getD i (0,.none)).2=((pickOrder (w.params.setOrder a ep) es)[i]'(by ac_rfl)).2:=by simp[yeq,show i<(pickOrder (w.params.setOrder a ep) es).size by ac_rfl]
  rw[e1] at q
  exact q
 ·rw[if_neg lt] at q
  rw[Array.getElem?_eq_none (by ac_rfl)]
  exact q
end
end zat
namespace zat
section
variable {prog:Program} {w:World} {A:Around} {E:Value->Shared->Prop}
theorem zsl {src:Source} {n:Nat} {s:Shared} {Q:Nat->Shared->Prop} (hn:0<n) (h:∀ i d,i<n->Q i { s with drawn:=d }):wpAny (model prog w) A (choose src n) Q E s :=
 fun Γ p hΓ=>⟨by ac_rfl,h _ _ (Nat.mod_lt _ hn)⟩
theorem zkv {α:Type}:∀ (n:Nat) (xs:List α) (s:Shared) (Q:List α->Shared->Prop),xs.length=n->(∀ l d,l.Perm xs->Q l { s with drawn:=d })->wpAny (model prog w) A (drawOrder n xs) Q E s
 | 0,xs,s,Q,hl,h=>by
  have:xs=[]:=List.length_eq_zero_iff.mp hl
  subst this
  unfold drawOrder
  exact wpAny_pure (h [] s.drawn (.refl _))
 | n+1,[],s,Q,hl,h=>by simp at hl
 | n+1,x::xs,s,Q,hl,h=>by
  unfold drawOrder
  refine wpAny_bind (zsl (by simp) fun i d hi=>?_)
  rw[yaa hi]
  refine wpAny_bind (zkv n _ _ _ (by rw[ycm hi,hl];rfl) fun l d' hp=>wpAny_pure (h _ d' ?_))
  exact (hp.cons _).trans (zf7 (x::xs) i hi)
end
theorem zpu {P:Nat->Value->Prop} {acc:Array Value} {n:Nat} {f:Nat->Value} (h:ItemsOf P acc n) (hf:∀ i v,i<n->P i v->v=f i):acc.toList=(yar n).map f:=by
 apply ycf
 intro j
 rw[yaj]
 by_cases lt:j<n
 ·have e:acc.toList[j]?=some (acc[j]'(by rw[h.1];exact lt)):=by rw[yep];exact yem _
  rw[e,ycr lt]
  exact congrArg some (hf j _ lt (h.2 j _ (yem _)))
 ·rw[yas (by rw[yel,h.1];ac_rfl),yas (by rw[ycg];ac_rfl)]
  rfl
theorem zhy {α β:Type} (xs:Array α) (d:α) (f:α->β):(yar xs.size).map (fun i=>f (xs.getD i d))=xs.toList.map f:=by
 apply ycf
 intro j
 rw[yaj,yaj]
 by_cases lt:j<xs.size
 ·rw[ycr lt,yep,yem lt]
  simp[yeq,lt]
 ·rw[yas (by rw[ycg];ac_rfl),yas (by rw[yel];ac_rfl)]
  rfl
section
variable {prog:Program} {w:World} {A:Around} {E:Value->Shared->Prop} {s:Shared} {a:Addr} {es:Array (Int × Value)} {ep:Nat} {t:SetTable}
theorem zuS {B:Around} {Q:Value->Shared->Prop} (hB:B.handled=none) (ty:s.TypeIs (.ref a) "set") (O:zbN s.heap a es ep t) (T:Tab (w.params.followText "set-order") t) (hz:es.size<=sizeLine)
  (hQ:∀ I h' d' fp P (St:Nat->Heap->Prop),Walks prog w B I fp [I] es.size P St->St 0 h'->(∀ b∈fp,b=a\/(s.heap.objs.size<=b/\b<h'.objs.size))->(∀ acc,ItemsOf P acc es.size->acc.toList.Perm (es.toList.map (·.2))) ->
   (∀ b o,s.heap.get? b=some o->h'.get? b=some o)->s.heap.objs.size<=I->Q (.ref I) { s with heap:=h',drawn:=d' }):wpAny (model prog w) A (pyIter (.ref a)) Q E s:=by
 have hf:t.fits es.size=true:=O.choose_spec.2.2
 have alt:a<s.heap.objs.size:=ydu O.choose_spec.1
 refine wpAny_pyIter_slot ty PySem.F.slot_set_iter (wpAny_call_entry PySem.F.slot_set_iter ty zum ?_ (PySem.F.args_set_iter_1 _))
 unfold Builtin.«frozenset.__iter__» Builtin.Frozenset.slot0
 refine wpAny_bind (wpAny_bind (wpAny_of_eq (a:=(Value.ref a,[])) rfl (wpAny_of_eq (a:=a) rfl ?_)))
 unfold Builtin.Frozenset.sizeOf setEntries
 refine wpAny_bind (wpAny_bind (wpAny_bind (zcd O (wpAny_pure (wpAny_pure ?_)))))
 unfold setDrawn setsByText
 refine wpAny_bind (wpAny_bind (zcd O (wpAny_bind (wpAny_bind (wpAny_askSetting (wpAny_pure (wpAny_pure ?_)))))))
 show wpAny _ _ (if (!w.params.followText "set-order" && (!t.plain && decide (es.size > 1)))=true then _ else _) _ _ _
 have body:∀ (first:Value) (s1:Shared),zbN s1.heap a es ep t->(∀ I h',h'=s1.heap.push { cls:=.type "set_iterator", data:=.fields #[first,.int (0:Nat) 0,.ref a,.int es.size 0,.int ep 0] }->I=s1.heap.objs.size->zbW h' I a first 0 es.size ep->zbN h' a es ep t->Q (.ref I) { s1 with heap:=h' }) ->
   wpAny (model prog w) A.in1 (setEpoch a >>= fun e=>newFields "set_iterator" [first,rawInt 0,.ref a,rawInt es.size,rawInt e] >>= fun x=>ret x) (fun fin s'=>∃ v,fin=.done (.ret v)/\∃ T' r,s'.TypeIs v T'/\typeLookup (.type T') "__next__" = pure (some r)/\Q v s') E s1:=fun first s1 O1 q=>by
  unfold setEpoch
  refine wpAny_bind (wpAny_bind (zcd O1 (wpAny_pure ?_)))
  refine wpAny_bind (wpAny_newObj_type (wpAny_pure ?_))
  have g:(s1.heap.push { cls:=.type "set_iterator", data:=.fields #[first,.int (0:Nat) 0,.ref a,.int es.size 0,.int ep 0] }).get? s1.heap.objs.size=some { cls:=.type "set_iterator", data:=.fields #[first,.int (0:Nat) 0,.ref a,.int es.size 0,.int ep 0] }:=ydv _ rfl
  exact ⟨_,rfl, "set_iterator", _,⟨_,g,rfl⟩,zgq.lookup,q _ _ rfl rfl ⟨_,g,rfl,rfl⟩ (O1.keep fun o e=>ydt _ e)⟩
 have pin:∀ (F:Nat->Nat) (ord:Nat->Value),F 0=0->(∀ i,i<=es.size->∀ (s:Shared),zbN s.heap a es ep t->∀ (A':Around) (E':Value->Shared->Prop) (Q':Option (Value × Nat)->Shared->Prop),
   Q' (if i<es.size then some (ord i,F (i+1)) else none) s->wpAny (model prog w) A' (setNext a (F i) i ep) Q' E' s)->((yar es.size).map ord).Perm (es.toList.map (·.2)) ->
   wpAny (model prog w) A.in1 (setEpoch a >>= fun e=>newFields "set_iterator" [rawInt 0,rawInt 0,.ref a,rawInt es.size,rawInt e] >>= fun x=>ret x) (fun fin s'=>∃ v,fin=.done (.ret v)/\∃ T' r,s'.TypeIs v T'/\typeLookup (.type T') "__next__" = pure (some r)/\Q v s') E s:=fun F ord F0 st pm=>by
  refine body (rawInt 0) s O fun I h' eh eI It O'=>?_
  have Ilt:I<h'.objs.size:=by rw[eh,eI,ydx];exact ydi _
  refine hQ I h' s.drawn [I,a] _ _ (ztO (prog:=prog) (w:=w) (A:=B) hB (by rw[eI];exact ydd alt) st) ⟨ydf _,by rw[F0];exact It,O'⟩ (fun b hb=>?_) (fun acc hacc=>?_) (fun b o e=>by rw[eh];exact ydt _ e) (by rw[eI];exact ydc _)
  ·simp only[yal,ybx,or_false] at hb
   rcases hb with rfl | rfl
   ·exact .inr ⟨by rw[eI];exact ydc _,Ilt⟩
   ·exact .inl rfl
  ·rw[zpu hacc fun i v _ q=>q]
   exact pm
 by_cases hd:(!w.params.followText "set-order" && (!t.plain && decide (es.size > 1)))=true
 ·rw[if_pos hd]
  refine wpAny_bind (zkv es.size (yar es.size) s _ (by simp) fun ord d hp=>?_)
  have ol:ord.length=es.size:=by rw[hp.length_eq];simp
  refine wpAny_bind (wpAny_newObj_type ?_ ?_)
  ·refine body (.ref s.heap.objs.size) { s with heap:=s.heap.push { cls:=.type "tuple", data:=.seq (ord.map fun i:Nat=>rawInt i).toArray },drawn:=d } (O.keep fun o e=>ydt _ e) fun I h' eh eI It O'=>?_
   have eI':I=s.heap.objs.size+1:=by rw[eI];exact ydx _ _
   have Ilt:h'.objs.size=s.heap.objs.size+2:=by rw[eh,ydx,ydx]
   have P:zeS h' s.heap.objs.size (ord.map fun i:Nat=>rawInt i).toArray:=⟨_,_,by rw[eh];exact ydt _ (ydv _ rfl),rfl⟩
   refine hQ I h' d [I,a,s.heap.objs.size] _ _ (zq4 (prog:=prog) (w:=w) (A:=B) hB (by rw[eI'];exact ydd (ydm alt)) (by rw[eI'];exact ydd (ydi _)) rfl ol fun i hi=>by
    have:=hp.mem_iff.mp hi
    simpa using this) ⟨ydf _,⟨It,O'⟩,P⟩ (fun b hb=>?_) (fun acc hacc=>?_) (fun b o e=>by rw[eh];exact ydt _ (ydt _ e)) (by rw[eI'];exact ydo _)
   ·simp only[yal,ybx,or_false] at hb
    rcases hb with rfl | rfl | rfl
    ·exact .inr ⟨by rw[eI'];exact ydo _,by rw[Ilt,eI'];exact ydi _⟩
    ·exact .inl rfl
    ·exact .inr ⟨ydc _,by rw[Ilt];exact ydm (ydi _)⟩
   ·have e1:acc.toList=(yar es.size).map fun i=>(es.getD (ord.getD i 0) (0,.none)).2:=zpu hacc fun i v lt ⟨j,hj,k,hk⟩=>by
     have hlt:j<es.size:=by
      have:=hp.mem_iff.mp (yah hj)
      simpa using this
     have hi:i<ord.length:=by ac_rfl
     rw[yaa hi] at hj
     cases hj
     rw[yem hlt] at hk
     cases hq:es[ord[i]]
     rw[hq] at hk
     cases hk
     simp[yeq,hi,hlt,hq]
    rw[e1]
    have e2:(yar es.size).map (fun i=>(es.getD (ord.getD i 0) (0,.none)).2)=ord.map fun j=>(es.getD j (0,.none)).2:=by
     have:=zhy ord.toArray 0 fun j=>(es.getD j (0,.none)).2
     simpa [ol] using this
    rw[e2,<-zhy es (0,.none) (·.2)]
    exact hp.map _
  ·show (ord.map fun i:Nat=>rawInt i).toArray.size<=sizeLine
   simp[ol,hz]
 ·rw[if_neg hd]
  refine wpAny_bind (wpAny_pure ?_)
  cases hb:w.params.followText "set-order" with
  | true =>
   refine pin (fun _=>0) (fun i=>((pickOrder (w.params.setOrder a ep) es).getD i (0,.none)).2) rfl (fun i hi s O A' E' Q' q=>ztJ hb i hi s O A' E' Q' q) ?_
   have sz:(pickOrder (w.params.setOrder a ep) es).size=es.size:=by
    have:=(zhD (w.params.setOrder a ep) es).length_eq
    simpa using this
   rw[<-sz,zhy]
   exact (zhD _ _).map _
  | false =>
   have T':=T
   rw[hb] at T'
   rw[hb] at hd
   refine pin (slotAt t) (fun i=>(es.getD i (0,.none)).2) rfl (fun i hi s O A' E' Q' q=>zsM hb T' hf (by simpa using hd) i hi s O A' E' Q' q) ?_
   rw[zhy]
end
end zat
namespace zat
theorem zvM:typeLookup (.type "set") "__len__" = pure (some (.builtin "set.__len__")):=by rw[typeLookup_type,builtinLookup_eq_fast];kernel_rfl
theorem zeV {M:Model} {A:Around} {α:Type} {Q:α->Shared->Prop} {E:Value->Shared->Prop} {s:Shared} {c:Prop} [Decidable c] {x y:Sem α} (hc:c) (h:wpAny M A x Q E s):wpAny M A (if c then x else y) Q E s:=by rw[if_pos hc];exact h
theorem zaY {M:Model} {A:Around} {α:Type} {Q:α->Shared->Prop} {E:Value->Shared->Prop} {s:Shared} {c:Prop} [Decidable c] {x y:Sem α} (hc:¬ c) (h:wpAny M A y Q E s):wpAny M A (if c then x else y) Q E s:=by rw[if_neg hc];exact h
section
variable {prog:Program} {w:World} {A:Around} {E:Value->Shared->Prop} {s:Shared} {a:Addr} {es:Array (Int × Value)} {ep:Nat} {t:SetTable}
theorem zu5 {Q:Bool->Shared->Prop} (ty:s.TypeIs (.ref a) "set") (q:Q false s):wpAny (model prog w) A (Builtin.List.listLengthHint (.ref a)) Q E s:=by
 unfold Builtin.List.listLengthHint
 refine wpAny_bind (wpAny_specialOf ty zvM ?_)
 generalize hid:("set.__len__" : String)=id0
 have h1:splitId id0=some ("set", "__len__"):=by subst hid;decide +kernel
 dsimp only
 rw[h1]
 subst hid
 refine wpAny_bind (wpAny_isInstance (b:=true) ty (by rw[isSubtype_type];kernel_rfl) ?_)
 refine zaY (by simp) (zeV (by decide +kernel) (wpAny_bind (wpAny_typeOf ty ?_)))
 exact wpAny_pure q
theorem zqH {Q:List Value->Shared->Prop} (hh:A.handled=none) (ty:s.TypeIs (.ref a) "set") (O:zbN s.heap a es ep t) (T:Tab (w.params.followText "set-order") t) (hz:es.size<=sizeLine)
  (hQ:∀ vs h' d' tk,vs.Perm (es.toList.map (·.2))->(∀ b o,s.heap.get? b=some o->h'.get? b=some o)->Q vs { s with heap:=h',drawn:=d',toks:=tk }):wpAny (model prog w) A (collect (.ref a)) Q E s:=by
 have alt:a<s.heap.objs.size:=ydu O.choose_spec.1
 unfold collect
 refine wpAny_bind (wpAny_runValue (codeAny_builtin PySem.F.entry_proto_collect ?_))
 rw[Around.under_plainId PySem.F.plain_proto_collect _]
 show wpAny _ A.in1 (newList [] >>= fun l=>again (.builtin "list.__iadd__" ⟨[l,.ref a],[]⟩)) _ _ s
 refine wpAny_bind (wpAny_newObj_type ?_)
 refine wpAny_pure ⟨plainId_quiet PySem.F.plain_list_iadd _,codeAny_builtin PySem.F.entry_list_iadd ?_⟩
 rw[Around.under_plainId PySem.F.plain_list_iadd _]
 show wpAny _ A.in1 (Builtin.List.listExtendWith (.ref s.heap.objs.size) (.ref a) (.ref s.heap.objs.size)) _ _ _
 have ne:Builtin.List.listSameRef (.ref s.heap.objs.size) (.ref a)=false:=by
  have:s.heap.objs.size≠a:=ydl alt
  simp[Builtin.List.listSameRef,this]
 obtain ⟨oa,hoa,hca⟩:=id ty
 have ty1:({ s with heap:=s.heap.push { cls:=.type "list", data:=.seq ([]:List Value).toArray } }:Shared).TypeIs (.ref a) "set" := ⟨oa,ydt _ hoa,hca⟩
 unfold Builtin.List.listExtendWith
 refine wpAny_bind (wpAny_typeOf ty1 ?_)
 rw[if_neg (by rw[ne];decide)]
 refine wpAny_bind (zuS (B:=A.in1) (by simp[hh]) ty1 (O.keep fun o e=>ydt _ e) T hz fun I h' d' fp P St W st0 hfp pm kp hI=>?_)
 have S1:h'.get? s.heap.objs.size=some { cls:=.type "list", data:=.seq ([]:List Value).toArray }:=kp _ _ (ydv _ rfl)
 refine wpAny_bind (wpAny_holding (zu5 ⟨oa,kp _ _ (ydt _ hoa),hca⟩ ?_))
 refine zeV (by decide +kernel) (wpAny_bind (wpAny_rule (wpAny_bind ?_)))
 unfold Builtin.List.listTouch
 have g1:(h'.update s.heap.objs.size (Obj.mapSeq (·.push Value.none))).get? s.heap.objs.size=some { cls:=.type "list", data:=.seq #[.none] 1 }:=ydy _ S1 rfl
 have g2:((h'.update s.heap.objs.size (Obj.mapSeq (·.push Value.none))).update s.heap.objs.size (Obj.mapSeq (·.pop))).get? s.heap.objs.size=some { cls:=.type "list", data:=.seq #[] 2 }:=ydy _ g1 rfl
 refine wpAny_bind (listUpdate_at S1 rfl (listUpdate_at g1 rfl ?_ (by decide) (by decide)) (by decide) (by decide))
 have Sf:s.heap.objs.size ∉ fp:=fun z=>by
  rcases hfp _ z with e | ⟨e,_⟩
  ·exact absurd alt (by rw[<-e];exact ydj _)
  ·rw[ydx] at e
   exact Nat.not_succ_le_self _ e
 have st1:St 0 ((h'.update s.heap.objs.size (Obj.mapSeq (·.push Value.none))).update s.heap.objs.size (Obj.mapSeq (·.pop))):=W.frame 0 h' _ st0 fun b hb o e=>by
  have nb:b≠s.heap.objs.size:=fun z=>Sf (z ▸ hb)
  exact (ydw _ _ _ _ nb).trans ((ydw _ _ _ _ nb).trans e)
 refine wpAny_pure ⟨plainId_quiet PySem.F.plain_extend_loop _,codeAny_extend_loopS W.toS hz _ Sf _ es.size 0 _ #[] 2 rfl (ydf _) st1 g2 (ItemsOf.nil P) fun s' acc c mv S' hacc=>?_⟩
 show wpAny _ A (load s.heap.objs.size >>= _) _ _ s'
 refine wpAny_bind (wpAny_load S' (wpAny_pure ?_))
 obtain ⟨h2,g',d2,tk',os'⟩:=s'
 obtain rfl:g'=s.gens:=mv.gens
 obtain rfl:os'=s.os:=mv.os
 refine hQ acc.toList h2 d2 tk' (pm acc hacc) fun b o e=>mv.heap b o ?_ ?_
 ·intro z
  have lt:=ydu e
  rcases yal.mp z with z | z
  ·exact absurd lt (by rw[z];exact ydj _)
  ·have z':b=I:=by simpa using z
   rw[z'] at lt
   have:s.heap.objs.size+1<=I:=by rw[<-ydx];exact hI
   exact absurd (ydg lt (ydh (ydo _) this)) (ydj _)
 ·have nb:b≠s.heap.objs.size:=ydd (ydu e)
  exact (ydw _ _ _ _ nb).trans ((ydw _ _ _ _ nb).trans (kp b o (ydt _ e)))
end
end zat
namespace zat
theorem zrP:∀ {vs:List Value},(∀ v∈vs,∃ m t,v=.int m t)->IntsAre vs (vs.map intOf)
 | [],_=>.nil
 | v::vs,h=>by
  obtain ⟨m,t,rfl⟩:=h v (yam)
  exact .cons m t (zrP fun v hv=>h v (yak _ hv))
section
variable {prog:Program} {w:World} {A:Around} {E:Value->Shared->Prop} {s:Shared} {a:Addr} {ms:List Int}
theorem zsF {Q:Value->Shared->Prop} (hh:A.handled=none) (S:zaH prog w s.heap a ms) (h64:ms.length<64)
  (h:∀ h' d' tk (out:Array Value) ns' p n,IntsAre out.toList ns'->ns'.Perm ms->ns'.Pairwise (·<=·)->(∀ b o,s.heap.get? b=some o->h'.get? b=some o)->s.heap.get? p=none->h'.get? p=some (seqObj "list" out n)->Q (.ref p) { s with heap:=h',drawn:=d',toks:=tk }) :
  wpAny (model prog w) A (call (.builtin "sorted") [.ref a]) Q E s:=by
 obtain ⟨⟨o,es,ep,t,⟨ho,hex,hd⟩,⟨hel,hb,hf⟩,T,rfl⟩,nd⟩:=S
 have lz:es.size<64:=by simpa using h64
 refine Calls.call_function_entry kind_sorted plain_sorted entry_sorted (args_sorted1 _) ?_
 unfold Builtin.«sorted»
 refine wpAny_bind (m:=checkCount "sorted" 1 1 _) (wpAny_pure ?_)
 refine wpAny_bind (zqH (by simp[hh]) ⟨o,ho,hex.1⟩ ⟨o,ho,hd,hf⟩ T (by rw[sizeLine_eq];ac_rfl) fun vs h1 d1 tk1 pm kp=>?_)
 have vi:IntsAre vs (vs.map intOf):=zrP fun v hv=>by
  obtain ⟨e,he,rfl⟩:=yaf.mp (pm.mem_iff.mp hv)
  obtain ⟨⟨k,hk,_⟩,_⟩:=hel e he
  obtain ⟨t,e2⟩:=Value.isInt_shape (show Value.isInt k e.2=true from hk)
  exact ⟨k,t,e2⟩
 have vp:(vs.map intOf).Perm (es.toList.map fun e=>intOf e.2):=by
  have:=pm.map intOf
  rwa [ybn] at this
 have vl:vs.length<64:=by rw[pm.length_eq];simpa using lz
 have sl:vs.length<=sizeLine:=by rw[sizeLine_eq];ac_rfl
 refine wpAny_bind (wpAny_newList ?_ (by first | exact sl | simpa using sl))
 have g0:(h1.push (seqObj "list" vs.toArray 0)).get? h1.objs.size=some (seqObj "list" vs.toArray 0):=ydv _ rfl
 have ol:s.heap.get? h1.objs.size=none:=by
  cases q:s.heap.get? h1.objs.size with
  | none=>rfl
  | some u=>exact absurd (ydu (kp _ _ q)) (ydj _)
 show wpAny _ _ _ _ _ { s with heap:=h1.push (seqObj "list" vs.toArray 0),drawn:=d1,toks:=tk1 }
 refine wpAny_bind (wpAny_holding (wpAny_call_entry slot_list_sort ⟨_,g0,rfl⟩ entry_list_sort (list_sort_tree g0 vi vl fun out ns' a1 a2 a3=>⟨_,rfl,?_⟩) (args_list_sort _)))
 obtain ⟨n,g1⟩:=sortedHeap_at (out:=out) g0
 refine wpAny_pure ⟨_,rfl,h _ _ _ out ns' h1.objs.size n a1 (a2.trans vp) a3 (fun b u e=>?_) ol g1⟩
 have e1:=kp b u e
 have lt:=ydu e1
 rw[sortedHeap_old (ydd lt) (by rw[size_push'];exact ydm lt)]
 exact ydt _ e1
end
end zat
noncomputable def zmS (P:Program) (w:World) (a:Addr) (ms:List Int):HO:=.ext fun h=>zat.zaH P w h a ms
theorem zat.zaH.obj {P:Program} {w:World} {h:Heap} {a:Addr} {ms:List Int} (S:zat.zaH P w h a ms):∃ o,h.get? a=some o:=let ⟨⟨o,_,_,_,⟨e,_⟩,_⟩,_⟩:=S;⟨o,e⟩
section
variable {X:Cx} {pins:List (Addr × Obj)} {σ:St} {H:Hp} {s:Shared}
theorem Inv.drew (I:Inv X pins σ H s) (d:Drawn):Inv X pins σ H { s with drawn:=d }:=⟨I.ok,I.os,I.bare,I.base,I.loc,I.cell,I.free,I.freeC,I.pin,I.hok,I.len⟩
theorem zcC (hc:X.calm=true):zbC X (.type "set") (fun xs H Q=>∃ (l:Addr) (ns:List Int),xs=[.ref l]/\SqL X.K H l (ns.map V.int)/\ns.length<4000 /\
  ∀ (p:Addr) (H':Hp) (ms:List Int),H p=none->Same H H'->H' p=some (zmS X.prog X.w p ms)->ms.Nodup->(∀ m,m∈ms↔m∈ns)->ms.length<=ns.length->Q (.ref p) H'):=by
 intro pins s σ H xs us Q I r h
 obtain ⟨l,ns,rfl,hq,hl,q⟩:=h
 obtain ⟨u,rfl,rx⟩:=vals1 r
 cases rx
 obtain ⟨its,rv,pl,hz⟩:=I.list hq
 have len:its.length=ns.length:=by rw[<-rv.length,yab]
 refine zat.zqN (I.ok.hd hc) pl.isList (by simpa using zdV rv) (by show its.toArray.size+1<4096;simp;ac_rfl) fun h' tk ms S mm lm kp=>?_
 have k:∀ b o,s.heap.get? b=some o->h'.get? b=some o:=fun b o e=>kp b o (ydu e) e
 refine ⟨.ref s.heap.objs.size,_,I.laid (o:=zmS X.prog X.w s.heap.objs.size ms) k (ydc _) ⟨S,S.obj,fun h1 h2 p e=>p.keep e⟩,rfl,q _ _ ms (I.hok.fresh (ydc _)) (zc (I.hok.fresh (ydc _)) _) zf S.nd mm lm⟩
theorem zcy (hc:X.calm=true) (hex:X.ex=[]:=by rfl):zbC X (.builtin "sorted") (fun xs H Q=>∃ (p:Addr) (ms:List Int),xs=[.ref p]/\H p=some (zmS X.prog X.w p ms)/\ms.length<64 /\
  ∀ (l:Addr) (H':Hp) (ns:List Int),H l=none->Same H H'->H' l=some (.lst (ns.map V.int))->ns.Perm ms->ns.Pairwise (·<=·)->Q (.ref l) H'):=by
 intro pins s σ H xs us Q I r h
 obtain ⟨p,ms,rfl,hp,hl,q⟩:=h
 obtain ⟨u,rfl,rx⟩:=vals1 r
 cases rx
 refine zat.zsF (I.ok.hd hc) (I.hok p _ hp).1 hl fun h' d' tk out ns l n a1 a2 a3 kp new at_=>?_
 have vl:Vals (ns.map V.int) out.toList:=zkN a1
 have nl:(ns.map V.int).length<=sizeLine:=by rw[yab,a2.length_eq,sizeLine_eq];ac_rfl
 have I1:Inv X pins σ (upd H l (.lst (ns.map V.int))) { s with heap:=h',toks:=tk }:=I.zqk kp new hex ⟨nl,out.toList,n,vl,by simpa [seqObj] using at_⟩
 exact ⟨.ref l,_,I1.drew d',rfl,q l _ ns (I.hok.gone new) (zc (I.hok.gone new) _) zf a2 a3⟩
end
theorem zht {ns ms:List Int} (p:ns.Perm ms) (nd:ms.Nodup) (o:ns.Pairwise (·<=·)):ns.Pairwise (·<·):=by
 have n:=p.nodup_iff.mpr nd
 refine (o.and n).imp fun {a b} h=>?_
 have:=h.1
 have:=h.2
 ac_rfl
section
variable {X:Cx} {pins:List (Addr × Obj)} {σ:St} {H:Hp} {s:Shared} {h':Heap}
end
theorem zdK {K:W.Frag} {ix:List Nat} {te:TE} {σ:St} {a l:Addr} {xs:List V} {H:Hp} {R:Hp->Prop} (P:Nat->V->Prop) (ha:SqL K H a xs) (hl:H l=none) (hz:xs.length<=sizeLine)
  (hel:∀ i x H' Q',xs[i]?=some x->Same H H'->(∀ v,P i v->Q' v H')->te (some x::capts σ ix) H' Q') (fin:∀ ys:List V,ys.length=xs.length->(∀ j v,ys[j]?=some v->P j v)->R (upd H l (.lst ys))) :
  ∃ W:Nat->Nat->List V->Hp->Prop,(∃ m,W 0 m [] (upd H l (.lst [])))/\Turns ix te σ (Itl K a) l R W:=by
 refine ⟨fun i m ys H'=>m=xs.length-i/\i<=xs.length/\ys.length=i/\(∀ j v,ys[j]?=some v->P j v)/\H'=upd H l (.lst ys),⟨xs.length,by simp,ydf _,rfl,(fun j v e=>by simp at e),rfl⟩,?_⟩
 rintro i m ys H' ⟨rfl,hi,hx,hp,rfl⟩
 have hT:SqL K (upd H l (.lst ys)) a xs:=(zc hl _).seq ha
 refine ⟨zf,?_⟩
 by_cases hlt:i<xs.length
 ·have ex:xs[i]?=some xs[i]:=yaa hlt
  refine .inr ⟨⟨xs,_,hT,ex⟩,by ac_rfl,fun x H2 y=>?_⟩
  obtain ⟨e,y⟩:=y
  subst e
  have e2:=y xs hT
  refine hel i x _ _ e2 (zc hl _) fun v hv=>⟨zf,xs.length-(i+1),by ac_rfl,rfl,hlt,by rw[yad,hx];rfl,fun j w e=>?_,by rw[zX]⟩
  by_cases hj:j<ys.length
  ·rw[ybs hj] at e
   exact hp j w e
  ·by_cases hj2:j=ys.length
   ·subst hj2
    rw[ybk (ydc _),ydr] at e
    cases e
    rw[hx]
    exact hv
   ·rw[yas (by rw[yad,ybv];ac_rfl)] at e
    cases e
 ·exact .inl ⟨⟨xs,hT,by ac_rfl⟩,fin ys (by ac_rfl) hp⟩
theorem zaK {X:Cx} (K:W.Frag) (h:X.K=K:=by rfl):IxR X (zwA K):=by subst h;exact zap
theorem zeu {X:Cx} (K:W.Frag) (h:X.K=K:=by rfl):IxR X (zwI K):=by subst h;exact zag
inductive zy (K:W.Frag) (H:Hp):List V->List (Int × Int)->Prop
 | nil:zy K H [] []
 | cons {p:Addr} {s:Int × Int} {xs:List V} {l:List (Int × Int)}:H p=some (.tup [.int s.1,.int s.2])->zy K H xs l->zy K H (.ref p::xs) (s::l)
section
variable {K:W.Frag} {H H':Hp} {xs ys zs:List V} {l:List (Int × Int)} {p:Addr} {s:Int × Int}
theorem zy.get (r:zy K H xs l):∀ {i:Nat} {x:V},xs[i]?=some x->∃ p s,x=.ref p/\l[i]?=some s/\H p=some (.tup [.int s.1,.int s.2]):=by
 induction r with
 | nil=>intro i x e;simp at e
 | cons h _ ih =>
  intro i x e
  cases i with
  | zero=>cases e;exact ⟨_,_,rfl,rfl,h⟩
  | succ i=>exact ih e
theorem zy.length (r:zy K H xs l):xs.length=l.length:=by
 induction r with
 | nil=>rfl
 | cons _ _ ih=>simp[ih]
theorem zy.same (r:zy K H xs l) (s:Same H H'):zy K H' xs l:=by
 induction r with
 | nil=>exact .nil
 | cons h _ ih=>exact .cons (s _ _ h) ih
theorem zy.put (r:zy K H xs l) (hp:H p=some (.lst ys)):zy K (upd H p (.lst zs)) xs l:=by
 induction r with
 | nil=>exact .nil
 | cons h _ ih=>exact .cons (by rw[zx (zaW h hp (by intro z;cases z))];exact h) ih
theorem zy.push (r:zy K H xs l) (h:H p=some (.tup [.int s.1,.int s.2])):zy K H (xs++[.ref p]) (l++[s]):=by
 induction r with
 | nil=>exact .cons h .nil
 | cons h' _ ih=>exact .cons h' ih
noncomputable def zil (s:Int × Int):PyData:=.tuple [.int s.1,.int s.2]
theorem zy.rd (r:zy K H xs l):zc2 K H xs (l.map zil):=by
 induction r with
 | nil=>exact .nil
 | cons h _ ih=>exact .cons (.tup (SqT.of h) (.cons (.int _) (.cons (.int _) .nil))) ih
end
theorem zly:∀ l:List (Int × Int),PyData.canLayAll0 (l.map zil)=true
 | []=>by simp[PyData.canLayAll0]
 | s::l=>by simp[PyData.canLayAll0,PyData.canLay0,zil,zly l]
theorem zmv:∀ l:List (Int × Int),PyData.depthAll (l.map zil)<=1
 | []=>by simp[PyData.depthAll]
 | s::l=>by
  have:=zmv l
  simp[PyData.depthAll,PyData.depth,zil]
  ac_rfl
theorem zlz (l:List (Int × Int)):SeqAt.shaped (.list (l.map zil))=true:=by
 have:=zmv l
 simp[SeqAt.shaped,PyData.canLay0,PyData.depth,zly]
 ac_rfl
theorem zgr {ys:List V} {ns:List Int} (h:ys.length=ns.length) (p:∀ j v,ys[j]?=some v->v=V.int (ns.getD j 0)):ys=ns.map V.int:=by
 apply ycf
 intro j
 rw[yaj]
 by_cases hj:j<ys.length
 ·have e:=yaa (l:=ys) hj
  rw[e,p j _ e,yaa (by ac_rfl:j<ns.length)]
  simp[show j<ns.length by ac_rfl]
 ·rw[yas (by ac_rfl),yas (by ac_rfl)]
  rfl
structure ziN (J:It) (H:Hp) (xs:List V):Prop where
 go:∀ i H',Same H H'->i<xs.length->J.go i H'
 yld:∀ i H' x H2,Same H H'->J.yld i H' x H2->H2=H'/\xs[i]?=some x
 stop:∀ i H',Same H H'->xs.length<=i->J.stop i H'
theorem zaw {K:W.Frag} {H:Hp} {a:Addr} {xs:List V} (h:SqL K H a xs):ziN (Itl K a) H xs :=
 ⟨fun i H' s hi=>⟨xs,_,s.seq h,yaa hi⟩,fun i H' x H2 s y=>⟨y.1,y.2 xs (s.seq h)⟩,fun i H' s hi=>⟨xs,s.seq h,hi⟩⟩
theorem zo2 {J:It} {ix:List Nat} {te:TE} {σ:St} {l:Addr} {xs:List V} {H:Hp} {R:Hp->Prop} (Y:ziN J H xs) (hl:H l=none) (hz:xs.length<=sizeLine) (P:Nat->V->Hp->Prop)
  (mono:∀ i v H1 H2,Same H1 H2->P i v H1->P i v H2) (put:∀ i v H1 ys zs,H1 l=some (.lst ys)->P i v H1->P i v (upd H1 l (.lst zs)))
  (hel:∀ i x H' Q',xs[i]?=some x->Same H H'->(∀ v H2,Same H' H2->P i v H2->Q' v H2)->te (some x::capts σ ix) H' Q')
  (fin:∀ ys H',Same H H'->H' l=some (.lst ys)->ys.length=xs.length->(∀ j v,ys[j]?=some v->P j v H')->R H') :
  ∃ W:Nat->Nat->List V->Hp->Prop,(∃ m,W 0 m [] (upd H l (.lst [])))/\Turns ix te σ J l R W:=by
 refine ⟨fun i m ys H'=>m=xs.length-i/\i<=xs.length/\ys.length=i/\(∀ j v,ys[j]?=some v->P j v H')/\Same H H'/\H' l=some (.lst ys),⟨xs.length,by simp,ydf _,rfl,(fun j v e=>by simp at e),zc hl _,zf⟩,?_⟩
 rintro i m ys H' ⟨rfl,hi,hx,hp,sH,hL⟩
 refine ⟨hL,?_⟩
 by_cases hlt:i<xs.length
 ·refine .inr ⟨Y.go i H' sH hlt,by ac_rfl,fun x H2 y=>?_⟩
  obtain ⟨rfl,e2⟩:=Y.yld i H' x H2 sH y
  refine hel i x _ _ e2 sH fun v H3 s3 hv=>⟨s3 _ _ hL,xs.length-(i+1),by ac_rfl,rfl,hlt,by rw[yad,hx];rfl,fun j w e=>?_,zN (sH.trans s3) hl,zf⟩
  by_cases hj:j<ys.length
  ·rw[ybs hj] at e
   exact put _ _ _ _ _ (s3 _ _ hL) (mono _ _ _ _ s3 (hp j w e))
  ·by_cases hj2:j=ys.length
   ·subst hj2
    rw[ybk (ydc _),ydr] at e
    cases e
    rw[hx]
    exact put _ _ _ _ _ (s3 _ _ hL) hv
   ·rw[yas (by rw[yad,ybv];ac_rfl)] at e
    cases e
 ·exact .inl ⟨Y.stop i H' sH (by ac_rfl),fin ys H' sH hL (by ac_rfl) hp⟩
theorem ztB {J:It} {ix:List Nat} {tt:TT} {te:TE} {σ:St} {l:Addr} {xs:List V} {H:Hp} {R:Hp->Prop} (Y:ziN J H xs) (hl:H l=none) (hz:xs.length<=sizeLine) (pk:List (Bool × V)) (len:pk.length=xs.length)
  (ht:∀ (i:Nat) x b v H' Q',xs[i]?=some x->pk[i]?=some (b,v)->Same H H'->Q' b H'->tt (some x::capts σ ix) H' Q')
  (he:∀ (i:Nat) x b v H' Q',xs[i]?=some x->pk[i]?=some (b,v)->Same H H'->Q' v H'->te (some x::capts σ ix) H' Q')
  (fin:R (upd H l (.lst ((pk.filter (·.1)).map (·.2))))) :
  ∃ W:Nat->Nat->List V->Hp->Prop,(∃ m,W 0 m [] (upd H l (.lst [])))/\zgm ix tt te σ J l R W:=by
 refine ⟨fun i m ys H'=>m=xs.length-i/\i<=xs.length/\ys=((pk.take i).filter (·.1)).map (·.2)/\H'=upd H l (.lst ys),⟨xs.length,by simp,ydf _,rfl,rfl⟩,?_⟩
 rintro i m ys H' ⟨rfl,hi,hy,rfl⟩
 refine ⟨zf,?_⟩
 by_cases hlt:i<xs.length
 ·have yl:ys.length<=i:=by
   rw[hy,yab]
   exact ydh (yav _ _) (by rw[yaq];ac_rfl)
  have eP:pk[i]?=some (pk[i]'(by ac_rfl)):=yaa (by ac_rfl)
  generalize pk[i]'(by ac_rfl)=bv at eP
  obtain ⟨b,v⟩:=bv
  have tk:pk.take (i+1)=pk.take i++[(b,v)]:=by rw[ybe,eP];rfl
  refine .inr ⟨Y.go i _ (zc hl _) hlt,by ac_rfl,fun x H2 y=>?_⟩
  obtain ⟨rfl,e2⟩:=Y.yld i _ x H2 (zc hl _) y
  refine ht i x b v _ _ e2 eP (zc hl _) ?_
  cases b with
  | true =>
   rw[if_pos rfl]
   refine he i x _ v _ _ e2 eP (zc hl _) ⟨zf,xs.length-(i+1),by ac_rfl,rfl,hlt,?_,by rw[zX]⟩
   rw[tk,ybc,yan,<-hy]
   rfl
  | false =>
   rw[if_neg Bool.false_ne_true]
   refine ⟨xs.length-(i+1),by ac_rfl,rfl,hlt,?_,rfl⟩
   rw[tk,ybc,yan,<-hy]
   simp
 ·rw[yaw (by ac_rfl)] at hy
  subst hy
  exact .inl ⟨Y.stop i _ (zc hl _) (by ac_rfl),fin⟩
theorem zts {α:Type} (l:List α) (p:α->Bool) (f:α->Int):(((l.map fun x=>(p x,V.int (f x))).filter (·.1)).map (·.2))=((l.filter p).map f).map V.int:=by
 induction l with
 | nil=>rfl
 | cons a l ih =>
  rw[ybb,ycw,ycw]
  cases h:p a with
  | true=>simp only[h,if_true,ybb,ih]
  | false=>simp only[h,Bool.false_eq_true,if_false,ih]
theorem zrJ (n d k:Nat):HT.sIx n d (some (k:Int))=min k n:=by
 show (if (k:Int)<0 then ((k:Int)+(n:Int)).toNat else min (k:Int).toNat n)=min k n
 rw[if_neg (by ac_rfl)]
 rfl
theorem zrY (xs:List V) (k:Nat):zkJ xs (some (k:Int)) none=xs.drop k:=by
 unfold zkJ
 rw[zrJ,show HT.sIx xs.length xs.length none=xs.length from rfl]
 by_cases h:k<=xs.length
 ·rw[Nat.min_eq_left h,yaw (by rw[ybt];exact ydc _)]
 ·rw[Nat.min_eq_right (by ac_rfl),List.drop_of_length_le (ydc _),List.drop_of_length_le (by ac_rfl),List.take_nil]
theorem zrQ (xs:List V) (k:Nat):zkJ xs none (some (k:Int))=xs.take k:=by
 unfold zkJ
 rw[zrJ,show HT.sIx xs.length 0 none=0 from rfl,List.drop_zero,Nat.sub_zero]
 by_cases h:k<=xs.length
 ·rw[Nat.min_eq_left h]
 ·rw[Nat.min_eq_right (by ac_rfl),yaw (ydc _),yaw (by ac_rfl)]
theorem zno {K:W.Frag} {H:Hp}:∀ {ys:List V} {l:List (Int × Int)},ys.length=l.length->(∀ (j:Nat) v s,ys[j]?=some v->l[j]?=some s->∃ p,v=.ref p/\H p=some (.tup [.int s.1,.int s.2]))->zy K H ys l
 | [],[],_,_=>.nil
 | y::ys,s::l,e,h=>by
  obtain ⟨p,rfl,hp⟩:=h 0 y s rfl rfl
  exact .cons hp (zno (by simpa using e) fun j v u h1 h2=>h (j+1) v u h1 h2)
 | [],_::_,e,_=>by simp at e
 | _::_,[],e,_=>by simp at e
end L2
namespace L2
open PySem
end L2
namespace L2
open PySem PySem.Spec PyProof.Rows
section
variable {X:Cx} {pins:List (Addr × Obj)} {σ:St} {H:Hp} {s:Shared} {sc:Scope} {x:Str} {ix:List Nat} {fp:List Addr} {elt iter c:Expr} {te:TE} {tt:TT} {wi:TI} {px pos:Pos}
theorem zkE {y:Str} {i:Nat} {py spos:Pos} (hN:X.N.Nodup) (hiy:X.N[i]?=some y) (hy:X.env.scope.names.lookup y=some .local) (O:zfq X sc x ix) (hi:PI X (.Name x px) iter wi) (htt:∀ b,PT (X.block sc x ix b) c tt) (hel:∀ b,PE (X.block sc x ix b) elt te)
  (hc:X.calm=true:=by rfl) (hs:∀ v,foldedSetIterable iter X.env v=pure v:=by intro _;rfl) (hsw:swapsWith (.ListComp elt [⟨.Name x px,iter,[c],0⟩] sc pos) (some (.Name y py)) spos.line X.env=pure true:=by rfl) :
  PS X (.Assign [.Name y py] (.ListComp elt [⟨.Name x px,iter,[c],0⟩] sc pos) spos) (zsi (zr6 ix wi tt te) (zho i)):=by
 intro pins s σ H D I h
 rw[exec_Assign_Name_used _ _ _ _ hsw]
 refine wpAny_bind (wpAny_standAt (wpAny_bind ?_))
 show wpAny _ X.A (do let _ <-comprehension (.ListComp elt [⟨.Name x px,iter,[c],0⟩] sc pos) sc X.env _ (newList []) false (eval iter X.env) (some (assign (.Name y py) X.env))) _ _ s
 refine wpAny_bind (wpAny_mono (wpAny_comprehension_free (use:=some (assign (.Name y py) X.env)) (Q:=fun _ s'=>SP X pins D .next s') rfl hs O.clos O.kind O.names
  (thn (hi pins s σ H _ I h) fun xv s1 h1=>thn h1 fun itv s2 h2=>?_)) (fun _ s' hq=>wpAny_pure (wpAny_pure hq)) fun _ _ e=>e)
 obtain ⟨it,fp,tn,J,H2,e,I2,T,st2,f2,hq⟩:=h2
 subst e
 refine zlu O htt hel hc I2 T st2 f2 (fun l H'=>D.nx (σ.set i (some (.ref l))) H') hq ?_
 intro l C m s' H' I' hn hf r
 obtain ⟨o,es,ep,ho,hd,hr⟩:=id hn
 have Ip:=I'.addpin ho hf.1 hf.2.1 hf.2.2.1 (by intro v z;rw[hd] at z;cases z)
 refine thn ((zac (i:=i) hN hiy (Or.inl hy) (Or.inr hy):PG X (.Name y py) (zho i)) _ s' σ H' (.ref l) (.ref l) (fun σ' H''=>σ'=σ.set i (some (.ref l))/\H''=H') Ip rfl ⟨rfl,rfl⟩) fun _ s'' ⟨σ'',H'',I'',e1,e2⟩=>?_
 subst e1 e2
 have pc:=(I''.pin (C,o) (yai _ (yai _ yam))).1
 refine ⟨m,⟨o,es,ep,pc,hd,hr⟩,fun h' hb=>⟨_,_,?_,r⟩⟩
 exact I''.unpinned.turned (t':=s''.toks) (fun b o hne e=>hb.extBut b o hne e) hf.1 hf.2.1 hf.2.2.2.1 hf.2.2.2.2.1 hf.2.2.2.2.2
end
structure Mk0 (K:W.Frag) (C:Addr):Prop where
 makes:PySem.W.makesIn K C=true
 init:PySem.W.findIn K (.ref C) "__init__" = some (some (.builtin "object.__init__"))
 kp:PySem.W.keepIn K (.ref C)=true
def zxu (C:Addr):TE:=fun _ H Q=>∀ x dx,H x=none->H dx=none->dx≠x->Q (.ref x) (upd (upd H dx (.own x)) x (.ins C dx []))
section
variable {X:Cx} {C:Addr} {x m:Str} {p pos apos:Pos} {e o:Expr} {es:List Expr} {ta:TE} {t:TA} {j k:Nat} {ps:List Str}
theorem zkQ (M:Mk0 X.K C) (hm:X.mg x=some (.ref C)) (hg:Gl X x:=by rfl) (hdb:(x == ("__debug__" : Str))=false:=by decide):PE X (.Call (.Name x p) [] [] pos) (zxu C):=by
 intro pins s σ H Q I h
 refine wpAny_Call_Name_kw (zk0 I hg hm ?_ hdb)
 refine PySem.W.callWith_K0 I.kIn M.kp ?_
 have hq:=h (s.heap.objs.size+1) s.heap.objs.size (I.hok.fresh (ydo _)) (I.hok.fresh (ydc _)) (ydd (ydi _))
 have I2:=Inv.made (C:=C) I
 have Y:=PySem.W.makes_of (M:=model X.prog X.w) I.kIn M.makes
 have e2:((s.heap.push PySem.W.emptyDict).push (PySem.W.instObj C s.heap.objs.size)).get? (s.heap.objs.size+1)=some (PySem.W.instObj C s.heap.objs.size):=by
  have:=ydv (s.heap.push PySem.W.emptyDict) (o:=PySem.W.instObj C s.heap.objs.size) rfl
  rwa [ydx] at this
 refine wpAny_call (zs1 I.kIn M.makes M.init (fun self=>PySem.W.Looks.of_pure (PySem.W.oi_bind self)) ?_)
 have t1:PySem.W.Looks (model X.prog X.w) ((s.heap.push PySem.W.emptyDict).push (PySem.W.instObj C s.heap.objs.size)) (typeOf (.ref (s.heap.objs.size+1))) (.ref C):=(PySem.W.Looks.ld e2).andThen .now
 have t2:PySem.W.Looks (model X.prog X.w) ((s.heap.push PySem.W.emptyDict).push (PySem.W.instObj C s.heap.objs.size)) (isInstance (.ref (s.heap.objs.size+1)) (.type "object")) true:=t1.andThen (Y.top.keeps fun b o e=>ydt _ (ydt _ e))
 refine codeAny_call_builtin PySem.W.oi_plain PySem.W.entry_oi (@PySem.W.check_slot (model X.prog X.w) _ _ _ "object.__init__" "object" "__init__" (.ref (s.heap.objs.size+1)) [] [] _ PySem.W.oi_kind PySem.W.oi_split t2 (PySem.W.oi_args (.ref (s.heap.objs.size+1))) ?_)
 rw[PySem.W.oi_run]
 exact wpAny_pure (And.intro rfl ⟨V.ref (s.heap.objs.size+1),_,I2,rfl,hq⟩)
inductive Kd where
 | plain | bank | thirty | exact
noncomputable def Kd.cls:Kd->Str
 | .plain => "Count"
 | .bank => "Bank"
 | .thirty => "Thirty"
 | .exact => "Exact"
def zb4 (K:W.Frag) (H:Hp) (a:Addr) (kd:Kd):Prop:=∃ dx,H a=some (.ins (cA K kd.cls) dx [])
theorem zb4.same {K:W.Frag} {H H':Hp} {a:Addr} {kd:Kd} (h:zb4 K H a kd) (s:Same H H'):zb4 K H' a kd:=let ⟨dx,e⟩:=h;⟨dx,s _ _ e⟩
structure zp (K:W.Frag) (C:Addr) (m qual:Str) (st:Stmt) (ps:List Str):Prop where
 ex:∃ (f:Addr) (fd:FuncData),Fun K m qual st f fd/\Meth K C m f/\∀ us:List Value,us.length=ps.length->bindArgs fd ⟨us,[]⟩=pure (ps.zip us)
structure zt (P:Program) (w:World) (K:W.Frag) (mg:Str->Option Value) (base:Heap) (k:Nat) (C:Addr) (m:Str) (ps:List Str) (sp:Sp):Prop where
 ex:∃ (f:Addr) (fd:FuncData),zco P w K mg base CX0 k f fd ps sp/\Meth K C m f/\∀ us:List Value,us.length=ps.length->bindArgs fd ⟨us,[]⟩=pure (ps.zip us)
theorem zp.ok {P:Program} {w:World} {K:W.Frag} {mg:Str->Option Value} {base:Heap} {C:Addr} {m qual:Str} {st:Stmt} {N ps:List Str} {k:Nat} {sp:Sp} (S:zp K C m qual st ps) (sc:zj N ps (zi st)) (len:∀ vs H Q E,sp vs H Q E->vs.length=ps.length)
  (hbody:∀ (f:Addr) (cdv:Value) (A:Around) (outer:List Env) (s:Shared) (H:Hp) (vs:List V) (Q:VK) (E:XK),Room k (A.deeper (envOfC qual (zi st) s.heap.objs.size f cdv))->sp vs H Q E ->
   ∃ t,PSs (zgU CX0 P w K mg base N qual (zi st) f cdv A outer s H E).nox (za6 st) t/\t { nx:=fun _ H'=>Q .non H',rt:=Q } (start N vs) H):zt P w K mg base (k+1) C m ps sp:=by
 obtain ⟨f,fd,F,hm,hb⟩:=S.ex
 exact ⟨f,fd,F.ok sc len (fun cdv=>hbody f cdv),hm,hb⟩
theorem zp.okF {P:Program} {w:World} {K:W.Frag} {mg:Str->Option Value} {base:Heap} {C:Addr} {m qual:Str} {st:Stmt} {N ps:List Str} {k:Nat} {sp:Sp} (S:zp K C m qual st ps) (sc:zj N ps (zi st)) (len:∀ vs H Q E,sp vs H Q E->vs.length=ps.length)
  (hbody:∀ (f:Addr) (cdv:Value) (A:Around) (outer:List Env) (s:Shared) (H:Hp) (vs:List V) (Q:VK) (E:XK),Room k (A.deeper (envOfC qual (zi st) s.heap.objs.size f cdv))->sp vs H Q E ->
   ∃ t,PSs (zgU CX0 P w K mg base N qual (zi st) f cdv A outer s H E).nox (za6 st) t/\t { nx:=fun _ H'=>Same H H'/\Q .non H,rt:=fun v H'=>Same H H'/\Q v H } (start N vs) H):zt P w K mg base (k+1) C m ps sp:=by
 obtain ⟨f,fd,F,hm,hb⟩:=S.ex
 have G:zco P w K mg base CX0 (k+1) f fd ps (fun vs H R E=>∃ Q,sp vs H Q E/\R=fun v H'=>Same H H'/\Q v H) :=
  F.ok sc (fun vs H R E ⟨Q,h,_⟩=>len vs H Q E h) fun cdv A outer s H vs R E hr ⟨Q,h,e⟩=>by
   subst e
   exact hbody f cdv A outer s H vs Q E hr h
 exact ⟨f,fd,G.forget fun vs H Q E h=>⟨Q,h,rfl⟩,hm,hb⟩
def zty (K:W.Frag) (sp:Kd->Sp) (ta:TE) (t:TA):TE:=fun σ H Q=>ta σ H fun x H1=>∃ (kd:Kd) (a:Addr),x=.ref a/\zb4 K H1 a kd/\t σ H1 fun vs H2=>sp kd (x::vs) H2 Q E0
theorem zlZ {pl:Sem Bool} {sp:Kd->Sp} (D:∀ kd:Kd,zt X.prog X.w X.K X.mg X.base j (cA X.K kd.cls) m ps (sp kd)) (hc:∀ kd:Kd,Cls X.K (cA X.K kd.cls)) (hr:Room k X.A) (he:PE X o ta) (ha:PA X (e::es) t) (hj:j<=k:=by decide)
  (hst:starEach (e::es) X.env=(false,eval e X.env)::starEach es X.env:=by rfl) (hpl:(backTo pos (starEach es X.env)).any (·.1)=false:=by rfl)
  (ht:eval (.Call (.Attribute o m apos) (e::es) [] pos) X.env=(do
   let ov <-eval o X.env
   standAt apos.atName
   let (f,first) <-holding [ov] (getMethod ov m pl)
   callWith pos f first (backTo pos (starEach (e::es) X.env)) (backToKw pos (keywordEach [] X.env))):=by rfl) :
  PE X (.Call (.Attribute o m apos) (e::es) [] pos) (zty X.K sp ta t):=by
 intro pins s σ H Q I h
 refine PySem.W.methodCall_KW (pl:=pl) (thn (he pins s σ H _ I h) fun u s1 ⟨x,H1,I1,rx,kd,a,ex,⟨dx,ea⟩,q⟩=>?_) ht
 subst ex
 obtain rfl:u=Value.ref a:=rx
 obtain ⟨f,fd,F,hm,hb⟩:=(D kd).ex
 refine zdT I1 ea (hc kd) hm rfl ?_
 refine PySem.W.callWith_K (first:=[.ref a]) (h₀:=X.base) I.ok.mod.kin hm.kp (thn (ha pos pins s1 σ H1 _ I1 q) fun us s2 ⟨vs,H2,I2,r,q2⟩=>⟨I2.kIn,?_⟩) hst hpl
 exact zhb (us:=.ref a::us) (vs:=.ref a::vs) (dvs:=[]) (ds:=[]) F (hr.mono hj) (.all hb) .nil zhG I2 (.cons rfl r) (by rw[ybl];exact q2)
theorem zdM {pl:Sem Bool} {sp:Kd->Sp} (D:∀ kd:Kd,zt X.prog X.w X.K X.mg X.base j (cA X.K kd.cls) m ps (sp kd)) (hc:∀ kd:Kd,Cls X.K (cA X.K kd.cls)) (hr:Room k X.A) (he:PE X o ta) (hj:j<=k:=by decide)
  (ht:eval (.Call (.Attribute o m apos) [] [] pos) X.env=(do
   let ov <-eval o X.env
   standAt apos.atName
   let (f,first) <-holding [ov] (getMethod ov m pl)
   callWith pos f first (backTo pos (starEach [] X.env)) (backToKw pos (keywordEach [] X.env))):=by rfl) :
  PE X (.Call (.Attribute o m apos) [] [] pos) (zty X.K sp ta znj):=by
 intro pins s σ H Q I h
 refine PySem.W.methodCall_KW (pl:=pl) (thn (he pins s σ H _ I h) fun u s1 ⟨x,H1,I1,rx,kd,a,ex,⟨dx,ea⟩,q⟩=>?_) ht
 subst ex
 obtain rfl:u=Value.ref a:=rx
 obtain ⟨f,fd,F,hm,hb⟩:=(D kd).ex
 refine zdT I1 ea (hc kd) hm rfl ?_
 exact PySem.W.callWith_K0 (first:=[.ref a]) I1.kIn hm.kp (zhb (us:=[.ref a]) (vs:=[.ref a]) (dvs:=[]) (ds:=[]) F (hr.mono hj) (.all hb) .nil zhG I1 (.cons rfl .nil) q)
end
section
variable {K:W.Frag} {x:Str} {C f:Addr}
theorem zbt (a:PySem.W.nsIn K mainGlobals x=some (some (.ref C))) (h1:PySem.W.plainGet K C Str.empty=true) (h2:PySem.W.hasDictIn K C=true) (h3:PySem.W.plainOver K C=true) (h4:PySem.W.findIn K (.ref C) "__setattr__" = some (some (.builtin "object.__setattr__"))):Cls K (cA K x):=by
 rw[zea a];exact ⟨h1,h2,h3,h4⟩
theorem zmw (a:PySem.W.nsIn K mainGlobals x=some (some (.ref C))) (h1:PySem.W.makesIn K C=true) (h2:PySem.W.findIn K (.ref C) "__init__" = some (some (.builtin "object.__init__"))) (h3:PySem.W.keepIn K (.ref C)=true):Mk0 K (cA K x):=by
 rw[zea a];exact ⟨h1,h2,h3⟩
theorem zA {m qual:Str} {st:Stmt} {ps:List Str} {oc:Value} {od an:Option Addr} {osl:Array (Option Value)} {kV doc pm cdv ct:Value} (a:PySem.W.nsIn K mainGlobals x=some (some (.ref C))) (hi:PySem.W.findIn K (.ref C) m=some (some (.ref f))) (hf:PySem.W.isFn K (.ref f)=true)
  (fk:PySem.W.keepIn K (.ref f)=true) (fl:K.lookup f=some ⟨oc,od,.func (PySem.W.fnOf m qual (zcM st) (za6 st) (zi st) .none kV doc pm an cdv ct),osl⟩) (fc:PySem.W.codeIn K cdv qual=true)
  (hb:∀ us:List Value,us.length=ps.length->bindArgs (PySem.W.fnOf m qual (zcM st) (za6 st) (zi st) .none kV doc pm an cdv ct) ⟨us,[]⟩=pure (ps.zip us)):zp K (cA K x) m qual st ps:=by
 rw[zea a];exact ⟨f,_,zpm fl fc fk,⟨hi,hf,fk⟩,hb⟩
end
end L2
namespace L2
open PySem
end L2
namespace L2
theorem zv3 {α:Type} {xs:List α} {v:α} (h:xs[xs.length-1]?=some v) (h0:0<xs.length):atI xs (-1)=some v:=by
 have e:ixN xs.length (-1)=some (xs.length-1):=by
  unfold ixN
  rw[if_neg (by decide),if_pos (by ac_rfl),show ((-1:Int)+(xs.length:Int)).toNat=xs.length-1 by ac_rfl]
 unfold atI
 rw[e]
 exact h
end L2
namespace L2
open PySem PySem.Spec PyProof.Rows
section
variable {X:Cx} {pins:List (Addr × Obj)} {σ:St} {H:Hp} {s:Shared} {sc:Scope} {x y0:Str} {ix:List Nat} {fp:List Addr}
end
section
variable {X:Cx} {pins:List (Addr × Obj)} {σ:St} {H:Hp} {s:Shared} {sc:Scope} {x y0:Str} {ix:List Nat} {fp:List Addr} {elt iter:Expr} {te:TE} {wi:TI} {px py0 pt0 pos:Pos} {kt0:Nat}
end
end L2
namespace SortT
open PySem PySem.W PyProof.Rows
noncomputable def okT {α:Type} (n:Nat) (lt:Nat->Nat->Bool):KasT α->(α->Prop)->Prop
 | .ret a,Q=>Q a
 | .ask i j k,Q=>(i<n/\j<n)/\okT n lt (k (lt i j)) Q
theorem zpC {α:Type} {n:Nat} {lt:Nat->Nat->Bool} {Q Q':α->Prop} (h:∀ a,Q a->Q' a):∀ (t:KasT α),okT n lt t Q->okT n lt t Q'
 | .ret a,q=>h a q
 | .ask i j k,q=>⟨q.1,zpC h _ q.2⟩
theorem zeL {α β:Type} {n:Nat} {lt:Nat->Nat->Bool} {f:α->KasT β} {Q:β->Prop}:∀ (t:KasT α),okT n lt t (fun a=>okT n lt (f a) Q)->okT n lt (t.bind f) Q
 | .ret a,q=>q
 | .ask i j k,q=>⟨q.1,zeL _ q.2⟩
theorem ztI {α:Type} {n:Nat} {lt:Nat->Nat->Bool} {s:Shared} {cmp:Nat->Nat->(Bool->Shared->Prop)->Shared->Prop} (hc:∀ i j C,i<n->j<n->C (lt i j) s->cmp i j C s) {Q:α->Prop} {R:α->Shared->Prop} (hR:∀ a,Q a->R a s):∀ (t:KasT α),okT n lt t Q->t.kasWp cmp R s
 | .ret a,q=>hR a q
 | .ask i j k,q=>hc i j _ q.1.1 q.1.2 (ztI hc hR _ q.2)
structure Ord (lt:Nat->Nat->Bool):Prop where
 irr:∀ i,lt i i=false
 asy:∀ i j,lt i j=true->lt j i=false
 neg:∀ i j k,lt i j=false->lt j k=false->lt i k=false
variable {N:Nat} {lt:Nat->Nat->Bool}
def In (N:Nat) (p:Array Nat):Prop:=p.size=N/\∀ i,i<N->p.getD i 0<N
def Up (lt:Nat->Nat->Bool) (p:Array Nat) (k:Nat):Prop:=∀ i j,i<=j->j<k->lt (p.getD j 0) (p.getD i 0)=false
def Dn (lt:Nat->Nat->Bool) (p:Array Nat) (k:Nat):Prop:=∀ i j,i<=j->j<k->lt (p.getD i 0) (p.getD j 0)=false
theorem ziK {p q:Array Nat} {i j:Nat} (h:p[i]?=q[j]?):p.getD i 0=q.getD j 0:=by
 rw[yen,yen,h]
theorem zcA {p:Array Nat} {i j k:Nat} (hj:j<=p.size):(kas_rev p i j).getD k 0=if i<=k/\k<j then p.getD (i+j-1-k) 0 else p.getD k 0:=by
 have e:=getElem?_mirror_all (xs:=p) (i:=i) hj k
 unfold kas_rev
 by_cases c:i<=k/\k<j
 ·rw[if_pos c] at e ⊢;exact ziK e
 ·rw[if_neg c] at e ⊢;exact ziK e
theorem zkO {p:Array Nat} {i j:Nat} (h:In N p) (hj:j<=N):In N (kas_rev p i j):=by
 refine ⟨by rw[kas_rev_size];exact h.1,fun k hk=>?_⟩
 rw[zcA (by rw[h.1];exact hj)]
 split
 ·exact h.2 _ (by ac_rfl)
 ·exact h.2 k hk
theorem Up.one {p:Array Nat} (O:Ord lt):Up lt p 1:=fun i j h1 h2=>by
 have:i=j:=by ac_rfl
 subst this
 exact O.irr _
theorem Up.next {p:Array Nat} {n:Nat} (O:Ord lt) (h:Up lt p n) (h1:1<=n) (c:lt (p.getD n 0) (p.getD (n-1) 0)=false):Up lt p (n+1):=fun i j h2 h3=>by
 by_cases e:j=n
 ·subst e
  by_cases e2:i=j
  ·subst e2;exact O.irr _
  ·exact O.neg _ _ _ c (h i (j-1) (by ac_rfl) (by ac_rfl))
 ·exact h i j h2 (by ac_rfl)
theorem zps (O:Ord lt) {p:Array Nat} (hp:In N p) {Q:Nat->Prop}:∀ (f n:Nat),1<=n->n+f<=N->Up lt p n->(∀ m,n<=m->m<=n+f->Up lt p m->(m=n+f\/lt (p.getD m 0) (p.getD (m-1) 0)=true)->Q m)->okT N lt (kas_asc p f n) Q
 | 0,n,h1,h2,up,hQ=>hQ n (ydc _) (ydc _) up (.inl rfl)
 | f+1,n,h1,h2,up,hQ=>by
  refine ⟨⟨hp.2 n (by ac_rfl),hp.2 (n-1) (by ac_rfl)⟩,?_⟩
  cases c:lt (p.getD n 0) (p.getD (n-1) 0) with
  | true=>exact hQ n (ydc _) (by ac_rfl) up (.inr c)
  | false=>exact zps O hp f (n+1) (by ac_rfl) (by ac_rfl) (up.next O h1 c) fun m a b u z=>hQ m (by ac_rfl) (by ac_rfl) u (by rcases z with z | z;exact .inl (by ac_rfl);exact .inr z)
theorem zjp (p:Array Nat) (i j:Nat):(kas_rev p i j).Perm p:=mirror_perm _ _ _ _
structure Des (lt:Nat->Nat->Bool) (p:Array Nat) (n q:Nat):Prop where
 hq:q+1<=n
 dn:Dn lt p n
 al:∀ i,n<=i+(q+1)->i<n->lt (p.getD i 0) (p.getD (n-1) 0)=false/\lt (p.getD (n-1) 0) (p.getD i 0)=false
theorem Des.alike {p:Array Nat} {n q:Nat} (O:Ord lt) (D:Des lt p n q) {i j:Nat} (h1:n<=i+(q+1)) (h2:i<n) (h3:n<=j+(q+1)) (h4:j<n):lt (p.getD i 0) (p.getD j 0)=false:=O.neg _ _ _ (D.al i h1 h2).1 (D.al j h3 h4).2
theorem Des.turn {p:Array Nat} {n q:Nat} (O:Ord lt) (D:Des lt p n q) (hn:n<=p.size):Dn lt (kas_rev p (n-(q+1)) n) n:=fun i j h1 h2=>by
 have:=D.hq
 rw[zcA hn,zcA hn]
 by_cases ci:n-(q+1)<=i/\i<n
 ·rw[if_pos ci,if_pos (show n-(q+1)<=j/\j<n by ac_rfl)]
  exact D.alike O (by ac_rfl) (by ac_rfl) (by ac_rfl) (by ac_rfl)
 ·rw[if_neg ci]
  by_cases cj:n-(q+1)<=j/\j<n
  ·rw[if_pos cj]
   exact D.dn _ _ (by ac_rfl) (by ac_rfl)
  ·rw[if_neg cj]
   exact D.dn i j h1 h2
theorem Des.fall {p:Array Nat} {n:Nat} (O:Ord lt) (dn:Dn lt p n) (h1:1<=n) (c:lt (p.getD (n-1) 0) (p.getD n 0)=false):Dn lt p (n+1):=fun i j h2 h3=>by
 by_cases e:j=n
 ·subst e
  by_cases e2:i=j
  ·subst e2;exact O.irr _
  ·exact O.neg _ _ _ (dn i (j-1) (by ac_rfl) (by ac_rfl)) c
 ·exact dn i j h2 (by ac_rfl)
theorem zk9 (O:Ord lt) {Q:Array Nat × Nat × Nat->Prop}:∀ (f:Nat) (p:Array Nat) (n q:Nat),In N p->n+f<=N->Des lt p n q->(∀ p' n' q',In N p'->p'.Perm p->n<=n'->n'<=n+f->Des lt p' n' q'->Q (p',n',q'))->okT N lt (kas_desc f p n q) Q
 | 0,p,n,q,hp,hn,D,hQ=>hQ p n q hp (Array.Perm.refl _) (ydc _) (ydc _) D
 | f+1,p,n,q,hp,hn,D,hQ=>by
  have hq:=D.hq
  refine ⟨⟨hp.2 n (by ac_rfl),hp.2 (n-1) (by ac_rfl)⟩,?_⟩
  cases c:lt (p.getD n 0) (p.getD (n-1) 0) with
  | true =>
   have c':=O.asy _ _ c
   show okT N lt (if q > 0 then _ else _) Q
   by_cases q0:q > 0
   ·rw[if_pos q0]
    have hs:n<=p.size:=by rw[hp.1];ac_rfl
    have dn:Dn lt (kas_rev p (n-(q+1)) n) (n+1):=by
     refine Des.fall O (D.turn O hs) (by ac_rfl) ?_
     rw[zcA hs,zcA hs,if_pos (by ac_rfl),if_neg (by ac_rfl)]
     exact O.neg _ _ _ (D.alike O (by ac_rfl) (by ac_rfl) (by ac_rfl) (by ac_rfl)) c'
    refine zk9 O f _ (n+1) 0 (zkO hp (by ac_rfl)) (by ac_rfl) ⟨by ac_rfl,dn,fun i a b=>?_⟩ fun p' n' q' a b c d e=>hQ p' n' q' a (b.trans (zjp _ _ _)) (by ac_rfl) (by ac_rfl) e
    have:i=n:=by ac_rfl
    subst this
    exact ⟨O.irr _,O.irr _⟩
   ·rw[if_neg q0]
    refine zk9 O f _ (n+1) 0 hp (by ac_rfl) ⟨by ac_rfl,Des.fall O D.dn (by ac_rfl) c',fun i a b=>?_⟩ fun p' n' q' a b c d e=>hQ p' n' q' a b (by ac_rfl) (by ac_rfl) e
    have:i=n:=by ac_rfl
    subst this
    exact ⟨O.irr _,O.irr _⟩
  | false =>
   refine ⟨⟨hp.2 (n-1) (by ac_rfl),hp.2 n (by ac_rfl)⟩,?_⟩
   cases d:lt (p.getD (n-1) 0) (p.getD n 0) with
   | true=>exact hQ p n q hp (Array.Perm.refl _) (ydc _) (by ac_rfl) D
   | false =>
    refine zk9 O f _ (n+1) (q+1) hp (by ac_rfl) ⟨by ac_rfl,Des.fall O D.dn (by ac_rfl) d,fun i a b=>?_⟩ fun p' n' q' a b c d e=>hQ p' n' q' a b (by ac_rfl) (by ac_rfl) e
    show lt (p.getD i 0) (p.getD n 0)=false/\lt (p.getD n 0) (p.getD i 0)=false
    by_cases e:i=n
    ·subst e
     exact ⟨O.irr _,O.irr _⟩
    ·have al:=D.al i (by ac_rfl) (by ac_rfl)
     exact ⟨O.neg _ _ _ al.1 d,O.neg _ _ _ c al.2⟩
theorem Dn.up {p:Array Nat} {n:Nat} (dn:Dn lt p n) (hn:n<=p.size):Up lt (kas_rev p 0 n) n:=fun i j h1 h2=>by
 rw[zcA hn,zcA hn,if_pos (by ac_rfl),if_pos (by ac_rfl)]
 exact dn _ _ (by ac_rfl) (by ac_rfl)
abbrev Good (N:Nat) (lt:Nat->Nat->Bool) (p0:Array Nat) (r:Nat × Array Nat):Prop:=In N r.2/\r.2.Perm p0/\1<=r.1/\r.1<=N/\Up lt r.2 r.1
theorem zqA (O:Ord lt) {p p0:Array Nat} {n:Nat} (hp:In N p) (pe:p.Perm p0) (h1:1<=n) (hn:n<=N) (dn:Dn lt p n):okT N lt (kas_tail3 n N p) (Good N lt p0):=by
 have hs:n<=p.size:=by rw[hp.1];ac_rfl
 refine zeL _ (zps O (zkO hp hn) (N-n) n h1 (by ac_rfl) (dn.up hs) fun m a b u _=>?_)
 exact ⟨zkO hp hn,(zjp _ _ _).trans pe,by show 1<=m;ac_rfl,by show m<=N;ac_rfl,u⟩
theorem zls (O:Ord lt) {p p0:Array Nat} {n:Nat} (hp:In N p) (pe:p.Perm p0) (h1:1<=n) (hn:n+1<=N) (dn:Dn lt p (n+1)):okT N lt (kas_descPart n N p) (Good N lt p0):=by
 refine zeL _ (zk9 O (N-(n+1)) p (n+1) 0 hp (by ac_rfl) ⟨by ac_rfl,dn,fun i a b=>?_⟩ fun p' n' q' a b c d D=>?_)
 ·have:i=n:=by ac_rfl
  subst this
  exact ⟨O.irr _,O.irr _⟩
 ·show okT N lt (if q' > 0 then kas_tail3 n' N (kas_rev p' (n'-(q'+1)) n') else kas_tail3 n' N p') _
  have hs:n'<=p'.size:=by rw[a.1];ac_rfl
  by_cases q0:q' > 0
  ·rw[if_pos q0]
   exact zqA O (zkO a (by ac_rfl)) ((zjp _ _ _).trans (b.trans pe)) (by ac_rfl) (by ac_rfl) (D.turn O hs)
  ·rw[if_neg q0]
   exact zqA O a (b.trans pe) (by ac_rfl) (by ac_rfl) D.dn
theorem zu3 (O:Ord lt) {p:Array Nat} (hp:In N p) (h1:1<=N):okT N lt (kas_count N p) (Good N lt p):=by
 refine zeL _ (zps O hp (N-1) 1 (ydc _) (by ac_rfl) (Up.one O) fun n a b u z=>?_)
 show okT N lt (if (n == N)=true then _ else _) _
 by_cases e:n=N
 ·rw[if_pos (by rw[e];exact beq_self_eq_true N)]
  exact ⟨hp,Array.Perm.refl _,by show 1<=n;ac_rfl,by show n<=N;ac_rfl,u⟩
 ·rw[if_neg (by rw[beq_iff_eq];exact e)]
  have c:lt (p.getD n 0) (p.getD (n-1) 0)=true:=by rcases z with z | z;ac_rfl;exact z
  have c':=O.asy _ _ c
  by_cases g:n > 1
  ·rw[if_pos g]
   refine ⟨⟨hp.2 0 (by ac_rfl),hp.2 (n-1) (by ac_rfl)⟩,?_⟩
   cases d:lt (p.getD 0 0) (p.getD (n-1) 0) with
   | true=>exact ⟨hp,Array.Perm.refl _,by show 1<=n;ac_rfl,by show n<=N;ac_rfl,u⟩
   | false =>
    have hs:n<=p.size:=by rw[hp.1];ac_rfl
    have al:∀ i j,i<n->j<n->lt (p.getD i 0) (p.getD j 0)=false:=fun i j hi hj=>O.neg _ _ _ (u 0 i (ydf _) hi) (O.neg _ _ _ d (u j (n-1) (by ac_rfl) (by ac_rfl)))
    refine zls O (zkO hp (by ac_rfl)) (zjp _ _ _) (by ac_rfl) (by ac_rfl) (Des.fall O (fun i j h2 h3=>?_) (by ac_rfl) ?_)
    ·rw[zcA hs,zcA hs,if_pos (by ac_rfl),if_pos (by ac_rfl)]
     exact al _ _ (by ac_rfl) (by ac_rfl)
    ·rw[zcA hs,zcA hs,if_pos (by ac_rfl),if_neg (by ac_rfl)]
     exact O.neg _ _ _ (al _ (n-1) (by ac_rfl) (by ac_rfl)) c'
  ·rw[if_neg g]
   have e1:n=1:=by ac_rfl
   subst e1
   refine zls O hp (Array.Perm.refl _) (ydc _) (by ac_rfl) (Des.fall O (fun i j h2 h3=>?_) (ydc _) c')
   have:i=j:=by ac_rfl
   subst this
   exact O.irr _
theorem zl8 (O:Ord lt) {p:Array Nat} (hp:In N p) {k:Nat} (hk:k<N) (u:Up lt p k) {Q:Nat->Prop}:∀ (f l r:Nat),l<=r->r<=k->r-l<=f->(∀ i,i<l->lt (p.getD k 0) (p.getD i 0)=false)->(∀ i,r<=i->i<k->lt (p.getD k 0) (p.getD i 0)=true) ->
  (∀ m,m<=k->(∀ i,i<m->lt (p.getD k 0) (p.getD i 0)=false)->(∀ i,m<=i->i<k->lt (p.getD k 0) (p.getD i 0)=true)->Q m)->okT N lt (kas_place p k f l r) Q
 | 0,l,r,h1,h2,h3,lo,hi,hQ=>hQ l (by ac_rfl) lo fun i a b=>hi i (by ac_rfl) b
 | f+1,l,r,h1,h2,h3,lo,hi,hQ=>by
  show okT N lt (if l>=r then _ else _) Q
  by_cases g:l>=r
  ·rw[if_pos g]
   exact hQ l (by ac_rfl) lo fun i a b=>hi i (by ac_rfl) b
  ·rw[if_neg g]
   refine ⟨⟨hp.2 k hk,hp.2 _ (by ac_rfl)⟩,?_⟩
   cases c:lt (p.getD k 0) (p.getD ((l+r) / 2) 0) with
   | true =>
    refine zl8 O hp hk u f l ((l+r) / 2) (by ac_rfl) (by ac_rfl) (by ac_rfl) lo (fun i a b=>?_) hQ
    cases d:lt (p.getD k 0) (p.getD i 0) with
    | true=>rfl
    | false =>
     have:=O.neg _ _ _ d (u _ i a b)
     rw[c] at this
     cases this
   | false=>exact zl8 O hp hk u f ((l+r) / 2+1) r (by ac_rfl) h2 (by ac_rfl) (fun i a=>O.neg _ _ _ c (u i _ (by ac_rfl) (by ac_rfl))) hi hQ
theorem zoR {p:Array Nat} {k l i:Nat} (hk:k<p.size) (hl:l<=k):(bubble p k (k-l)).getD i 0=if i=l then p.getD k 0 else if l<i/\i<=k then p.getD (i-1) 0 else p.getD i 0:=by
 have e:=getElem?_bubble hk (k-l) (by ac_rfl) i
 rw[show k-(k-l)=l by ac_rfl] at e
 by_cases c:i=l
 ·rw[if_pos c] at e ⊢;exact ziK e
 ·rw[if_neg c] at e ⊢
  by_cases c2:l<i/\i<=k
  ·rw[if_pos c2] at e ⊢;exact ziK e
  ·rw[if_neg c2] at e ⊢;exact ziK e
theorem ztk (O:Ord lt) {p0:Array Nat}:∀ (f:Nat) (p:Array Nat) (k:Nat),In N p->p.Perm p0->k+f=N->Up lt p k->okT N lt (kas_bin f p k) fun q=>In N q/\q.Perm p0/\Up lt q N
 | 0,p,k,hp,pe,e,u=>⟨hp,pe,by rw[<-e];exact u⟩
 | f+1,p,k,hp,pe,e,u=>by
  have hk:k<p.size:=by rw[hp.1];ac_rfl
  refine zeL _ (zl8 O hp (by ac_rfl) u k 0 k (ydf _) (ydc _) (by ac_rfl) (fun i h=>absurd h (ydq _)) (fun i a b=>by ac_rfl) fun l hl lo hi=>?_)
  refine ztk O f _ (k+1) ⟨by rw[bubble_size];exact hp.1,fun i h=>?_⟩ ((bubble_perm _ _ _).trans pe) (by ac_rfl) fun i j h1 h2=>?_
  ·rw[zoR hk hl]
   by_cases c1:i=l
   ·rw[if_pos c1];exact hp.2 k (by ac_rfl)
   ·rw[if_neg c1]
    by_cases c2:l<i/\i<=k
    ·rw[if_pos c2];exact hp.2 _ (by ac_rfl)
    ·rw[if_neg c2];exact hp.2 i h
  ·rw[zoR hk hl,zoR hk hl]
   by_cases ei:i=l
   ·rw[if_pos ei]
    by_cases ej:j=l
    ·rw[if_pos ej];exact O.irr _
    ·rw[if_neg ej,if_pos (by ac_rfl)]
     exact O.asy _ _ (hi (j-1) (by ac_rfl) (by ac_rfl))
   ·rw[if_neg ei]
    by_cases ej:j=l
    ·rw[if_pos ej,if_neg (by ac_rfl)]
     exact lo i (by ac_rfl)
    ·rw[if_neg ej]
     by_cases ci:l<i/\i<=k
     ·rw[if_pos ci,if_pos (by ac_rfl)]
      exact u _ _ (by ac_rfl) (by ac_rfl)
     ·rw[if_neg ci]
      by_cases cj:l<j/\j<=k
      ·rw[if_pos cj]
       exact u _ _ (by ac_rfl) (by ac_rfl)
      ·rw[if_neg cj]
       exact u _ _ h1 (by ac_rfl)
theorem zwe (O:Ord lt) (h1:1<=N):okT N lt (kas_sort N) fun q=>In N q/\q.Perm (ybo (yar N))/\Up lt q N:=by
 have hp:In N (ybo (yar N)):=⟨by simp,fun i h=>by
  rw[yen]
  simp[h]⟩
 refine zeL _ (zpC (fun r g=>?_) _ (zu3 O hp h1))
 obtain ⟨a,b,c,d,e⟩:=g
 show okT N lt (if r.1<N then _ else _) _
 by_cases h:r.1<N
 ·rw[if_pos h]
  exact ztk O _ _ _ a b (by ac_rfl) (by rw[Nat.max_eq_left c];exact e)
 ·rw[if_neg h]
  have:r.1=N:=by ac_rfl
  exact ⟨a,b,by rw[<-this];exact e⟩
end SortT
namespace SortT
open PySem PySem.W PyProof.Rows PySem.Calls
def zbu (h:Heap) (v:Value) (x:Int × Int):Prop:=∃ a o n t u,v=.ref a/\h.get? a=some o/\o.cls=.type "tuple" /\ o.data=.seq #[.int x.1 t,.int x.2 u] n
theorem zbu.keep {h h':Heap} {v:Value} {x:Int × Int} (p:zbu h v x) (k:∀ a o,v=.ref a->h.get? a=some o->h'.get? a=some o):zbu h' v x:=by
 obtain ⟨a,o,n,t,u,rfl,e,r⟩:=p
 exact ⟨a,o,n,t,u,rfl,k a o rfl e,r⟩
def lex (x y:Int × Int):Bool:=decide (x.1<y.1\/(x.1=y.1/\x.2<y.2))
section
variable {prog:Program} {w:World} {A:Around} {E:Value->Shared->Prop} {s:Shared}
theorem zvN {v v':Value} {x y:Int × Int} (hv:zbu s.heap v x) (hw:zbu s.heap v' y) {Q:Bool->Shared->Prop} (h:Q (lex x y) s):wpAny (model prog w) A (keyLt' (tuples' true) v v') Q E s:=by
 obtain ⟨a,o,n,t,u,rfl,e,c,d⟩:=hv
 obtain ⟨a',o',n',t',u',rfl,e',c',d'⟩:=hw
 refine kat_lt e d e' d' ?_
 refine kat_cons (wpAny_eqBool_int ?_)
 by_cases c1:x.1=y.1
 ·rw[show (x.1 == y.1)=true from beq_iff_eq.mpr c1]
  refine kat_yes (kat_cons (wpAny_eqBool_int ?_))
  by_cases c2:x.2=y.2
  ·rw[show (x.2 == y.2)=true from beq_iff_eq.mpr c2]
   refine kat_yes (kat_nil ?_)
   have:lex x y=false:=decide_eq_false (by ac_rfl)
   rw[this] at h
   exact h
  ·rw[show (x.2 == y.2)=false from beq_eq_false_iff_ne.mpr c2]
   refine kat_no (kat_one _ _ (lt_int ?_))
   have:lex x y=decide (x.2<y.2):=decide_eq_decide.mpr (by ac_rfl)
   rw[this] at h
   exact h
 ·rw[show (x.1 == y.1)=false from beq_eq_false_iff_ne.mpr c1]
  refine kat_no (oneLt_int ?_)
  have:lex x y=decide (x.1<y.1):=decide_eq_decide.mpr (by ac_rfl)
  rw[this] at h
  exact h
theorem zrX (f:Nat->Int × Int):Ord fun i j=>lex (f i) (f j):=by
 refine ⟨fun i=>decide_eq_false (by ac_rfl),fun i j h=>?_,fun i j k h1 h2=>?_⟩
 ·have:=of_decide_eq_true h
  exact decide_eq_false (by ac_rfl)
 ·have a:=of_decide_eq_false h1
  have b:=of_decide_eq_false h2
  exact decide_eq_false (by ac_rfl)
theorem zlx {a:Addr} {vs:List Value} {n:Nat} {P:PySem.Fin->Shared->Prop} {f:Nat->Int × Int} (ho:s.heap.get? a=some (seqObj "list" vs.toArray n)) (h64:vs.length<64) (hp:∀ i,i<vs.length->zbu s.heap (vs.getD i .none) (f i))
  (h:∀ p:Array Nat,In vs.length p->p.Perm (ybo (yar vs.length))->Up (fun i j=>lex (f i) (f j)) p vs.length->P (.done (.ret .none)) { s with heap:=sortedHeap s.heap a vs (ybo (p.toList.map fun i=>vs.getD i Value.none)) }) :
  wpAny (model prog w) A (Builtin.«list.sort» ⟨[.ref a],[]⟩) P E s:=by
 rw[list_sort_plain]
 have ha:a<s.heap.objs.size:=ydu ho
 refine wpAny_bind (listItems_at ho rfl ?_)
 refine wpAny_bind (listUpdate_at ho rfl ?_ (by rw[yao,sizeLine_eq];ac_rfl) (ydf _))
 obtain ⟨e1,ho1⟩:∃ e1,(s.heap.update a (Obj.mapSeq fun _=>#[])).get? a=some (seqObj "list" #[] e1):=⟨_,get?_update_seq ho (fun _=>#[])⟩
 refine wpAny_bind (seqEpoch_at ho1 rfl ?_)
 refine wpAny_bind (wpAny_newTuple ?_ (by show vs.length<=_;rw[sizeLine_eq];ac_rfl))
 refine wpAny_bind (wpAny_newList ?_ (ydf _))
 refine wpAny_holding ?_
 have ho6:(((s.heap.update a (Obj.mapSeq fun _=>#[])).push (seqObj "tuple" vs.toArray 0)).push (seqObj "list" #[] 0)).get? a=some (seqObj "list" #[] e1):=ydt _ (ydt _ ho1)
 show wpAny (model prog w) A _ P E { s with heap:=((s.heap.update a (Obj.mapSeq fun _=>#[])).push (seqObj "tuple" vs.toArray 0)).push (seqObj "list" #[] 0) }
 dsimp only
 have hsz:vs.toArray.size=vs.length:=by simp
 have outsz:∀ p:Array Nat,p.size=vs.length->(ybo (p.toList.map fun i=>vs.getD i Value.none)).size<=sizeLine:=fun p hp=>by
  rw[yao,yab,yel,hp,sizeLine_eq];ac_rfl
 by_cases h2:vs.toArray.size<2
 ·rw[if_pos h2,if_pos h2]
  refine wpAny_bind (wpAny_pure ?_)
  rw[StateT.run_pure]
  refine wpAny_bind (wpAny_pure ?_)
  dsimp only
  have hin:In vs.length (ybo (yar vs.length)):=⟨by simp,fun i h=>by rw[yen];simp[h]⟩
  have key:=h (ybo (yar vs.length)) hin (Array.Perm.refl _) (fun i j h1 h3=>by
   have:i=j:=by ac_rfl
   subst this
   exact (zrX f).irr _)
  have eo:(arrOf (SortSt.mk' general' (vs.toArray.zip vs.toArray) #[] 7 none)).map (·.2)=ybo ((ybo (yar vs.length)).toList.map fun i=>vs.getD i Value.none):=by
   refine kat_snds rfl ?_
   have e:=kas_range (vs.toArray.zip vs.toArray)
   rw[show (vs.toArray.zip vs.toArray).size=vs.length by simp] at e
   exact e.symm
  refine wpAny_bind (seqEpoch_at ho6 rfl ?_)
  refine wpAny_bind (listUpdate_at ho6 rfl ?_ (ydf _) (by rw[eo];exact Nat.le_succ_of_le (outsz _ hin.1)))
  simp only[bne_self_eq_false,Bool.false_eq_true,if_false]
  rw[eo]
  exact wpAny_pure key
 ·rw[if_neg h2,if_neg h2]
  have kp:∀ b o,b≠a->s.heap.get? b=some o->(((s.heap.update a (Obj.mapSeq fun _=>#[])).push (seqObj "tuple" vs.toArray 0)).push (seqObj "list" #[] 0)).get? b=some o:=fun b o nb e=>ydt _ (ydt _ (by rw[ydw _ _ _ _ nb];exact e))
  have hp':∀ i,i<vs.length->zbu (((s.heap.update a (Obj.mapSeq fun _=>#[])).push (seqObj "tuple" vs.toArray 0)).push (seqObj "list" #[] 0)) (vs.getD i .none) (f i):=fun i hi=>by
   obtain ⟨b,o,m,t,u,e,eo,c,d⟩:=hp i hi
   refine ⟨b,o,m,t,u,e,kp b o (fun z=>?_) eo,c,d⟩
   subst z
   rw[ho] at eo
   have eo':=Option.some.inj eo
   rw[<-eo'] at c
   exact absurd (show Value.type "list" = Value.type "tuple" from c) (by decide)
  have tups:∀ (ws:List Value) (g:Nat->Int × Int),(∀ i,i<ws.length->zbu (((s.heap.update a (Obj.mapSeq fun _=>#[])).push (seqObj "tuple" vs.toArray 0)).push (seqObj "list" #[] 0)) (ws.getD i .none) (g i))->∃ fs,KatTups (((s.heap.update a (Obj.mapSeq fun _=>#[])).push (seqObj "tuple" vs.toArray 0)).push (seqObj "list" #[] 0)) ws fs/\fs.length=ws.length/\∀ v∈fs,∃ m t,v=.int m t:=by
   intro ws
   induction ws with
   | nil=>intro g _;exact ⟨[],KatTups.nil,rfl,fun v hv=>by cases hv⟩
   | cons v ws ih =>
    intro g hg
    obtain ⟨fs,k1,k2,k3⟩:=ih (fun i=>g (i+1)) fun i hi=>hg (i+1) (by simp;ac_rfl)
    obtain ⟨b,o,m,t,u,e,eo,c,d⟩:=hg 0 (by simp)
    have e':v=.ref b:=e
    subst e'
    exact ⟨.int (g 0).1 t::fs,KatTups.cons eo c d rfl k1,by simp[k2],fun v hv=>by
     rcases yal.mp hv with rfl | hv
     ·exact ⟨_,_,rfl⟩
     ·exact k3 v hv⟩
  obtain ⟨fs,k1,k2,k3⟩:=tups vs f hp'
  refine wpAny_bind (kat_kind (T:=.type "int") k1 (by ac_rfl) (fun v hv=>?_) (by decide) ?_)
  ·obtain ⟨m,t,rfl⟩:=k3 v hv
   exact Looks.now
  have ask:(kas_sort vs.length).kasWp (kas_ask prog w A (tuples' (Value.type "int" != Value.type "tuple")) vs) (fun p s''=>(In vs.length p/\p.Perm (ybo (yar vs.length))/\Up (fun i j=>lex (f i) (f j)) p vs.length)/\s''={ s with heap:=((s.heap.update a (Obj.mapSeq fun _=>#[])).push (seqObj "tuple" vs.toArray 0)).push (seqObj "list" #[] 0) }) { s with heap:=((s.heap.update a (Obj.mapSeq fun _=>#[])).push (seqObj "tuple" vs.toArray 0)).push (seqObj "list" #[] 0) }:=by
   refine ztI (fun i j C hi hj hc=>?_) (fun p g=>⟨g,rfl⟩) _ (zwe (zrX f) (by ac_rfl))
   show wpAny (model prog w) A (keyLt' (tuples' true) (vs.getD i .none) (vs.getD j .none)) C _ _
   exact zvN (hp' i hi) (hp' j hj) hc
  refine wpAny_bind (wpAny_mono (kat_run (Q:=fun st' s'=>∃ p:Array Nat,p.size=vs.length/\arrOf st'=p.map (kas_item (vs.toArray.zip vs.toArray))/\failedOf st'=none/\(In vs.length p/\p.Perm (ybo (yar vs.length))/\Up (fun i j=>lex (f i) (f j)) p vs.length)/\s'={ s with heap:=((s.heap.update a (Obj.mapSeq fun _=>#[])).push (seqObj "tuple" vs.toArray 0)).push (seqObj "list" #[] 0) })
   rfl (by ac_rfl) h64 (fun p' st' s' a1 a2 a3 a4=>⟨p',a1,a2,a3,a4⟩) ask) ?_ fun _ _ e=>e)
  rintro ⟨⟨⟩,st'⟩ s' ⟨p,hps,har,hf,⟨g1,g2,g3⟩,rfl⟩
  dsimp only
  have hout:=kat_snds rfl har
  rw[hout]
  refine wpAny_bind (seqEpoch_at ho6 rfl ?_)
  refine wpAny_bind (listUpdate_at ho6 rfl ?_ (ydf _) (Nat.le_succ_of_le (outsz p hps)))
  rw[hf]
  simp only[bne_self_eq_false,Bool.false_eq_true,if_false]
  exact wpAny_pure (h p g1 g2 g3)
theorem zuj {l:Addr} {vs:List Value} {Q:Value->Shared->Prop} {f:Nat->Int × Int} (hl:s.heap.IsList l vs.toArray) (h64:vs.length<64) (hp:∀ i,i<vs.length->zbu s.heap (vs.getD i .none) (f i))
  (h:∀ p:Array Nat,In vs.length p->p.Perm (ybo (yar vs.length))->Up (fun i j=>lex (f i) (f j)) p vs.length->Q (.ref (s.heap.objs.size+1)) { s with heap:=sortedAll s.heap vs (ybo (p.toList.map fun i=>vs.getD i Value.none)) }) :
  wpAny (model prog w) A (call (.builtin "sorted") [.ref l]) Q E s:=by
 refine Calls.call_function_entry kind_sorted plain_sorted entry_sorted (args_sorted1 _) ?_
 unfold Builtin.«sorted»
 refine wpAny_bind (m:=checkCount "sorted" 1 1 _) (wpAny_pure ?_)
 refine wpAny_bind (collect_list hl ?_ (by rw[sizeLine_eq];ac_rfl))
 refine wpAny_bind (wpAny_newList ?_ (by rw[sizeLine_eq];ac_rfl))
 have hsz:((s.heap.push (seqObj "list" #[] 0)).update s.heap.objs.size (Obj.mapSeq (·++vs.toArray))).objs.size=s.heap.objs.size+1:=by
  rw[Heap.size_update,size_push']
 have hoL:(((s.heap.push (seqObj "list" #[] 0)).update s.heap.objs.size (Obj.mapSeq (·++vs.toArray))).push (seqObj "list" vs.toArray 0)).get? (s.heap.objs.size+1)=some (seqObj "list" vs.toArray 0):=by
  rw[<-hsz];exact ydv _ rfl
 have keep:∀ b o,s.heap.get? b=some o->(((s.heap.push (seqObj "list" #[] 0)).update s.heap.objs.size (Obj.mapSeq (·++vs.toArray))).push (seqObj "list" vs.toArray 0)).get? b=some o:=fun b o q=>by
  have hlt:b<s.heap.objs.size:=ydu q
  rw[Heap.get?_push_ne _ _ _ (by rw[hsz];exact ydd (ydm hlt)),ydw _ _ _ _ (ydd hlt),Heap.get?_push_ne _ _ _ (ydd hlt)]
  exact q
 show wpAny _ _ _ _ _ { s with heap:=((s.heap.push (seqObj "list" #[] 0)).update s.heap.objs.size (Obj.mapSeq (·++vs.toArray))).push (seqObj "list" vs.toArray 0) }
 rw[hsz]
 refine wpAny_bind (wpAny_holding (wpAny_call_entry slot_list_sort ⟨_,hoL,rfl⟩ entry_list_sort (zlx hoL h64 (fun i hi=>(hp i hi).keep fun a o _ e=>keep a o e) fun p a1 a2 a3=>⟨_,rfl,?_⟩) (args_list_sort _)))
 exact wpAny_pure ⟨_,rfl,h p a1 a2 a3⟩
end
end SortT
namespace L2
open PySem PySem.Spec PyProof.Rows
section
variable {X:Cx} {e k:Expr} {te:TE} {p2 pos:Pos} {lo hi:Option Expr} {tl th:TO}
theorem map_getD {α:Type} (l:List α) (d:α):(yar l.length).map (fun i=>l.getD i d)=l:=by
 apply ycf
 intro i
 rw[yaj]
 by_cases h:i<l.length
 ·rw[ycr h,yaa h]
  simp[h]
 ·rw[yas (by simp;ac_rfl),yas (by ac_rfl)]
  rfl
theorem zl9 {α:Type} {f:α->V} {g:α->Value}:∀ is:List α,(∀ i∈is,RelV (f i) (g i))->Vals (is.map f) (is.map g)
 | [],_=>.nil
 | i::is,h=>.cons (h i (yam ..)) (zl9 is fun j hj=>h j (yak _ hj))
theorem zpk (hex:X.ex=[]:=by rfl):zbC X (.builtin "sorted") (fun xs H Q=>∃ (p:Addr) (vs:List V) (l:List (Int × Int)),xs=[.ref p]/\SqL X.K H p vs/\zy X.K H vs l/\l.length<64 /\
  ∀ (q:Addr) (H':Hp) (ws:List V) (r:List (Int × Int)),H q=none->Same H H'->H' q=some (.lst ws)->zy X.K H' ws r->r.Perm l->(r.Pairwise fun s t=>s.1<=t.1)->Q (.ref q) H'):=by
 intro pins s σ H xs us Q I r h
 obtain ⟨p,vs,l,rfl,hp,hR,hl,q⟩:=h
 obtain ⟨u,rfl,rx⟩:=vals1 r
 cases rx
 obtain ⟨its,rv,pl,hz⟩:=I.list hp
 have vl:=hR.length
 have len:its.length=l.length:=by rw[<-rv.length,vl]
 have pair:∀ i,i<its.length->SortT.zbu s.heap (its.getD i .none) (l.getD i (0,0)):=fun i hi=>by
  have ev:vs[i]?=some (vs[i]'(by ac_rfl)):=yaa (by ac_rfl)
  obtain ⟨a,x,e1,e2,e3⟩:=hR.get ev
  obtain ⟨w,hw,rw'⟩:=rv.get ev
  rw[e1] at rw'
  cases rw'
  obtain ⟨ts,tv,tp,_⟩:=I.tuple (SqT.of e3)
  cases tv with
  | cons t1 tv =>
   cases tv with
   | cons t2 tv =>
    cases tv
    obtain ⟨t,rfl⟩:=t1
    obtain ⟨t',rfl⟩:=t2
    obtain ⟨o,eo,oc,n,od⟩:=(show s.heap.IsTuple a _ from tp)
    refine ⟨a,o,n,t,t',?_,eo,oc,?_⟩
    ·rw[yae,hw];rfl
    ·rw[od,show l.getD i (0,0)=x by rw[yae,e2];rfl]
 refine SortT.zuj pl.isList (by ac_rfl) pair fun P a1 a2 a3=>?_
 obtain ⟨n,at_⟩:=sortedAll_at s.heap its (ybo (P.toList.map fun i=>its.getD i Value.none))
 have pin:∀ i∈P.toList,i<its.length:=fun i hi=>by
  obtain ⟨j,hj,rfl⟩:=yaz.mp hi
  have hj':j<its.length:=by rw[<-a1.1];simpa using hj
  have:=a1.2 j hj'
  rw[yen,yem (by rw[a1.1];exact hj')] at this
  simpa using this
 have plen:P.toList.length=its.length:=by rw[yel,a1.1]
 have vl':Vals (P.toList.map fun i=>vs.getD i .non) (P.toList.map fun i=>its.getD i Value.none):=zl9 _ fun i hi=>by
  have hi':=pin i hi
  have ev:vs[i]?=some (vs[i]'(by ac_rfl)):=yaa (by ac_rfl)
  obtain ⟨w,hw,rw'⟩:=rv.get ev
  rw[yae,ev,yae,hw]
  exact rw'
 have new:s.heap.get? (s.heap.objs.size+1)=none:=ydz (ydo _)
 have nl:(P.toList.map fun i=>vs.getD i .non).length<=sizeLine:=by rw[yab,plen,sizeLine_eq];ac_rfl
 have I1:Inv X pins σ (upd H (s.heap.objs.size+1) (.lst (P.toList.map fun i=>vs.getD i .non))) { s with heap:=sortedAll s.heap its (ybo (P.toList.map fun i=>its.getD i Value.none)),toks:=s.toks } :=
  I.zqk (fun b o e=>sortedAll_old e) new hex ⟨nl,_,n,vl',by simpa [seqObj] using at_⟩
 have sm:Same H (upd H (s.heap.objs.size+1) (.lst (P.toList.map fun i=>vs.getD i .non))):=zc (I.hok.gone new) _
 refine ⟨.ref (s.heap.objs.size+1),_,I1,rfl,q _ _ _ (P.toList.map fun i=>l.getD i (0,0)) (I.hok.gone new) sm zf (zno (by rw[yab,yab]) fun j v x h1 h2=>?_) ?_ ?_⟩
 ·rw[yaj] at h1 h2
  obtain ⟨i,hi,rfl⟩:=Option.map_eq_some_iff.mp h1
  rw[hi] at h2
  have h2':l.getD i (0,0)=x:=Option.some.inj h2
  have hi':=pin i (yah hi)
  have ev:vs[i]?=some (vs[i]'(by ac_rfl)):=yaa (by ac_rfl)
  obtain ⟨b,y,e1,e2,e3⟩:=hR.get ev
  have ey:l.getD i (0,0)=y:=by rw[yae,e2];rfl
  refine ⟨b,by rw[yae,ev,<-e1];rfl,?_⟩
  rw[<-h2',ey]
  exact sm _ _ e3
 ·have pp:P.toList.Perm (yar l.length):=by
   have:=Array.perm_iff_toList_perm.mp a2
   rw[len] at this
   exact this
  have:=pp.map fun i=>l.getD i (0,0)
  rw[map_getD] at this
  exact this
 ·refine ybd.mpr fun i j hi hj lt=>?_
  rw[yab] at hi hj
  have up:=a3 i j (ydp lt) (by ac_rfl)
  have gi:∀ m (h:m<P.toList.length),P.getD m 0=P.toList[m]:=fun m h=>by
   rw[yen,yem (by simpa using h)]
   simp
  rw[gi i hi,gi j hj] at up
  have:=of_decide_eq_false up
  rw[ycx,ycx]
  ac_rfl
end
noncomputable def zax (l:List (Int × Int)) (k y:Int):List (Int × Int):=if l.any (fun p=>p.1=k) then l.map (fun p=>if p.1=k then (p.1,y) else p) else l++[(k,y)]
noncomputable def zdz (l:List (Int × Int)):List (Int × Int):=l.foldl (fun acc s=>zax acc s.1 s.2) []
inductive KR:List (Int × Value)->List (Int × Int)->Prop
 | nil:KR [] []
 | cons {k y:Int} {t:Tok} {r:List (Int × Value)} {l:List (Int × Int)}:KR r l->KR ((k,.int y t)::r) ((k,y)::l)
theorem KR.length {r:List (Int × Value)} {l:List (Int × Int)} (h:KR r l):r.length=l.length:=by
 induction h with
 | nil=>rfl
 | cons _ ih=>simp[ih]
theorem KR.any {r:List (Int × Value)} {l:List (Int × Int)} {k:Int} (h:KR r l):r.any (fun kv=>kv.1=k)=l.any (fun p=>p.1=k):=by
 induction h with
 | nil=>rfl
 | cons _ ih=>rw[yct,yct,ih]
theorem KR.snoc {r:List (Int × Value)} {l:List (Int × Int)} {k y:Int} {t:Tok} (h:KR r l):KR (r++[(k,.int y t)]) (l++[(k,y)]):=by
 induction h with
 | nil=>exact .cons .nil
 | cons _ ih=>exact .cons ih
theorem KR.map {r:List (Int × Value)} {l:List (Int × Int)} {k y:Int} {t:Tok} (h:KR r l):KR (r.map fun kv=>if kv.1=k then (kv.1,.int y t) else kv) (l.map fun p=>if p.1=k then (p.1,y) else p):=by
 induction h with
 | nil=>exact .nil
 | @cons k' y' t' r l _ ih =>
  rw[ybb,ybb]
  by_cases e:k'=k
  ·rw[if_pos e,if_pos e];exact .cons ih
  ·rw[if_neg e,if_neg e];exact .cons ih
theorem KR.stored {r:List (Int × Value)} {l:List (Int × Int)} {k y:Int} {t:Tok} (h:KR r l):KR (stored r k (.int y t)) (zax l k y):=by
 unfold PySem.stored zax
 rw[h.any]
 split
 ·exact h.map
 ·exact h.snoc
theorem KR.get {r:List (Int × Value)} {l:List (Int × Int)} (h:KR r l):∀ {i:Nat} {k:Int} {v:Value},r[i]?=some (k,v)->∃ y t,l[i]?=some (k,y)/\v=.int y t:=by
 induction h with
 | nil=>intro i k v e;simp at e
 | cons _ ih =>
  intro i k v e
  cases i with
  | zero=>cases e;exact ⟨_,_,rfl,rfl⟩
  | succ i=>exact ih e
theorem zmZ (l:List (Int × Int)) (k y:Int):(zax l k y).length<=l.length+1:=by
 unfold zax
 split
 ·rw[yab];ac_rfl
 ·simp
theorem zlm (l acc:List (Int × Int)):(l.foldl (fun acc s=>zax acc s.1 s.2) acc).length<=acc.length+l.length:=by
 induction l generalizing acc with
 | nil=>simp
 | cons s l ih =>
  rw[ybh]
  have:=ih (zax acc s.1 s.2)
  have:=zmZ acc s.1 s.2
  rw[yax]
  ac_rfl
theorem zq7 (l:List (Int × Int)):(zdz l).length<=l.length:=by
 have:=zlm l []
 simpa [zdz] using this
theorem zqb:typeLookup (.type "list") "keys" = pure none:=by rw[typeLookup_type,builtinLookup_eq_fast];kernel_rfl
theorem zkk {prog:Program} {w:World} {A:Around} {E:Value->Shared->Prop} {s:Shared} {a:Addr} {xs:Array Value} {k:Nat} {Q:Option Value->Shared->Prop}
  (hx:s.heap.get? a=some { cls:=.type "list", dict:=none,data:=.seq xs k,slots:=#[] }) (hA:A.handled=none)
  (h:∀ h' tk,(∀ b o,s.heap.get? b=some o->h'.get? b=some o)->Q none { s with heap:=h',toks:=tk }) :
  wpAny (model prog w) A (getAttr? (.ref a) "keys") Q E s:=by
 obtain ⟨hp,g,d,tk,os⟩:=s
 have hT:∀ tk',(⟨hp,g,d,tk',os⟩:Shared).TypeIs (.ref a) "list" := fun _=>⟨_,hx,rfl⟩
 have f1:=sub_AttributeError
 have f3:=F.slot_list_getattribute.lookup
 have f4:=F.slot_list_getattribute.bind (.ref a)
 have f5:=am_list_getattr_none
 unfold getAttr? getAttrBy? getAttrBy
 repeat (any_goals (first | assumption | exact hT _ | ((with_reducible show wpAny _ _ (call (Value.builtin "list.__getattribute__") _ _) _ _ _);refine call_meets F.slot_list_getattribute (hT _) am_entry_list_getattribute (F.args_list_getattribute_2 _ _) (meets_getattribute_miss_list a xs k #[] "keys" _ zqb (by decide +kernel) (by size_fits)) ⟨hx,hA,fun h' tk' e hx'=>?_⟩) | wp_step))
 obtain ⟨t',u',he⟩:=hx'.there
 show wpAny _ _ (getattributeRaised _ _ _ _ _ _ _) _ _ _
 unfold getattributeRaised
 repeat (any_goals (first | assumption | wp_step))
 exact h _ _ hx'.keeps
theorem zcO:entryFor table "dict.update.loop" = some Builtin.«dict.update.loop»:=entryFor_of_tree (by kernel_rfl)
theorem zaV:plainId "dict.update.loop" = true:=by decide +kernel
section
variable {prog:Program} {w:World} {A:Around} {s:Shared} {R:Result->Shared->Prop}
theorem zaP {h h':Heap} {d:Addr} {kvs:List (Int × Value)} (x:h.DictOf (intKind prog w) d kvs) (k:∀ o,h.get? d=some o->h'.get? d=some o):h'.DictOf (intKind prog w) d kvs:=by
 obtain ⟨o,es,ep,e,r⟩:=x
 exact ⟨o,es,ep,k o e,r⟩
theorem zuN {d it p:Addr} {its:List Value} {l:List (Int × Int)} {h₁:Heap} (hh:A.handled=none) (ndi:d≠it) (ndp:d≠p) (nip:it≠p) (len:its.length=l.length) (h64:its.length<64)
  (hR:∀ h' tk kvs,(∀ b o,b≠d->b≠it->h₁.get? b=some o->h'.get? b=some o)->h'.DictOf (intKind prog w) d kvs->KR kvs (zdz l)->R (.ok (.ret .none)) { s with heap:=h',toks:=tk }) :
  ∀ (k i:Nat) (h:Heap) (tk:Nat) (kvs:List (Int × Value)),its.length-i=k->i<=its.length->h.IsListIter it p i->h.IsList p its.toArray->(∀ j,j<its.length->SortT.zbu h (its.getD j .none) (l.getD j (0,0))) ->
   h.DictOf (intKind prog w) d kvs->KR kvs ((l.take i).foldl (fun acc s=>zax acc s.1 s.2) [])->(∀ b o,b≠d->b≠it->h₁.get? b=some o->h.get? b=some o) ->
   codeAny (model prog w) A (.builtin "dict.update.loop" ⟨[.ref d,.ref it,rawInt i,.none],[]⟩) R { s with heap:=h,toks:=tk }:=by
 intro k
 induction k with
 | zero =>
  intro i h tk kvs hk hi hit hl hp hd hkr hkeep
  have hin:i=its.length:=by ac_rfl
  refine codeAny_builtin zcO ?_
  rw[Around.under_plainId zaV _]
  show wpAny _ A.in1 (pyNext (.ref it) >>= _) _ _ _
  refine wpAny_bind (wpAny_pyNext_list_end (s:={ s with heap:=h,toks:=tk }) (A:=A.in1) hh hit hl (by simp;ac_rfl) fun h' he=>?_)
  show wpAny _ _ (Builtin.Dict.addKeywords d [] >>= _) _ _ _
  refine wpAny_bind (wpAny_pure (wpAny_pure ?_))
  refine hR h' tk kvs (fun b o b1 b2 e=>he b o b2 (hkeep b o b1 b2 e)) (zaP hd fun o e=>he d o ndi e) ?_
  rw[hin,len,yck] at hkr
  exact hkr
 | succ k ih =>
  intro i h tk kvs hk hi hit hl hp hd hkr hkeep
  have hlt:i<its.length:=by ac_rfl
  obtain ⟨a,oa,n,t,u,ea,eo,oc,odt⟩:=hp i hlt
  have hx:its[i]?=some (.ref a):=by
   rw[yae,yaa hlt] at ea
   rw[yaa hlt]
   exact congrArg some ea
  refine codeAny_builtin zcO ?_
  rw[Around.under_plainId zaV _]
  show wpAny _ A.in1 (pyNext (.ref it) >>= _) _ _ _
  refine wpAny_bind (wpAny_pyNext_list_item (s:={ s with heap:=h,toks:=tk }) (A:=A.in1) hit hl (x:=.ref a) (by simpa using hx) fun h' hit' sb=>?_)
  have ait:a≠it:=fun z=>by
   obtain ⟨o,ho,hc,_⟩:=hit
   rw[z,ho] at eo
   cases eo
   rw[hc] at oc
   exact absurd oc (by decide)
  have ad:a≠d:=fun z=>by
   obtain ⟨o,es,ep,ho,hc,_⟩:=id hd
   rw[z,ho] at eo
   cases eo
   have:=hc.1
   rw[this] at oc
   exact absurd oc (by decide)
  have eo':h'.get? a=some oa:=(sb.2 a ait).trans eo
  have hT:({ s with heap:=h',toks:=tk }:Shared).TypeIs (.ref a) "tuple" := ⟨oa,eo',oc⟩
  have hd':h'.DictOf (intKind prog w) d kvs:=zaP hd fun o e=>(sb.2 d ndi).trans e
  show wpAny _ _ (holding [Value.ref a] _ >>= _) _ _ _
  refine wpAny_bind (wpAny_holding ?_)
  refine wpAny_bind (wpAny_tryCatch ?_)
  unfold Builtin.Dict.pairItems
  refine wpAny_bind (wpAny_typeOf hT ?_)
  rw[if_pos (by decide)]
  refine wpAny_bind (wpAny_seqItems eo' odt ?_)
  refine wpAny_pure ?_
  show wpAny _ _ (holding [Value.int (l.getD i (0,0)).1 t,Value.int (l.getD i (0,0)).2 u] (dictSet d (Value.int (l.getD i (0,0)).1 t) (Value.int (l.getD i (0,0)).2 u))) _ _ _
  refine wpAny_holding ?_
  have kl:=hkr.length
  have fl:=zlm (l.take i) []
  rw[yaq] at fl
  refine wpAny_dictSet_pairs (knd:=intKind prog w) (k:=(l.getD i (0,0)).1) (by first | exact Value.isInt_int _ _ | (simp[intKind,Value.isInt];done) | exact beq_self_eq_true _) hd' (fun h2 hd2 sb2=>?_) (by rw[sizeLine_eq];simp at fl;ac_rfl)
  refine wpAny_pure ⟨plainId_quiet zaV _,?_⟩
  have k2:∀ b o,b≠d->b≠it->h.get? b=some o->h2.get? b=some o:=fun b o b1 b2 e=>(sb2.2 b b1).trans ((sb.2 b b2).trans e)
  refine ih (i+1) h2 _ _ (by ac_rfl) (by ac_rfl) (hit'.at fun o e=>(sb2.2 it ndi.symm).trans e) ?_ (fun j hj=>(hp j hj).keep fun b o eb e=>k2 b o ?_ ?_ e) hd2 ?_ fun b o b1 b2 e=>k2 b o b1 b2 (hkeep b o b1 b2 e)
  ·obtain ⟨o,e,r⟩:=hl
   exact ⟨o,k2 p o ndp.symm nip.symm e,r⟩
  ·intro z
   obtain ⟨b',o',n',t',u',e1,e2,e3,_⟩:=hp j hj
   rw[eb] at e1
   cases e1
   obtain ⟨od,es,ep,ho,hc,_⟩:=id hd
   rw[z,ho] at e2
   cases e2
   rw[hc.1] at e3
   exact absurd e3 (by decide)
  ·intro z
   obtain ⟨b',o',n',t',u',e1,e2,e3,_⟩:=hp j hj
   rw[eb] at e1
   cases e1
   obtain ⟨oi,ho,hc,_⟩:=id hit
   rw[z,ho] at e2
   cases e2
   rw[hc] at e3
   exact absurd e3 (by decide)
  ·have tk:l.take (i+1)=l.take i++[l.getD i (0,0)]:=by
    rw[ybe,yaa (by ac_rfl),yae,yaa (by ac_rfl)]
    rfl
   rw[tk,ych]
   exact hkr.stored
theorem zop {E:Value->Shared->Prop} {p:Addr} {its:List Value} {n:Nat} {l:List (Int × Int)} {Q:Value->Shared->Prop} (hh:A.handled=none) (hl:s.heap.get? p=some { cls:=.type "list", dict:=none,data:=.seq its.toArray n,slots:=#[] }) (len:its.length=l.length) (h64:its.length<64)
  (hp:∀ j,j<its.length->SortT.zbu s.heap (its.getD j .none) (l.getD j (0,0)))
  (h:∀ h' tk kvs,(∀ b o,s.heap.get? b=some o->h'.get? b=some o)->h'.DictOf (intKind prog w) s.heap.objs.size kvs->KR kvs (zdz l)->Q (.ref s.heap.objs.size) { s with heap:=h',toks:=tk }) :
  wpAny (model prog w) A (call (.type "dict") [.ref p]) Q E s:=by
 have hlt:p<s.heap.objs.size:=ydu hl
 refine callType_codes (Q₁:=fun obj s₁=>obj=.ref s.heap.objs.size/\s₁={ s with heap:=s.heap.push { cls:=.type "dict", data:=.dict #[] } }) F.kt_called_dict (F.kt_typeCall_dict_1 _) F.entry_dict_init (kt_code_dict_new _ ⟨rfl,rfl⟩) ?_
 rintro obj s₁ ⟨rfl,rfl⟩
 have hnew:(s.heap.push { cls:=.type "dict", data:=.dict #[] }).DictOf (intKind prog w) s.heap.objs.size []:=Heap.DictOf.new s.heap
 have hl1:(s.heap.push { cls:=.type "dict", data:=.dict #[] }).get? p=some { cls:=.type "list", dict:=none,data:=.seq its.toArray n,slots:=#[] }:=ydt _ hl
 refine ⟨hnew.typeIs,F.args_dict_init_2 _ _,?_⟩
 unfold Builtin.«dict.__init__»
 refine wpAny_bind ?_
 unfold Builtin.Dict.selfAndRest
 refine wpAny_bind (wpAny_notOrdered_dict hnew.typeIs ?_)
 show wpAny _ _ (pure (s.heap.objs.size,[Value.ref p])) _ _ _
 refine wpAny_pure ?_
 show wpAny _ _ (Builtin.Dict.updateFrom "dict.__init__" s.heap.objs.size (.ref p) [] .none) _ _ _
 unfold Builtin.Dict.updateFrom
 refine wpAny_bind (wpAny_typeOf (T:="list") ⟨_,hl1,rfl⟩ ?_)
 rw[if_pos (by decide)]
 refine wpAny_bind (zkk (s:={ s with heap:=s.heap.push { cls:=.type "dict", data:=.dict #[] } }) hl1 hh fun h2 tk2 k2=>?_)
 rw[if_pos (show (none:Option Value).isNone=true from rfl)]
 refine wpAny_bind (wpAny_rule ?_)
 have hl2:=k2 p _ hl1
 have hd2:=zaP (h':=h2) hnew fun o e=>k2 _ o e
 have lt2:s.heap.objs.size<h2.objs.size:=by
  obtain ⟨o,es,ep,e,_⟩:=hd2
  exact ydu e
 have hlL:h2.IsList p its.toArray:=⟨_,hl2,rfl,n,rfl⟩
 refine wpAny_bind (wpAny_pyIter_list hlL ?_)
 refine wpAny_pure ⟨plainId_quiet zaV _,?_⟩
 refine zuN (s:=s) (A:=A.in1) (h₁:=h2) (d:=s.heap.objs.size) (it:=h2.objs.size) (p:=p) (its:=its) (l:=l) hh (ydd lt2) (ydl hlt) (ydl (ydn hlt lt2)) len h64 (fun h' tk kvs kp hd' hkr=>?_)
  its.length 0 _ tk2 [] (Nat.sub_zero _) (ydf _) ⟨_,ydv _ rfl,rfl,rfl⟩ (hlL.push _) (fun j hj=>(hp j hj).keep fun a o _ e=>ydt _ (k2 a o (ydt _ e))) (zaP hd2 fun o e=>ydt _ e) .nil fun b o b1 b2 e=>ydt _ e
 refine ⟨rfl,h h' tk kvs (fun b o e=>kp b o (ydd (ydu e)) (ydd (ydn (ydu e) lt2)) (k2 b o (ydt _ e))) hd' hkr⟩
end
noncomputable def zca (P:Program) (w:World) (d:Addr) (l:List (Int × Int)):HO:=.ext fun h=>(d == sysModules)=false/\∃ kvs,h.DictOf (intKind P w) d kvs/\KR kvs l
noncomputable def zsd (v d:Addr):HO:=.ext fun h=>h.IsItemsView v d
section
variable {X:Cx} {pins:List (Addr × Obj)} {σ:St} {H:Hp} {s:Shared}
theorem ztE {vs:List V} {l:List (Int × Int)} {p:Addr} (I:Inv X pins σ H s) (hp:SqL X.K H p vs) (hR:zy X.K H vs l):∃ its,Vals vs its/\s.heap.IsList p its.toArray/\its.length=l.length/\∀ i,i<its.length->SortT.zbu s.heap (its.getD i .none) (l.getD i (0,0)):=by
 obtain ⟨its,rv,pl,hz⟩:=I.list hp
 have vl:=hR.length
 refine ⟨its,rv,pl.isList,by rw[<-rv.length,vl],fun i hi=>?_⟩
 have len:its.length=l.length:=by rw[<-rv.length,vl]
 have ev:vs[i]?=some (vs[i]'(by ac_rfl)):=yaa (by ac_rfl)
 obtain ⟨a,x,e1,e2,e3⟩:=hR.get ev
 obtain ⟨w,hw,rw'⟩:=rv.get ev
 rw[e1] at rw'
 cases rw'
 obtain ⟨ts,tv,tp,_⟩:=I.tuple (SqT.of e3)
 cases tv with
 | cons t1 tv =>
  cases tv with
  | cons t2 tv =>
   cases tv
   obtain ⟨t,rfl⟩:=t1
   obtain ⟨t',rfl⟩:=t2
   obtain ⟨o,eo,oc,n,od⟩:=(show s.heap.IsTuple a _ from tp)
   refine ⟨a,o,n,t,t',?_,eo,oc,?_⟩
   ·rw[yae,hw];rfl
   ·rw[od,show l.getD i (0,0)=x by rw[yae,e2];rfl]
theorem zed (hc:X.calm=true):zbC X (.type "dict") (fun xs H Q=>∃ (p:Addr) (vs:List V) (l:List (Int × Int)),xs=[.ref p]/\H p=some (.lst vs)/\zy X.K H vs l/\l.length<64 /\
  ∀ (d:Addr) (H':Hp),H d=none->Same H H'->H' d=some (zca X.prog X.w d (zdz l))->Q (.ref d) H'):=by
 intro pins s σ H xs us Q I r h
 obtain ⟨p,vs,l,rfl,hp,hR,hl,q⟩:=h
 obtain ⟨u,rfl,rx⟩:=vals1 r
 cases rx
 obtain ⟨its,rv,pl,len,pr⟩:=ztE I (SqL.of hp) hR
 obtain ⟨z,its',n',rv',e'⟩:=(show zas X.prog X.w H s.heap p (.lst vs) from I.hok p _ hp)
 obtain ⟨o,eo,oc,n,od⟩:=pl
 have ei:its=its':=by
  rw[e'] at eo
  cases eo
  have:=od
  simpa using (Data.seq.inj this).1.symm
 subst ei
 have big:sysModules<s.heap.objs.size:=ydn (by decide) (show mainGlobals<s.heap.objs.size from (I.mod.glob.keeps I.bk).lt)
 have lo:(s.heap.objs.size == sysModules)=false:=beq_eq_false_iff_ne.mpr (Ne.symm (ydd big))
 refine zop (I.ok.hd hc) e' len (by ac_rfl) pr fun h' tk kvs kp hd hkr=>?_
 refine ⟨.ref s.heap.objs.size,_,I.laid (o:=zca X.prog X.w s.heap.objs.size (zdz l)) kp (ydc _) ⟨⟨lo,kvs,hd,hkr⟩,(let ⟨o,_,_,e,_⟩:=hd;⟨o,e⟩),fun h1 h2 ⟨lo',kv,x,y⟩ e=>⟨lo',kv,zaP x e,y⟩⟩,rfl,q _ _ (I.hok.fresh (ydc _)) (zc (I.hok.fresh (ydc _)) _) zf⟩
def zwY (P:Program) (w:World) (to:TE):TE:=fun σ H Q=>to σ H fun x H1=>∃ (d:Addr) (l:List (Int × Int)),x=.ref d/\H1 d=some (zca P w d l)/\∀ (v:Addr) (H':Hp),H1 v=none->Same H1 H'->H' v=some (zsd v d)->Q (.ref v) H'
theorem zpZ {o:Expr} {to:TE} {apos cpos:Pos} (ho:PE X o to)
  (hbase:attributeBase o "items" X.env (eval o X.env)=eval o X.env:=by rfl) (hline:(apos.endLine == cpos.line)=true:=by rfl):PE X (.Call (.Attribute o "items" apos) [] [] cpos) (zwY X.prog X.w to):=by
 intro pins s σ H Q I h
 refine wpAny_Call_method0_late hbase hline (thn (ho pins s σ H _ I h) fun v s1 ⟨x,H1,I1,r1,d,l,ex,hd,q1⟩=>?_)
 subst ex
 obtain rfl:v=Value.ref d:=r1
 obtain ⟨lo,kvs,hD,hkr⟩:=(I1.hok d _ hd).1
 refine ⟨"dict", "dict.items", F.plainAttrs_dict,F.slot_dict_items,F.type_dict_items,hD.typeIs,hD.mapOf.noDict,Calls.callWith_builtin rfl (PySem.evalArgs_none ?_)⟩
 refine call_meetsIn PySem.F.slot_dict_items hD.typeIs PySem.F.entry_dict_items (PySem.F.args_dict_items_1 _) (meets_dict_items (intKind X.prog X.w) d lo) ⟨⟨kvs,hD⟩,?_⟩
 exact ⟨.ref s1.heap.objs.size,_,I1.laid (t':=s1.toks) (o:=zsd s1.heap.objs.size d) (fun b ob q=>ydt _ q) (ydc _) ⟨⟨_,ydv _ rfl,rfl,rfl⟩,⟨_,ydv _ rfl⟩,fun h1 h2 ⟨o,e,r⟩ k=>⟨o,k o e,r⟩⟩,rfl,
  q1 _ _ (I1.hok.fresh (ydc _)) (zc (I1.hok.fresh (ydc _)) _) zf⟩
theorem zmu {h':Heap} {tk:Nat} (hex:X.ex=[]) (I:Inv X pins σ H s) (k:∀ b o,s.heap.get? b=some o->h'.get? b=some o):∀ (bs:List (Addr × (Int × Int))),(bs.map (·.1)).Nodup->(∀ b∈bs,s.heap.get? b.1=none/\SortT.zbu h' (.ref b.1) b.2) ->
  ∃ H',Inv X pins σ H' { s with heap:=h',toks:=tk }/\Same H H'/\(∀ b∈bs,H' b.1=some (.tup [.int b.2.1,.int b.2.2]))/\∀ a,a ∉ bs.map (·.1)->H' a=H a
 | [],_,_=>⟨H,I.kept k,Same.refl _,(fun _ hb=>absurd hb (ybx)),fun _ _=>rfl⟩
 | b::bs,nd,hb=>by
  obtain ⟨H1,I1,s1,t1,o1⟩:=zmu hex I k bs (ybm.mp nd).2 fun c hc=>hb c (yak _ hc)
  obtain ⟨hn,a,o,n,t,u,ea,eo,oc,od⟩:=hb b (yam ..)
  cases ea
  obtain ⟨f1,f2,f3,f4⟩:=I.zqt hn hex
  have nb:b.1 ∉ bs.map (·.1):=(ybm.mp nd).1
  have gone:H1 b.1=none:=by rw[o1 _ nb];exact I.hok.gone hn
  refine ⟨_,I1.track (o:=.tup [.int b.2.1,.int b.2.2]) gone f1 f2 f3 f4 ⟨by show 2<=sizeLine;rw[sizeLine_eq];ac_rfl,[.int b.2.1 t,.int b.2.2 u],.cons ⟨t,rfl⟩ (.cons ⟨u,rfl⟩ .nil),⟨o,eo,oc,n,od⟩⟩,s1.trans (zc gone _),fun c hc=>?_,fun c hc=>?_⟩
  ·rcases yal.mp hc with rfl | hc
   ·exact zf
   ·rw[zx (fun z=>nb (by rw[<-z];exact yaf.mpr ⟨c,hc,rfl⟩))]
    exact t1 c hc
  ·rw[ybb,yal,not_or] at hc
   rw[zx hc.1]
   exact o1 c hc.2
theorem zkd (hc:X.calm=true) (hex:X.ex=[]:=by rfl):zbC X (.builtin "sorted") (fun xs H Q=>∃ (v d:Addr) (l:List (Int × Int)),xs=[.ref v]/\H v=some (zsd v d)/\H d=some (zca X.prog X.w d l)/\l.length<64 /\
  ∀ (q:Addr) (H':Hp) (ws:List V) (r:List (Int × Int)),H q=none->Same H H'->H' q=some (.lst ws)->zy X.K H' ws r->r.Perm l->(r.Pairwise fun s t=>s.1<=t.1)->Q (.ref q) H'):=by
 intro pins s σ H xs us Q I r h
 obtain ⟨v,d,l,rfl,hV,hD,hl,q⟩:=h
 obtain ⟨u,rfl,rx⟩:=vals1 r
 cases rx
 have hv:s.heap.IsItemsView v d:=(I.hok v _ hV).1
 obtain ⟨lo,kvs,hd,hkr⟩:=(I.hok d _ hD).1
 obtain ⟨od,es,ep,rd⟩:=hd
 have hat:s.heap.DictAt (intKind X.prog X.w) d kvs ep:=⟨od,es,rd⟩
 have kl:=hkr.length
 refine Calls.call_function_entry kind_sorted plain_sorted entry_sorted (args_sorted1 _) ?_
 unfold Builtin.«sorted»
 refine wpAny_bind (m:=checkCount "sorted" 1 1 _) (wpAny_pure ?_)
 refine wpAny_bind (PySem.W.kdx_collect (A:=X.A.in1) (knd:=intKind X.prog X.w) (kvs:=kvs) (ep:=ep) (I.ok.hd hc) hv hat (by rw[sizeLine_eq];ac_rfl) fun h1 tk as k1 al hG=>?_)
 refine wpAny_bind (wpAny_newList ?_ (by rw[yab,al,sizeLine_eq];ac_rfl))
 have an:as.length=l.length:=by ac_rfl
 have asl:∀ a∈as,a<h1.objs.size:=fun a ha=>hG.there ha
 have fresh:∀ a∈as,s.heap.get? a=none:=fun a ha=>ydz (ydp (hG.above a ha))
 have pr:∀ i,i<as.length->SortT.zbu h1 ((as.map Value.ref).getD i .none) (l.getD i (0,0)):=fun i hi=>by
  obtain ⟨key,k,x,e1,e2,e3⟩:=hG.pairs i as[i] (yaa hi)
  obtain ⟨y,t,e4,rfl⟩:=hkr.get e1
  obtain ⟨t',rfl⟩:=Value.isInt_shape e2
  refine ⟨as[i],_,0,t',t,?_,e3,rfl,?_⟩
  ·rw[yae,yaj,yaa hi];rfl
  ·rw[yae,e4];rfl
 have hoL:(h1.push (seqObj "list" (as.map Value.ref).toArray 0)).get? h1.objs.size=some (seqObj "list" (as.map Value.ref).toArray 0):=ydv _ rfl
 show wpAny _ _ _ _ _ { s with heap:=h1.push (seqObj "list" (as.map Value.ref).toArray 0),toks:=tk }
 refine wpAny_bind (wpAny_holding (wpAny_call_entry slot_list_sort ⟨_,hoL,rfl⟩ entry_list_sort (SortT.zlx (f:=fun i=>l.getD i (0,0)) hoL (by rw[yab];ac_rfl) (fun i hi=>(pr i (by rw[yab] at hi;exact hi)).keep fun a o _ e=>ydt _ e) fun P a1 a2 a3=>⟨_,rfl,?_⟩) (args_list_sort _)))
 refine wpAny_pure ⟨_,rfl,?_⟩
 rw[yab] at a1 a2 a3
 obtain ⟨out,hout⟩:∃ out,out=(P.toList.map fun i=>(as.map Value.ref).getD i Value.none):=⟨_,rfl⟩
 show EP X pins σ Q (Value.ref h1.objs.size) { s with heap:=sortedHeap (h1.push (seqObj "list" (as.map Value.ref).toArray 0)) h1.objs.size (as.map Value.ref) (ybo (P.toList.map fun i=>(as.map Value.ref).getD i Value.none)),toks:=tk }
 rw[<-hout]
 have keep3:∀ b o,h1.get? b=some o->(sortedHeap (h1.push (seqObj "list" (as.map Value.ref).toArray 0)) h1.objs.size (as.map Value.ref) out.toArray).get? b=some o:=fun b o e =>
  (sortedHeap_old (ydd (ydu e)) (by rw[ydx];exact ydm (ydu e))).trans (ydt _ e)
 obtain ⟨n3,at3⟩:=sortedHeap_at (out:=out.toArray) hoL
 generalize sortedHeap (h1.push (seqObj "list" (as.map Value.ref).toArray 0)) h1.objs.size (as.map Value.ref) out.toArray=h3 at keep3 at3 ⊢
 have zm:(as.zip l).map (·.1)=as:=List.map_fst_zip (by ac_rfl)
 have nd:((as.zip l).map (·.1)).Nodup:=by
  rw[zm]
  exact hG.rise.imp fun {a b} z=>ydd z
 have zin:∀ i,i<as.length->(as.getD i 0,l.getD i (0,0))∈as.zip l:=fun i hi=>by
  refine yah (i:=i) ?_
  rw[ycp]
  have hi2:i<l.length:=by ac_rfl
  have g1:as.getD i 0=as[i]:=by rw[yae,yaa hi];rfl
  have g2:l.getD i (0,0)=l[i]:=by rw[yae,yaa hi2];rfl
  rw[g1,g2]
  exact ⟨yaa hi,yaa hi2⟩
 obtain ⟨H1,I1,s1,t1,o1⟩:=zmu (h':=h3) (tk:=tk) hex I (fun b o e=>keep3 b o (k1 b o e)) (as.zip l) nd fun b hb=>by
  obtain ⟨i,hi⟩:=ybj.mp hb
  rw[ycp] at hi
  have hlt:i<as.length:=(yac.mp hi.1).1
  refine ⟨fresh _ (yah hi.1),?_⟩
  have:=(pr i hlt).keep (h':=h3) fun a o _ e=>keep3 a o e
  rw[yae,yaj,hi.1,yae,hi.2] at this
  exact this
 have hnL:s.heap.get? h1.objs.size=none:=by
  cases e:s.heap.get? h1.objs.size with
  | none=>rfl
  | some o=>exact absurd (ydu (k1 _ o e)) (ydj _)
 obtain ⟨f1,f2,f3,f4⟩:=I.zqt hnL hex
 have nLa:h1.objs.size ∉ (as.zip l).map (·.1):=by
  rw[zm]
  exact fun z=>ydj _ (asl _ z)
 have goneL:H1 h1.objs.size=none:=by rw[o1 _ nLa];exact I.hok.gone hnL
 have pin:∀ i∈P.toList,i<as.length:=fun i hi=>by
  obtain ⟨j,hj,rfl⟩:=yaz.mp hi
  have hj':j<as.length:=by rw[<-a1.1];simpa using hj
  have:=a1.2 j hj'
  rw[yen,yem (by rw[a1.1];exact hj')] at this
  simpa using this
 have plen:P.toList.length=as.length:=by rw[yel,a1.1]
 have vl':Vals (P.toList.map fun i=>V.ref (as.getD i 0)) out:=by
  rw[hout]
  refine zl9 _ fun i hi=>?_
  have hi':=pin i hi
  rw[yae,yae,yaj,yaa hi']
  rfl
 have I2:=I1.track (o:=.lst (P.toList.map fun i=>V.ref (as.getD i 0))) goneL f1 f2 f3 f4 ⟨by rw[yab,plen,sizeLine_eq];ac_rfl,out,n3,vl',by simpa [seqObj] using at3⟩
 have sm:Same H (upd H1 h1.objs.size (.lst (P.toList.map fun i=>V.ref (as.getD i 0)))):=s1.trans (zc goneL _)
 refine ⟨.ref h1.objs.size,_,I2,rfl,q _ _ _ (P.toList.map fun i=>l.getD i (0,0)) (I.hok.gone hnL) sm zf (zno (by rw[yab,yab]) fun j v x e1 e2=>?_) ?_ ?_⟩
 ·rw[yaj] at e1 e2
  obtain ⟨i,hi,rfl⟩:=Option.map_eq_some_iff.mp e1
  rw[hi] at e2
  have e2':l.getD i (0,0)=x:=Option.some.inj e2
  have hi':=pin i (yah hi)
  refine ⟨_,rfl,?_⟩
  rw[<-e2',zx (fun z=>nLa (by rw[zm,<-z,yae,yaa hi'];exact ycj hi'))]
  exact t1 _ (zin i hi')
 ·have pp:P.toList.Perm (yar l.length):=by
   have:=Array.perm_iff_toList_perm.mp a2
   rw[an] at this
   exact this
  have:=pp.map fun i=>l.getD i (0,0)
  rw[map_getD] at this
  exact this
 ·refine ybd.mpr fun i j hi hj lt=>?_
  rw[yab] at hi hj
  have up:=a3 i j (ydp lt) (by ac_rfl)
  have gi:∀ m (h:m<P.toList.length),P.getD m 0=P.toList[m]:=fun m h=>by
   rw[yen,yem (by simpa using h)]
   simp
  rw[gi i hi,gi j hj] at up
  have:=of_decide_eq_false up
  rw[ycx,ycx]
  ac_rfl
end
end L2
namespace Dbt
noncomputable def mx (a b:Int):Int:=if b > a then b else a
noncomputable def mn (a b:Int):Int:=if b<a then b else a
theorem zjG {a b:Int}:a<=mx a b/\b<=mx a b/\(mx a b=a\/mx a b=b):=by unfold mx;split <;> ac_rfl
theorem zsQ {a b:Int}:mn a b<=a/\mn a b<=b/\(mn a b=a\/mn a b=b):=by unfold mn;split <;> ac_rfl
inductive Wd where
 | lend | fee | turn | take | grow
noncomputable def step (u:Int) (w:Wd) (x m n:Int):Int × Int :=
 match w with
 | .lend=>(mn (m+x) (mx 0 ((n+u*x) / u)),n+u*x)
 | .fee=>(mn m (mx 0 ((n+u*x) / u)),n+u*x)
 | .take=>(mn m (mx 0 ((n+u * -x) / u)),n+u * -x)
 | .turn=>(mx 0 (n / u),n)
 | .grow=>(m,n+x)
noncomputable def Okd:Wd->Int->Prop
 | .lend,x=>0<=x
 | .grow,x=>0<=x
 | _,_=>True
def Good (u m n:Int):Prop:=0<=m/\m<=mx 0 (n / u)
theorem good0 (u:Int):Good u 0 0:=⟨yea _,zjG.1⟩
theorem zav {u:Int} {w:Wd} {x m n:Int} (hu:0<u) (ok:Okd w x) (g:Good u m n):Good u (step u w x m n).1 (step u w x m n).2:=by
 obtain ⟨g0,g1⟩:=g
 cases w with
 | lend =>
  have h0:0<=x:=ok
  have:=zjG (a:=0) (b:=(n+u*x) / u)
  have:=zsQ (a:=m+x) (b:=mx 0 ((n+u*x) / u))
  show 0<=mn (m+x) (mx 0 ((n+u*x) / u))/\mn (m+x) (mx 0 ((n+u*x) / u))<=mx 0 ((n+u*x) / u)
  ac_rfl
 | fee =>
  have:=zjG (a:=0) (b:=(n+u*x) / u)
  have:=zsQ (a:=m) (b:=mx 0 ((n+u*x) / u))
  show 0<=mn m (mx 0 ((n+u*x) / u))/\mn m (mx 0 ((n+u*x) / u))<=mx 0 ((n+u*x) / u)
  ac_rfl
 | take =>
  have:=zjG (a:=0) (b:=(n+u * -x) / u)
  have:=zsQ (a:=m) (b:=mx 0 ((n+u * -x) / u))
  show 0<=mn m (mx 0 ((n+u * -x) / u))/\mn m (mx 0 ((n+u * -x) / u))<=mx 0 ((n+u * -x) / u)
  ac_rfl
 | turn =>
  have:=zjG (a:=0) (b:=n / u)
  show 0<=mx 0 (n / u)/\mx 0 (n / u)<=mx 0 (n / u)
  ac_rfl
 | grow =>
  have h0:0<=x:=ok
  have h1:n / u<=(n+x) / u:=yef hu (by ac_rfl)
  have:=zjG (a:=0) (b:=n / u)
  have:=zjG (a:=0) (b:=(n+x) / u)
  show 0<=m/\m<=mx 0 ((n+x) / u)
  ac_rfl
theorem ziE {a b:Int} (h:a<=b):mx 0 a<=mx 0 b:=by unfold mx;split <;> split <;> ac_rfl
theorem zm2 {a b c d:Int} (h:a<=c) (h2:b<=d):mn a b<=mn c d:=by unfold mn;split <;> split <;> ac_rfl
structure Two (u s0 s1 m1 n1 m2 n2:Int):Prop where
 a0:0<=s0
 a1:0<=s1
 n:n1<=n2-u*(s0+s1)
 m:m1<=m2
 g1:Good u m1 n1
 g2:Good u m2 n2
theorem zxP (u:Int):Two u 0 0 0 0 0 0:=⟨yea _,yea _,by simp,yea _,good0 u,good0 u⟩
variable {u s0 s1 m1 n1 m2 n2 x y:Int}
theorem Two.le (hu:0<u) (T:Two u s0 s1 m1 n1 m2 n2):n1<=n2:=by
 have h:=yed (Int.le_of_lt hu) (show 0<=s0+s1 by have:=T.a0;have:=T.a1;ac_rfl)
 have:=T.n
 ac_rfl
theorem Two.owed (hu:0<u) (T:Two u s0 s1 m1 n1 m2 n2):n1 / u<=n2 / u-(s0+s1):=by
 have h:n1 / u<=(n2+u * -(s0+s1)) / u:=yef hu (by rw[Int.mul_neg];have:=T.n;ac_rfl)
 rw[Int.add_mul_ediv_left n2 _ (by ac_rfl)] at h
 ac_rfl
theorem zkf {w:Wd} (hw:w=.lend\/w=.fee\/w=.take) (hu:0<u) (hm:m1<=m2) (hx:w=.lend->x=y) (hn:(step u w x m1 n1).2<=(step u w y m2 n2).2):(step u w x m1 n1).1<=(step u w y m2 n2).1:=by
 rcases hw with rfl | rfl | rfl
 ·obtain rfl:=hx rfl
  exact zm2 (by ac_rfl) (ziE (yef hu hn))
 ·exact zm2 hm (ziE (yef hu hn))
 ·exact zm2 hm (ziE (yef hu hn))
theorem Two.lend (hu:0<u) (T:Two u s0 s1 m1 n1 m2 n2) (h:0<=x):Two u s0 s1 (step u .lend x m1 n1).1 (step u .lend x m1 n1).2 (step u .lend x m2 n2).1 (step u .lend x m2 n2).2:=by
 have le:=T.le hu
 have h1:(step u .lend x m1 n1).2=n1+u*x:=rfl
 have h2:(step u .lend x m2 n2).2=n2+u*x:=rfl
 exact ⟨T.a0,T.a1,by rw[h1,h2];have:=T.n;ac_rfl,zkf (.inl rfl) hu T.m (fun _=>rfl) (by rw[h1,h2];ac_rfl),zav hu (w:=.lend) h T.g1,zav hu (w:=.lend) h T.g2⟩
theorem Two.fee (hu:0<u) (T:Two u s0 s1 m1 n1 m2 n2) (h:0<=s1+y-x):Two u s0 (s1+y-x) (step u .fee x m1 n1).1 (step u .fee x m1 n1).2 (step u .fee y m2 n2).1 (step u .fee y m2 n2).2:=by
 have h1:(step u .fee x m1 n1).2=n1+u*x:=rfl
 have h2:(step u .fee y m2 n2).2=n2+u*y:=rfl
 have hn:n1+u*x<=n2+u*y-u*(s0+(s1+y-x)):=by
  have:=T.n
  rw[yej] at this
  rw[yej,Int.mul_sub,yej]
  ac_rfl
 have h3:=yed (Int.le_of_lt hu) (show 0<=s0+(s1+y-x) by have:=T.a0;ac_rfl)
 exact ⟨T.a0,h,by rw[h1,h2];exact hn,zkf (.inr (.inl rfl)) hu T.m (fun z=>by cases z) (by rw[h1,h2];ac_rfl),zav hu (w:=.fee) trivial T.g1,zav hu (w:=.fee) trivial T.g2⟩
theorem Two.take (hu:0<u) (T:Two u s0 s1 m1 n1 m2 n2) (h:0<=s0+x-y):Two u (s0+x-y) s1 (step u .take x m1 n1).1 (step u .take x m1 n1).2 (step u .take y m2 n2).1 (step u .take y m2 n2).2:=by
 have h1:(step u .take x m1 n1).2=n1+u * -x:=rfl
 have h2:(step u .take y m2 n2).2=n2+u * -y:=rfl
 have hn:n1+u * -x<=n2+u * -y-u*(s0+x-y+s1):=by
  have:=T.n
  rw[yej] at this
  rw[yej,Int.mul_sub,yej,Int.mul_neg,Int.mul_neg]
  ac_rfl
 have h3:=yed (Int.le_of_lt hu) (show 0<=s0+x-y+s1 by have:=T.a1;ac_rfl)
 exact ⟨h,T.a1,by rw[h1,h2];exact hn,zkf (.inr (.inr rfl)) hu T.m (fun z=>by cases z) (by rw[h1,h2];ac_rfl),zav hu (w:=.take) trivial T.g1,zav hu (w:=.take) trivial T.g2⟩
theorem Two.turn (hu:0<u) (T:Two u s0 s1 m1 n1 m2 n2):Two u s0 s1 (step u .turn x m1 n1).1 (step u .turn x m1 n1).2 (step u .turn y m2 n2).1 (step u .turn y m2 n2).2 :=
 ⟨T.a0,T.a1,T.n,ziE (yef hu (T.le hu)),zav hu (w:=.turn) trivial T.g1,zav hu (w:=.turn) trivial T.g2⟩
theorem Two.zxg (hu:0<u) (T:Two u s0 s1 m1 n1 m2 n2):Two u s0 s1 m1 n1 (step u .turn y m2 n2).1 (step u .turn y m2 n2).2 :=
 ⟨T.a0,T.a1,T.n,yee T.g1.2 (ziE (yef hu (T.le hu))),T.g1,zav hu (w:=.turn) trivial T.g2⟩
theorem Two.grow (hu:0<u) (T:Two u s0 s1 m1 n1 m2 n2) (h:0<=x) (h2:x<=y):Two u s0 s1 (step u .grow x m1 n1).1 (step u .grow x m1 n1).2 (step u .grow y m2 n2).1 (step u .grow y m2 n2).2 :=
 ⟨T.a0,T.a1,by have:=T.n;show n1+x<=n2+y-_;ac_rfl,T.m,zav hu (w:=.grow) h T.g1,zav hu (w:=.grow) (show 0<=y by ac_rfl) T.g2⟩
noncomputable def t1 (s1:Int):Option (Wd × Int)->Wd × Int->Int
 | some (.fee,x),(.fee,y)=>s1+y-x
 | _,_=>s1
end Dbt
namespace L2
open PySem PySem.Spec PyProof.Rows
def zvf (i j:Int):Prop:=0<j/\j<1152921504606846976
section
variable {X:Cx}
theorem zoS:OpR X (binaryOp .FloorDiv) (rI zvf fun i j=>.int (i / j)):=opI fun i j _ _ _ _ _ hc q=>by
 have h1:(0:Int)<j:=hc.1
 have h2:j<1152921504606846976:=hc.2
 refine floordiv_int (by ac_rfl) (by rw[Int.fdiv_eq_ediv_of_nonneg i (by ac_rfl)];exact q) (.inl (PyProof.noPylong_of_log2 ?_))
 have h0:j.natAbs≠0:=by ac_rfl
 have:j.natAbs.log2<60:=(Nat.log2_lt h0).mpr (show j.natAbs<1152921504606846976 by ac_rfl)
 ac_rfl
end
structure MkI (K:W.Frag) (C:Addr):Prop where
 makes:PySem.W.makesIn K C=true
 kp:PySem.W.keepIn K (.ref C)=true
def zxa (C:Addr) (f:Str) (ta:TE):TE:=fun σ H Q=>ta σ H fun x H1=>∃ a dx fs v,x=.ref a/\H1 a=some (.ins C dx fs)/\fs.lookup f=some v/\Q v H1
def zxz (C:Addr) (f:Str) (ta tv:TE):TS:=fun D σ H=>tv σ H fun y H1=>ta σ H1 fun x H2=>∃ a dx fs,x=.ref a/\H2 a=some (.ins C dx fs)/\fs.length<1000/\D.nx σ (upd H2 a (.ins C dx (zaS f y fs)))
section
variable {X:Cx} {C:Addr} {x m f:Str} {p pos pos' apos:Pos} {e o value:Expr} {es:List Expr} {ta tv:TE} {t:TA} {j k:Nat} {ps:List Str} {sp:Sp}
theorem zad (hc:Cls X.K C) (hn:zW X.K C f) (he:PE X e ta) (hb:attributeBase e f X.env (eval e X.env)=eval e X.env:=by rfl):PE X (.Attribute e f pos) (zxa C f ta):=by
 intro pins s σ H Q I h
 refine zrL hb (thn (he pins s σ H _ I h) fun u s1 ⟨x,H1,I1,rx,a,dx,fs,v,ex,ea,l,q⟩=>?_)
 subst ex
 obtain rfl:u=Value.ref a:=rx
 exact zml I1 ea hc hn l fun u' s2 I2 ru=>⟨v,H1,I2,ru,q⟩
theorem zaB (hc:Cls X.K C) (hn:zW X.K C f) (ha:PE X o ta) (hv:PE X value tv) (hs:swapsWith value (some (.Attribute o f pos')) pos.line X.env=pure false:=by rfl):PS X (.Assign [.Attribute o f pos'] value pos) (zxz C f ta tv):=by
 intro pins s σ H D I h
 refine plainObj_wpAny_Assign_Attribute (thn (hv pins s σ H _ I h) fun u s1 ⟨y,H1,I1,ry,q⟩=>thn (ha pins s1 σ H1 _ I1 q) fun ov s2 ⟨x,H2,I2,rx,a,dx,fs,ex,ea,l,q2⟩=>?_) hs
 subst ex
 obtain rfl:ov=Value.ref a:=rx
 exact zmx I2 ea hc hn l ry fun s3 I3=>⟨σ,_,I3,q2⟩
theorem zdv {pl:Sem Bool} (D:zt X.prog X.w X.K X.mg X.base j C m ps sp) (hc:Cls X.K C) (hr:Room k X.A) (he:PE X o ta) (ha:PA X (e::es) t) (hj:j<=k:=by decide)
  (hst:starEach (e::es) X.env=(false,eval e X.env)::starEach es X.env:=by rfl) (hpl:(backTo pos (starEach es X.env)).any (·.1)=false:=by rfl)
  (ht:eval (.Call (.Attribute o m apos) (e::es) [] pos) X.env=(do
   let ov <-eval o X.env
   standAt apos.atName
   let (f,first) <-holding [ov] (getMethod ov m pl)
   callWith pos f first (backTo pos (starEach (e::es) X.env)) (backToKw pos (keywordEach [] X.env))):=by rfl) :
  PE X (.Call (.Attribute o m apos) (e::es) [] pos) (zoF C m sp [] E0 ta t):=by
 obtain ⟨f,fd,F,hm,hb⟩:=D.ex
 exact zvB (pl:=pl) he hc hm F (hr.mono hj) (.all hb) .nil zhG ha hst hpl ht
theorem zv {pl:Sem Bool} (D:zt X.prog X.w X.K X.mg X.base j C m ps sp) (hc:Cls X.K C) (hr:Room k X.A) (he:PE X o ta) (hj:j<=k:=by decide)
  (ht:eval (.Call (.Attribute o m apos) [] [] pos) X.env=(do
   let ov <-eval o X.env
   standAt apos.atName
   let (f,first) <-holding [ov] (getMethod ov m pl)
   callWith pos f first (backTo pos (starEach [] X.env)) (backToKw pos (keywordEach [] X.env))):=by rfl) :
  PE X (.Call (.Attribute o m apos) [] [] pos) (zoF C m sp [] E0 ta znj):=by
 obtain ⟨f,fd,F,hm,hb⟩:=D.ex
 exact zva (pl:=pl) he hc hm F (hr.mono hj) (.all hb) .nil zhG ht
theorem zbn (M:MkI X.K C) (D:zt X.prog X.w X.K X.mg X.base j C "__init__" ps sp) (hr:Room k X.A) (hm:X.mg x=some (.ref C)) (ha:PA X (e::es) t) (hj:j+1<=k:=by decide) (hg:Gl X x:=by rfl)
  (hdb:(x == ("__debug__" : Str))=false:=by decide) (he:starEach (e::es) X.env=(false,eval e X.env)::starEach es X.env:=by rfl) (hpl:(backTo pos (starEach es X.env)).any (·.1)=false:=by rfl) :
  PE X (.Call (.Name x p) (e::es) [] pos) (zvg C sp [] E0 t):=by
 obtain ⟨f,fd,F,hme,hb⟩:=D.ex
 exact zwf ⟨M.makes,hme.at_,hme.fn,M.kp⟩ F (hr.mono hj) hg hm (.all hb) .nil zhG ha hdb he hpl
end
section
variable {K:W.Frag} {x:Str} {C f:Addr}
theorem zdb (a:PySem.W.nsIn K mainGlobals x=some (some (.ref C))) (h1:PySem.W.makesIn K C=true) (h3:PySem.W.keepIn K (.ref C)=true):MkI K (cA K x):=by
 rw[zea a];exact ⟨h1,h3⟩
end
noncomputable def zau (u m n:Int):List (Str × V):=[("cent_units", .int u),("principal_cents", .int m),("owed_units", .int n)]
abbrev Deb (K:W.Frag) (H:Hp) (p dx:Addr) (u m n:Int):Prop:=H p=some (.ins (cA K "Debt") dx (zau u m n))
theorem zss {u m n x:Int}:zaS "owed_units" (.int x) (zau u m n)=zau u m x:=by rfl
theorem zoJ {u m n x:Int}:zaS "principal_cents" (.int x) (zau u m n)=zau u x n:=by rfl
theorem zbH {u m n:Int}:(zau u m n).length<1000:=by show 3<1000;decide
theorem Deb.same {K:W.Frag} {H H':Hp} {p dx:Addr} {u m n:Int} (e:Deb K H p dx u m n) (s:Same H H'):Deb K H' p dx u m n:=s _ _ e
theorem zi5 {K:W.Frag} {H:Hp} {p q C dx:Addr} {fs:List (Str × V)} {o:HO} {xs:List V} (e:H p=some (.ins C dx fs)) (h:H q=some (.tup xs)):(upd H p o) q=some (.tup xs):=by
 rw[zx (zaW h e (by intro z;cases z))];exact h
theorem zq {H:Hp} {p:Addr} (o:HO) (_h:H p=none):(upd H p o) p=some o:=zf
section
variable {H H':Hp} {xs ys zs:List V} {l r:List (Dbt.Wd × Int)} {p:Addr} {d:Dbt.Wd × Int}
end
theorem Deb.putL {K:W.Frag} {H:Hp} {p dx s:Addr} {u m n:Int} {xs:List V} {o:HO} (e:Deb K H p dx u m n) (h:H s=some (.lst xs)):Deb K (upd H s o) p dx u m n:=by
 show (upd H s o) p=_
 rw[zx (zaW e h (by intro z;cases z))]
 exact e
structure zu9 (K:W.Frag) (C:Addr):Prop where
 ha:PySem.W.findIn K (.ref C) "__class__" = some (some (.builtin "object.__class__"))
 hn:PySem.W.specialIn K (.builtin "object.__class__") "__get__" = some (some (.builtin "getset_descriptor.__get__"))
 htk:PySem.W.takesIn K (.builtin "object.__class__")=some true
 hm:PySem.W.mroIn K C (.type "object")=some true
theorem zlb {K:W.Frag} {x:Str} {C:Addr} (a:PySem.W.nsIn K mainGlobals x=some (some (.ref C))) (h1:PySem.W.findIn K (.ref C) "__class__" = some (some (.builtin "object.__class__")))
  (h2:PySem.W.specialIn K (.builtin "object.__class__") "__get__" = some (some (.builtin "getset_descriptor.__get__"))) (h3:PySem.W.takesIn K (.builtin "object.__class__")=some true) (h4:PySem.W.mroIn K C (.type "object")=some true):zu9 K (cA K x):=by
 rw[zea a];exact ⟨h1,h2,h3,h4⟩
theorem ztK {X:Cx}:zbC X (.builtin "isinstance") (fun xs H Q=>∃ x t D b,xs=[x,.ref D]/\zdA X.K H x t/\PySem.W.kitOne X.K t (.ref D)=some b/\Q (.bl b) H):=by
 intro pins s σ H xs us Q I r h
 obtain ⟨x,t,D,b,rfl,ty,e,q⟩:=h
 obtain ⟨u,w',rfl,rx,rn⟩:=vals2 r
 cases rn
 exact znN I rx ty e fun tk=>⟨.bl b,H,I.tok tk,rfl,q⟩
theorem zya {s:Str} {A B:Prop} (h:A):if decide (V.str s=V.str s)=true then A else B:=by rw[if_pos (by simp)];exact h
theorem zx3 {s t:Str} {A B:Prop} (ne:s≠t) (h:B):if decide (V.str s=V.str t)=true then A else B:=by rw[if_neg (by simpa using ne)];exact h
structure zo9 (K:W.Frag) (C:Addr) (m qual:Str) (st:Stmt) (ps:List Str):Prop where
 ex:∃ (f:Addr) (fd:FuncData),Fun K m qual st f fd/\(PySem.W.specialIn K (.ref C) "__getattribute__" = some (some (.builtin "type.__getattribute__"))/\PySem.W.readsIn K C (.type "type")=true /\
  PySem.W.findCls K (.ref C) (.type "type") m=some (.val (.ref f))/\PySem.W.handedIn (.ref f)=true)/\∀ us:List Value,us.length=ps.length->bindArgs fd ⟨us,[]⟩=pure (ps.zip us)
structure znm (P:Program) (w:World) (K:W.Frag) (mg:Str->Option Value) (base:Heap) (k:Nat) (C:Addr) (m:Str) (ps:List Str) (sp:Sp):Prop where
 ex:∃ (f:Addr) (fd:FuncData),zco P w K mg base CX0 k f fd ps sp/\(PySem.W.specialIn K (.ref C) "__getattribute__" = some (some (.builtin "type.__getattribute__"))/\PySem.W.readsIn K C (.type "type")=true /\
  PySem.W.findCls K (.ref C) (.type "type") m=some (.val (.ref f))/\PySem.W.handedIn (.ref f)=true)/\PySem.W.keepIn K (.ref f)=true/\∀ us:List Value,us.length=ps.length->bindArgs fd ⟨us,[]⟩=pure (ps.zip us)
theorem zo9.ok {P:Program} {w:World} {K:W.Frag} {mg:Str->Option Value} {base:Heap} {C:Addr} {m qual:Str} {st:Stmt} {N ps:List Str} {k:Nat} {sp:Sp} (S:zo9 K C m qual st ps) (sc:zj N ps (zi st)) (len:∀ vs H Q E,sp vs H Q E->vs.length=ps.length)
  (hbody:∀ (f:Addr) (cdv:Value) (A:Around) (outer:List Env) (s:Shared) (H:Hp) (vs:List V) (Q:VK) (E:XK),Room k (A.deeper (envOfC qual (zi st) s.heap.objs.size f cdv))->sp vs H Q E ->
   ∃ t,PSs (zgU CX0 P w K mg base N qual (zi st) f cdv A outer s H E).nox (za6 st) t/\t { nx:=fun _ H'=>Q .non H',rt:=Q } (start N vs) H):znm P w K mg base (k+1) C m ps sp:=by
 obtain ⟨f,fd,F,hm,hb⟩:=S.ex
 exact ⟨f,fd,F.ok sc len (fun cdv=>hbody f cdv),hm,F.kp,hb⟩
section
variable {X:Cx} {C:Addr} {x m:Str} {p pos apos:Pos} {e o:Expr} {es:List Expr} {t:TA} {j k:Nat} {ps:List Str} {sp:Sp}
theorem zpe {pl:Sem Bool} (D:znm X.prog X.w X.K X.mg X.base j C m ps sp) (he:PE X o (tC (.ref C))) (hr:Room k X.A) (ha:PA X (e::es) t) (hj:j<=k:=by decide)
  (hst:starEach (e::es) X.env=(false,eval e X.env)::starEach es X.env:=by rfl) (hpl:(backTo pos (starEach es X.env)).any (·.1)=false:=by rfl)
  (ht:eval (.Call (.Attribute o m apos) (e::es) [] pos) X.env=(do
   let ov <-eval o X.env
   standAt apos.atName
   let (f,first) <-holding [ov] (getMethod ov m pl)
   callWith pos f first (backTo pos (starEach (e::es) X.env)) (backToKw pos (keywordEach [] X.env))):=by rfl) :
  PE X (.Call (.Attribute o m apos) (e::es) [] pos) (zsG sp [] E0 t):=by
 intro pins s σ H Q I h
 obtain ⟨f,fd,F,⟨h1,h2,h3,h4⟩,kp,hb⟩:=D.ex
 refine PySem.W.methodCall_KW (pl:=pl) (thn (he pins s σ H (fun v H1=>v=.ref C/\H1=H) I ⟨rfl,rfl⟩) fun u s1 ⟨y,H1,I1,ry,e1,e2⟩=>?_) ht
 subst e1 e2
 obtain rfl:u=Value.ref C:=ry
 refine PySem.W.method_cls I1.kIn h1 (PySem.W.cls_value I1.kIn h2 h3 h4 ?_)
 have I2:=I1.tok (s1.toks+1)
 refine PySem.W.callWith_K (first:=[]) (h₀:=X.base) I.ok.mod.kin kp (thn (ha pos pins _ σ _ _ I2 h) fun us s2 ⟨vs,H2,I3,r,q2⟩=>⟨I3.kIn,?_⟩) hst hpl
 exact zhb (us:=us) (vs:=vs) (dvs:=[]) (ds:=[]) F (hr.mono hj) (.all hb) .nil zhG I3 r q2
end
theorem zjN:∀ {bs:List Bool} {us:List Value},Vals (bs.map V.bl) us->LSm.BoolsAre us bs
 | [],_,.nil=>.nil
 | b::bs,_,.cons r rs=>by
  cases r
  exact .cons b (zjN rs)
theorem zt4 {X:Cx} (hc:X.calm=true):zbC X (.builtin "all") (fun xs H Q=>∃ (p:Addr) (bs:List Bool),xs=[.ref p]/\SqL X.K H p (bs.map V.bl)/\Q (.bl (bs.all id)) H):=by
 intro pins s σ H xs us Q I r h
 obtain ⟨p,bs,rfl,hq,q⟩:=h
 obtain ⟨u,rfl,rx⟩:=vals1 r
 cases rx
 obtain ⟨vs,rv,pl,hz⟩:=I.list hq
 have hb:=zjN rv
 have hl:=pl.isList
 have hlt:p<s.heap.objs.size:=by obtain ⟨_,e,_⟩:=hl;exact ydu e
 refine PySem.call_all_walk (wpAny_pyIter_list hl ?_)
 refine ⟨s.heap.objs.size,[s.heap.objs.size,p],[s.heap.objs.size],vs.toArray.size,_,_,fun i=>(bs[i]?).getD true,rfl,Walks.list (A:=X.A.in1) (I.ok.hd hc) _ p (ydd hlt) vs.toArray,
  ⟨⟨_,ydv _ rfl,rfl,rfl⟩,hl.push _⟩,fun i v s' Q' E' hP hQ=>?_,fun h' tk hk=>?_⟩
 ·obtain ⟨b,e,rfl⟩:=hb.get i v (by simpa using hP)
  simp only[e,Option.getD_some] at hQ
  exact wpAny_truthy_bool hQ
 ·have e:((yar vs.toArray.size).all fun i=>(bs[i]?).getD true)=bs.all id:=by
   rw[<-LSm.range_all,yao,hb.length]
  rw[e]
  exact ⟨.bl _,H,I.kept (LSm.kept_iter hk),rfl,q⟩
inductive Ek where
 | out | fee | pay | due | turn | rate | late | still | base
noncomputable def Ek.cls:Ek->Str
 | .out => "Out"
 | .fee => "Fee"
 | .pay => "Pay"
 | .due => "Due"
 | .turn => "Turn"
 | .rate => "Rate"
 | .late => "Late"
 | .still => "Still"
 | .base => "Entry"
noncomputable def Ek.word:Ek->Str
 | .out => "out"
 | .fee => "fee"
 | .pay => "pay"
 | .due => "due"
 | .turn => "turn"
 | .rate => "rate"
 | .late => "late"
 | .still => "still"
 | .base => ""
noncomputable def zmT:Ek->Int->Int->List (Str × V)
 | .turn,d,_=>[("day", .int d)]
 | .base,d,_=>[("day", .int d)]
 | .rate,d,x=>[("day", .int d),("rate", .int x)]
 | .late,d,x=>[("day", .int d),("rate", .int x)]
 | .still,d,x=>[("day", .int d),("until", .int x)]
 | .out,d,x=>[("day", .int d),("amount", .int x)]
 | .fee,d,x=>[("day", .int d),("amount", .int x)]
 | .pay,d,x=>[("day", .int d),("amount", .int x)]
 | .due,d,x=>[("day", .int d),("amount", .int x)]
noncomputable def zxN:Ek->Int->Int->List V
 | .turn,d,_=>[.str "turn", .int d]
 | .base,d,_=>[.str "", .int d]
 | k,d,x=>[.str k.word,.int d,.int x]
abbrev zkX (K:W.Frag) (H:Hp) (a dx:Addr) (k:Ek) (d x:Int):Prop:=H a=some (.ins (cA K k.cls) dx (zmT k d x))
theorem zhe (k:Ek) (d x:Int):yce ("day" : Str) (zmT k d x)=some (V.int d):=by cases k <;> rfl
theorem zhE (k:Ek) (d x:Int):yce ("word" : Str) (zmT k d x)=none:=by cases k <;> rfl
def zs7 (K:W.Frag) (m:Str) (sp:Ek->Sp) (ta:TE) (t:TA):TE:=fun σ H Q=>ta σ H fun x H1=>∃ (k:Ek) (a dx:Addr) (fs:List (Str × V)),x=.ref a/\H1 a=some (.ins (cA K k.cls) dx fs)/\fs.lookup m=none/\t σ H1 fun vs H2=>sp k (x::vs) H2 Q E0
section
variable {X:Cx} {C:Addr} {x m:Str} {p pos apos:Pos} {e o:Expr} {es:List Expr} {ta:TE} {t:TA} {j k:Nat} {ps:List Str}
theorem zta {pl:Sem Bool} {sp:Ek->Sp} (D:∀ k:Ek,zt X.prog X.w X.K X.mg X.base j (cA X.K k.cls) m ps (sp k)) (hc:∀ k:Ek,Cls X.K (cA X.K k.cls)) (hr:Room k X.A) (he:PE X o ta) (hj:j<=k:=by decide)
  (ht:eval (.Call (.Attribute o m apos) [] [] pos) X.env=(do
   let ov <-eval o X.env
   standAt apos.atName
   let (f,first) <-holding [ov] (getMethod ov m pl)
   callWith pos f first (backTo pos (starEach [] X.env)) (backToKw pos (keywordEach [] X.env))):=by rfl) :
  PE X (.Call (.Attribute o m apos) [] [] pos) (zs7 X.K m sp ta znj):=by
 intro pins s σ H Q I h
 refine PySem.W.methodCall_KW (pl:=pl) (thn (he pins s σ H _ I h) fun u s1 ⟨x,H1,I1,rx,kd,a,dx,fs,ex,ea,l,q⟩=>?_) ht
 subst ex
 obtain rfl:u=Value.ref a:=rx
 obtain ⟨f,fd,F,hm,hb⟩:=(D kd).ex
 refine zdT I1 ea (hc kd) hm l ?_
 exact PySem.W.callWith_K0 (first:=[.ref a]) I1.kIn hm.kp (zhb (us:=[.ref a]) (vs:=[.ref a]) (dvs:=[]) (ds:=[]) F (hr.mono hj) (.all hb) .nil zhG I1 (.cons rfl .nil) q)
end
section
variable {K:W.Frag} {x:Str} {C f:Addr}
theorem zwV {m qual:Str} {st:Stmt} {ps:List Str} {oc:Value} {od an:Option Addr} {osl:Array (Option Value)} {kV doc pm cdv ct:Value} (a:PySem.W.nsIn K mainGlobals x=some (some (.ref C))) (h1:PySem.W.specialIn K (.ref C) "__getattribute__" = some (some (.builtin "type.__getattribute__")))
  (h2:PySem.W.readsIn K C (.type "type")=true) (h3:PySem.W.findCls K (.ref C) (.type "type") m=some (.val (.ref f))) (h4:PySem.W.handedIn (.ref f)=true)
  (fk:PySem.W.keepIn K (.ref f)=true) (fl:K.lookup f=some ⟨oc,od,.func (PySem.W.fnOf m qual (zcM st) (za6 st) (zi st) .none kV doc pm an cdv ct),osl⟩) (fc:PySem.W.codeIn K cdv qual=true)
  (hb:∀ us:List Value,us.length=ps.length->bindArgs (PySem.W.fnOf m qual (zcM st) (za6 st) (zi st) .none kV doc pm an cdv ct) ⟨us,[]⟩=pure (ps.zip us)):zo9 K (cA K x) m qual st ps:=by
 rw[zea a];exact ⟨f,_,zpm fl fc fk,⟨h1,h2,h3,h4⟩,hb⟩
end
section
variable {X:Cx}
end
end L2
namespace L2
open PySem
end L2
namespace L2
noncomputable def eqK:Kd->Kd->Bool
 | .plain,.plain=>true
 | .bank,.bank=>true
 | .thirty,.thirty=>true
 | .exact,.exact=>true
 | _,_=>false
noncomputable def zwO (k:Kd):Kd->Bool
 | .plain=>true
 | .bank=>eqK k .bank
 | .thirty=>eqK k .thirty
 | .exact=>eqK k .exact
end L2
namespace L2
open PySem PySem.Spec PyProof.Rows
section
variable {M:Model} {A:Around} {E:Value->Shared->Prop} {s:Shared} {B:Heap} {v:Env} {out:List Env} {L e d:Addr} {Q:Unit->Shared->Prop}
end
section
variable {X:Cx} {pins:List (Addr × Obj)} {σ:St} {H:Hp} {s:Shared} {e:Addr} {φ:Heap->Prop}
end
section
variable {P:Program} {w:World} {K:W.Frag} {mg:Str->Option Value} {base:Heap} {N:List Str} {qual:Str} {scope:Scope} {f:Addr} {cd:Value} {A:Around} {outer:List Env} {s₀:Shared} {H₀:Hp} {E:XK}
end
section
variable {M:Model} {A:Around} {E:Value->Shared->Prop} {env:Env} {nm q:Str} {C N:Addr} {bs bm:List Value} {hdct:Bool} {sn:List Str} {sub:List Value} {ab:Bool} {col:Option Bool} {dd:Option Addr} {k0 k1 k2 k3 k5:Option Value} {newId:String}
end
section
variable {X:Cx} {x:Str} {np pos:Pos} {e0:Expr} {t:TA} {C f:Addr} {fd:FuncData} {ps:List Str} {name:Str} {j k:Nat}
end
section
variable {X:Cx} {x:Str} {np cpos pos:Pos} {e0:Expr} {t:TA} {name:Str} {j k:Nat} {E:XK}
end
section
variable {X:Cx} {o value:Expr} {name:Str} {pos pos':Pos} {ta tv:TE} {C:Addr}
end
inductive LL {α:Type} (R:V->α->Prop):List V->List α->Prop
 | nil:LL R [] []
 | cons {v:V} {e:α} {vs:List V} {es:List α}:R v e->LL R vs es->LL R (v::vs) (e::es)
section
variable {α:Type} {R S:V->α->Prop} {vs ws:List V} {es fs:List α}
theorem LL.length (h:LL R vs es):vs.length=es.length:=by
 induction h with
 | nil=>rfl
 | cons _ _ ih=>simp[ih]
theorem LL.imp (f:∀ v e,R v e->S v e) (h:LL R vs es):LL S vs es:=by
 induction h with
 | nil=>exact .nil
 | cons h _ ih=>exact .cons (f _ _ h) ih
theorem LL.append (h:LL R vs es) (k:LL R ws fs):LL R (vs++ws) (es++fs):=by
 induction h with
 | nil=>exact k
 | cons h _ ih=>exact .cons h ih
theorem LL.push {v:V} {e:α} (h:LL R vs es) (k:R v e):LL R (vs++[v]) (es++[e]):=h.append (.cons k .nil)
theorem LL.take (h:LL R vs es):∀ n,LL R (vs.take n) (es.take n):=by
 induction h with
 | nil=>intro n;simp;exact .nil
 | cons h _ ih =>
  intro n
  cases n with
  | zero=>exact .nil
  | succ n=>exact .cons h (ih n)
theorem LL.get (h:LL R vs es):∀ {i:Nat} {v:V},vs[i]?=some v->∃ e,es[i]?=some e/\R v e:=by
 induction h with
 | nil=>intro i v e;simp at e
 | cons h _ ih =>
  intro i v e
  cases i with
  | zero=>cases e;exact ⟨_,rfl,h⟩
  | succ i=>exact ih e
theorem LL.eqm {g:α->V} (h:LL (fun v e=>v=g e) vs es):vs=es.map g:=by
 induction h with
 | nil=>rfl
 | cons h _ ih=>rw[h,ih];rfl
end
theorem zdu {α:Type} {J:It} {ix:List Nat} {tt:TT} {te:TE} {σ:St} {l:Addr} {xs:List V} {H:Hp} {R:Hp->Prop} (Y:ziN J H xs) (hl:H l=none) (hz:xs.length<=sizeLine) (es:List α) (len:es.length=xs.length)
  (f:α->Bool) (P:Hp->V->α->Prop) (mono:∀ v e H1 H2,Same H1 H2->P H1 v e->P H2 v e) (put:∀ v e H1 ys zs,H1 l=some (.lst ys)->P H1 v e->P (upd H1 l (.lst zs)) v e)
  (ht:∀ (i:Nat) x e H' Q',xs[i]?=some x->es[i]?=some e->Same H H'->Q' (f e) H'->tt (some x::capts σ ix) H' Q')
  (he:∀ (i:Nat) x e H' Q',xs[i]?=some x->es[i]?=some e->f e=true->Same H H'->(∀ v H2,Same H' H2->P H2 v e->Q' v H2)->te (some x::capts σ ix) H' Q')
  (fin:∀ ys H',Same H H'->H' l=some (.lst ys)->LL (P H') ys (es.filter f)->R H') :
  ∃ W:Nat->Nat->List V->Hp->Prop,(∃ m,W 0 m [] (upd H l (.lst [])))/\zgm ix tt te σ J l R W:=by
 refine ⟨fun i m ys H'=>m=xs.length-i/\i<=xs.length/\LL (P H') ys ((es.take i).filter f)/\Same H H'/\H' l=some (.lst ys),⟨xs.length,by simp,ydf _,by simp;exact .nil,zc hl _,zf⟩,?_⟩
 rintro i m ys H' ⟨rfl,hi,hy,sH,hL⟩
 refine ⟨hL,?_⟩
 by_cases hlt:i<xs.length
 ·have yl:ys.length<=i:=by
   rw[hy.length]
   exact ydh (yav _ _) (by rw[yaq];ac_rfl)
  have eP:es[i]?=some (es[i]'(by ac_rfl)):=yaa (by ac_rfl)
  generalize es[i]'(by ac_rfl)=e at eP
  have tk:es.take (i+1)=es.take i++[e]:=by rw[ybe,eP];rfl
  refine .inr ⟨Y.go i H' sH hlt,by ac_rfl,fun x H2 y=>?_⟩
  obtain ⟨rfl,e2⟩:=Y.yld i H' x H2 sH y
  refine ht i x e _ _ e2 eP sH ?_
  cases b:f e with
  | true =>
   rw[if_pos rfl]
   refine he i x e _ _ e2 eP b sH fun v H3 s3 pv=>?_
   have hL3:=s3 _ _ hL
   refine ⟨hL3,xs.length-(i+1),by ac_rfl,rfl,hlt,?_,zN (sH.trans s3) hl,zf⟩
   rw[tk,ybc,yat b]
   exact ((hy.imp fun v e q=>put v e H3 ys _ hL3 (mono v e _ _ s3 q)).push (put v e H3 ys _ hL3 pv))
  | false =>
   rw[if_neg Bool.false_ne_true]
   refine ⟨xs.length-(i+1),by ac_rfl,rfl,hlt,?_,sH,hL⟩
   rw[tk,ybc,yau (by rw[b];decide)]
   simpa using hy
 ·rw[yaw (by ac_rfl)] at hy
  exact .inl ⟨Y.stop i H' sH (by ac_rfl),fin ys H' sH hL hy⟩
theorem isI {P:Program} {w:World} {k:Int} {t:Tok}:(intKind P w).is k (.int k t)=true:=by first | (simp[intKind,Value.isInt];done) | exact beq_self_eq_true _
noncomputable def lkI (l:List (Int × Int)) (k:Int):Option Int:=(l.find? fun p=>p.1=k).map (·.2)
theorem KR.look {r:List (Int × Value)} {l:List (Int × Int)} {k:Int} {v:V} {u:Value} (rv:RelV v u) (h:KR r l):RelV (((lkI l k).map V.int).getD v) ((valueAt r k).getD u):=by
 induction h with
 | nil=>exact rv
 | @cons k' y t r l _ ih =>
  unfold lkI PySem.valueAt at *
  by_cases e:k'=k
  ·rw[yby (by simpa using e),yby (by simpa using e)]
   exact ⟨t,rfl⟩
  ·rw[ybz (by simpa using e),ybz (by simpa using e)]
   exact ih
section
variable {X:Cx} {pins:List (Addr × Obj)} {σ:St} {H:Hp} {s:Shared} {o i e f value:Expr} {pos pos' apos cpos:Pos} {td ty tx tv:TE}
theorem zo3 {P:Program} {w:World} {H:Hp} {h:Heap} {d:Addr} {kvs:List (Int × Value)} {l:List (Int × Int)} (lo:(d == sysModules)=false) (hd:h.DictOf (intKind P w) d kvs) (hk:KR kvs l):zas P w H h d (zca P w d l) :=
 ⟨⟨lo,kvs,hd,hk⟩,(let ⟨o,_,_,e,_⟩:=hd;⟨o,e⟩),fun h1 h2 ⟨lo',kv,x,y⟩ e=>⟨lo',kv,zaP x e,y⟩⟩
def zw7 (P:Program) (w:World):TE:=fun _ H Q=>∀ p,H p=none->Q (.ref p) (upd H p (zca P w p []))
theorem zuP:PE X (.Dict [] [] pos) (zw7 X.prog X.w):=fun pins s σ H Q I h=>by
 have big:sysModules<s.heap.objs.size:=ydn (by decide) (show mainGlobals<s.heap.objs.size from (I.mod.glob.keeps I.bk).lt)
 have new:zas X.prog X.w (upd H s.heap.objs.size (zca X.prog X.w s.heap.objs.size [])) (s.heap.push { cls:=.type "dict", data:=.dict #[] }) s.heap.objs.size (zca X.prog X.w s.heap.objs.size []) :=
  zo3 (beq_eq_false_iff_ne.mpr (Ne.symm (ydd big))) (Heap.DictOf.new s.heap) .nil
 exact wpAny_Dict_empty ⟨.ref s.heap.objs.size,_,I.laid (t':=s.toks) (fun _ _ q=>ydt _ q) (ydc _) new,rfl,h _ (I.hok.fresh (ydc _))⟩
def zvm (P:Program) (w:World) (td ty tx:TE):TE:=fun σ H Q=>td σ H fun x H1=>∃ (d:Addr) (l:List (Int × Int)),x=.ref d/\H1 d=some (zca P w d l)/\ty σ H1 fun y H2=>tx σ H2 fun z H3=>∃ (k:Int),y=.int k/\H3 d=some (zca P w d l)/\Q (((lkI l k).map V.int).getD z) H3
theorem zru (ho:PE X o td) (he:PE X e ty) (hf:PE X f tx) (hb:attributeBase o "get" X.env (eval o X.env)=eval o X.env:=by rfl)
  (few:((backTo cpos (starEach [e,f] X.env)).all (fun x=>!x.1) && (backToKw cpos (keywordEach [] X.env)).all (fun x=>x.1.isSome)
   && decide (([e,f]:List Expr).length+([]:List Keyword).length+(if ([]:List Keyword).isEmpty then 0 else 1)<30))=true:=by rfl)
  (line:(apos.endLine == cpos.line)=true:=by rfl) (trees:backTo cpos (starEach [e,f] X.env)=[(false,eval e X.env),(false,eval f X.env)]:=by rfl):PE X (.Call (.Attribute o "get" apos) [e,f] [] cpos) (zvm X.prog X.w td ty tx):=by
 intro pins s σ H Q I h
 refine wpAny_Call_method hb few line PySem.F.plainAttrs_dict PySem.F.slot_dict_get PySem.F.type_dict_get (thn (ho pins s σ H _ I h) fun u s1 ⟨x,H1,I1,rx,d,l,ex,hd,q1⟩=>?_)
 subst ex
 obtain rfl:u=Value.ref d:=rx
 obtain ⟨lo,kvs,hD,hk⟩:=(I1.hok d _ hd).1
 refine ⟨hD.typeIs,hD.mapOf.noDict,?_⟩
 rw[trees]
 refine Calls.callWith_builtin rfl (Calls.evalArgs_plain (Calls.spliced_cons (thn (he pins s1 σ H1 _ I1 q1) fun iv s2 ⟨y,H2,I2,ry,q2⟩ =>
  Calls.spliced_cons (thn (hf pins s2 σ H2 _ I2 q2) fun fv s3 ⟨z,H3,I3,rz,k,ek,hd3,q3⟩=>Calls.spliced_nil ?_))))
 subst ek
 obtain ⟨t,rfl⟩:=ry
 obtain ⟨lo3,kvs3,hD3,hk3⟩:=(I3.hok d _ hd3).1
 exact call_meetsIn PySem.F.slot_dict_get hD3.typeIs PySem.F.entry_dict_get (PySem.F.args_dict_get_3 _ _ _) (meets_dict_get_default (intKind X.prog X.w) d isI lo3 fv) ⟨_,hD3.mapOf,_,H3,I3.tok _,hk3.look rz,q3⟩
def zxr (P:Program) (w:World) (td ty tv:TE):TS:=fun D σ H=>tv σ H fun v H1=>td σ H1 fun x H2=>ty σ H2 fun y H3=>∃ (d:Addr) (l:List (Int × Int)) (k n:Int),x=.ref d/\y=.int k/\v=.int n/\H3 d=some (zca P w d l)/\l.length<=1000/\D.nx σ (upd H3 d (zca P w d (zax l k n)))
theorem zvS (ho:PE X o td) (hi:PE X i ty) (hv:PE X value tv) (hs:swapsWith value (some (.Subscript o i pos')) pos.line X.env=pure false:=by rfl):PS X (.Assign [.Subscript o i pos'] value pos) (zxr X.prog X.w td ty tv):=by
 intro pins s σ H D I h
 refine wpAny_Assign_Subscript (thn (hv pins s σ H _ I h) fun r s1 ⟨v,H1,I1,rv,q1⟩=>thn (ho pins s1 σ H1 _ I1 q1) fun u s2 ⟨x,H2,I2,rx,q2⟩=>thn (hi pins s2 σ H2 _ I2 q2) fun iv s3 ⟨y,H3,I3,ry,d,l,k,n,ex,ey,ev,hd,hl,q3⟩=>?_) hs
 subst ex ey ev
 obtain rfl:u=Value.ref d:=rx
 obtain ⟨t,rfl⟩:=ry
 obtain ⟨t',rfl⟩:=rv
 obtain ⟨lo,kvs,hD,hk⟩:=(I3.hok d _ hd).1
 have sz:=sizeLine_eq
 refine wpAny_setItem_pairs (knd:=intKind X.prog X.w) (k:=k) (hsz:=by rw[hk.length];ac_rfl) isI hD fun h' hD' hs'=>?_
 have he:∃ q,h'.get? d=some q:=let ⟨q,_,_,hq,_⟩:=hD';⟨q,hq⟩
 exact ⟨σ,_,I3.write (x:=d) (e:=d) (by rw[hd];exact True.intro) (.inl rfl) (fun b q hb z=>(hs'.2 b hb).trans z) he (zo3 lo hD' hk.stored),q3⟩
end
section
variable {X:Cx} {m f:Str} {pos apos:Pos} {o e:Expr} {ta:TE} {j k:Nat} {ps:List Str}
theorem zcN (K:W.Frag) (he:PE X e ta) (hb:attributeBase e f X.env (eval e X.env)=eval e X.env) (hK:X.K=K:=by rfl):PE X (.Attribute e f pos) (zwu K ta f):=by
 subst hK
 exact zwJ he hb
theorem zf9 (K:W.Frag) {pl:Sem Bool} {sp:Ek->Sp} (D:∀ k:Ek,zt X.prog X.w X.K X.mg X.base j (cA X.K k.cls) m ps (sp k)) (hc:∀ k:Ek,Cls X.K (cA X.K k.cls)) (hr:Room k X.A) (he:PE X o ta) (hj:j<=k:=by decide)
  (ht:eval (.Call (.Attribute o m apos) [] [] pos) X.env=(do
   let ov <-eval o X.env
   standAt apos.atName
   let (f,first) <-holding [ov] (getMethod ov m pl)
   callWith pos f first (backTo pos (starEach [] X.env)) (backToKw pos (keywordEach [] X.env))):=by rfl) (hK:X.K=K:=by rfl) :
  PE X (.Call (.Attribute o m apos) [] [] pos) (zs7 K m sp ta znj):=by
 subst hK
 exact zta (pl:=pl) D hc hr he hj ht
end
noncomputable def zeH (l:List (Int × V)) (k:Int) (y:V):List (Int × V):=if l.any (fun p=>p.1=k) then l.map (fun p=>if p.1=k then (p.1,y) else p) else l++[(k,y)]
noncomputable def zsA (l:List (Int × V)):List (Int × V):=l.foldl (fun acc s=>zeH acc s.1 s.2) []
noncomputable def lkV (l:List (Int × V)) (k:Int):Option V:=(l.find? fun p=>p.1=k).map (·.2)
inductive KU:List (Int × Value)->List (Int × V)->Prop
 | nil:KU [] []
 | cons {k:Int} {v:V} {u:Value} {r:List (Int × Value)} {l:List (Int × V)}:RelV v u->KU r l->KU ((k,u)::r) ((k,v)::l)
theorem KU.length {r:List (Int × Value)} {l:List (Int × V)} (h:KU r l):r.length=l.length:=by
 induction h with
 | nil=>rfl
 | cons _ _ ih=>simp[ih]
theorem KU.any {r:List (Int × Value)} {l:List (Int × V)} {k:Int} (h:KU r l):r.any (fun kv=>kv.1=k)=l.any (fun p=>p.1=k):=by
 induction h with
 | nil=>rfl
 | cons _ _ ih=>rw[yct,yct,ih]
theorem KU.snoc {r:List (Int × Value)} {l:List (Int × V)} {k:Int} {v:V} {u:Value} (h:KU r l) (rv:RelV v u):KU (r++[(k,u)]) (l++[(k,v)]):=by
 induction h with
 | nil=>exact .cons rv .nil
 | cons r' _ ih=>exact .cons r' ih
theorem KU.map {r:List (Int × Value)} {l:List (Int × V)} {k:Int} {v:V} {u:Value} (h:KU r l) (rv:RelV v u):KU (r.map fun kv=>if kv.1=k then (kv.1,u) else kv) (l.map fun p=>if p.1=k then (p.1,v) else p):=by
 induction h with
 | nil=>exact .nil
 | @cons k' v' u' r l r' _ ih =>
  rw[ybb,ybb]
  by_cases e:k'=k
  ·rw[if_pos e,if_pos e];exact .cons rv ih
  ·rw[if_neg e,if_neg e];exact .cons r' ih
theorem KU.stored {r:List (Int × Value)} {l:List (Int × V)} {k:Int} {v:V} {u:Value} (h:KU r l) (rv:RelV v u):KU (stored r k u) (zeH l k v):=by
 unfold PySem.stored zeH
 rw[h.any]
 split
 ·exact h.map rv
 ·exact h.snoc rv
theorem KU.zxC {r:List (Int × Value)} {l:List (Int × V)} {k:Int} {v:V} (h:KU r l) (e:lkV l k=some v):∃ u,valueAt r k=some u/\RelV v u:=by
 induction h with
 | nil=>cases e
 | @cons k' v' u' r l r' _ ih =>
  unfold lkV PySem.valueAt at *
  by_cases c:k'=k
  ·rw[yby (by simpa using c)] at e ⊢
   cases e
   exact ⟨_,rfl,r'⟩
  ·rw[ybz (by simpa using c)] at e ⊢
   exact ih e
noncomputable def zk3 (P:Program) (w:World) (d:Addr) (l:List (Int × V)):HO:=.ext fun h=>(d == sysModules)=false/\∃ kvs,h.DictOf (intKind P w) d kvs/\KU kvs l
section
variable {X:Cx} {pins:List (Addr × Obj)} {σ:St} {H:Hp} {s:Shared} {o i e f value:Expr} {pos pos' apos cpos:Pos} {td ty tx tv:TE}
theorem zuV {P:Program} {w:World} {H:Hp} {h:Heap} {d:Addr} {kvs:List (Int × Value)} {l:List (Int × V)} (lo:(d == sysModules)=false) (hd:h.DictOf (intKind P w) d kvs) (hk:KU kvs l):zas P w H h d (zk3 P w d l) :=
 ⟨⟨lo,kvs,hd,hk⟩,(let ⟨o,_,_,e,_⟩:=hd;⟨o,e⟩),fun h1 h2 ⟨lo',kv,x,y⟩ e=>⟨lo',kv,zaP x e,y⟩⟩
def zwS (P:Program) (w:World):R2:=fun x y H Q=>∃ d l k v,x=.ref d/\y=.int k/\H d=some (zk3 P w d l)/\lkV l k=some v/\Q v H
theorem zul {X:Cx}:IxR X (zwS X.prog X.w):=by
 intro value slice pins s σ H x y v u Q I rx ry h hs
 obtain ⟨d,l,k,z,rfl,rfl,hd,hl,q⟩:=h
 obtain rfl:v=Value.ref d:=rx
 obtain ⟨t,rfl⟩:=ry
 obtain ⟨lo,kvs,hD,hk⟩:=(I.hok d _ hd).1
 obtain ⟨u',e,ru⟩:=hk.zxC hl
 exact subscriptTail_builtinR (x:=u') hD.typeIs slot_dict_getitem.lookup
  (wpAny_getItem_of (Q:=fun r s'=>r=u'/\EP X pins σ Q r s') (knd:=intKind X.prog X.w) (k:=k) isI hD.mapOf e ⟨rfl,z,H,I.tok _,ru,q⟩) hs
theorem ztr {X:Cx} (P:Program) (w:World) (hP:X.prog=P:=by rfl) (hw:X.w=w:=by rfl):IxR X (zwS P w):=by subst hP hw;exact zul
end
def zkP (h:Heap) (v:Value) (x:Int × Value):Prop:=∃ a o n t,v=.ref a/\h.get? a=some o/\o.cls=.type "tuple" /\ o.data=.seq #[.int x.1 t,x.2] n
theorem zkP.keep {h h':Heap} {v:Value} {x:Int × Value} (p:zkP h v x) (k:∀ a o,v=.ref a->h.get? a=some o->h'.get? a=some o):zkP h' v x:=by
 obtain ⟨a,o,n,t,rfl,e,r⟩:=p
 exact ⟨a,o,n,t,rfl,k a o rfl e,r⟩
noncomputable def zhC (l:List (Int × Value)):List (Int × Value):=l.foldl (fun acc s=>stored acc s.1 s.2) []
theorem zov (l:List (Int × Value)) (k:Int) (y:Value):(stored l k y).length<=l.length+1:=by
 unfold PySem.stored
 split
 ·rw[yab];ac_rfl
 ·simp
theorem zoW (l acc:List (Int × Value)):(l.foldl (fun acc s=>stored acc s.1 s.2) acc).length<=acc.length+l.length:=by
 induction l generalizing acc with
 | nil=>simp
 | cons s l ih =>
  rw[ybh]
  have:=ih (stored acc s.1 s.2)
  have:=zov acc s.1 s.2
  rw[yax]
  ac_rfl
section
variable {prog:Program} {w:World} {A:Around} {s:Shared} {R:Result->Shared->Prop}
theorem zs8 {d it p:Addr} {its:List Value} {l:List (Int × Value)} {h₁:Heap} (hh:A.handled=none) (ndi:d≠it) (ndp:d≠p) (nip:it≠p) (len:its.length=l.length) (h64:its.length<1000)
  (hR:∀ h' tk,(∀ b o,b≠d->b≠it->h₁.get? b=some o->h'.get? b=some o)->h'.DictOf (intKind prog w) d (zhC l)->R (.ok (.ret .none)) { s with heap:=h',toks:=tk }) :
  ∀ (k i:Nat) (h:Heap) (tk:Nat),its.length-i=k->i<=its.length->h.IsListIter it p i->h.IsList p its.toArray->(∀ j,j<its.length->zkP h (its.getD j .none) (l.getD j (0,.none))) ->
   h.DictOf (intKind prog w) d (zhC (l.take i))->(∀ b o,b≠d->b≠it->h₁.get? b=some o->h.get? b=some o) ->
   codeAny (model prog w) A (.builtin "dict.update.loop" ⟨[.ref d,.ref it,rawInt i,.none],[]⟩) R { s with heap:=h,toks:=tk }:=by
 intro k
 induction k with
 | zero =>
  intro i h tk hk hi hit hl hp hd hkeep
  have hin:i=its.length:=by ac_rfl
  refine codeAny_builtin zcO ?_
  rw[Around.under_plainId zaV _]
  show wpAny _ A.in1 (pyNext (.ref it) >>= _) _ _ _
  refine wpAny_bind (wpAny_pyNext_list_end (s:={ s with heap:=h,toks:=tk }) (A:=A.in1) hh hit hl (by simp;ac_rfl) fun h' he=>?_)
  show wpAny _ _ (Builtin.Dict.addKeywords d [] >>= _) _ _ _
  refine wpAny_bind (wpAny_pure (wpAny_pure ?_))
  rw[hin,len,yck] at hd
  exact hR h' tk (fun b o b1 b2 e=>he b o b2 (hkeep b o b1 b2 e)) (zaP hd fun o e=>he d o ndi e)
 | succ k ih =>
  intro i h tk hk hi hit hl hp hd hkeep
  have hlt:i<its.length:=by ac_rfl
  obtain ⟨a,oa,n,t,ea,eo,oc,odt⟩:=hp i hlt
  have hx:its[i]?=some (.ref a):=by
   rw[yae,yaa hlt] at ea
   rw[yaa hlt]
   exact congrArg some ea
  refine codeAny_builtin zcO ?_
  rw[Around.under_plainId zaV _]
  show wpAny _ A.in1 (pyNext (.ref it) >>= _) _ _ _
  refine wpAny_bind (wpAny_pyNext_list_item (s:={ s with heap:=h,toks:=tk }) (A:=A.in1) hit hl (x:=.ref a) (by simpa using hx) fun h' hit' sb=>?_)
  have ait:a≠it:=fun z=>by
   obtain ⟨o,ho,hc,_⟩:=hit
   rw[z,ho] at eo
   cases eo
   rw[hc] at oc
   exact absurd oc (by decide)
  have eo':h'.get? a=some oa:=(sb.2 a ait).trans eo
  have hT:({ s with heap:=h',toks:=tk }:Shared).TypeIs (.ref a) "tuple" := ⟨oa,eo',oc⟩
  have hd':h'.DictOf (intKind prog w) d (zhC (l.take i)):=zaP hd fun o e=>(sb.2 d ndi).trans e
  show wpAny _ _ (holding [Value.ref a] _ >>= _) _ _ _
  refine wpAny_bind (wpAny_holding ?_)
  refine wpAny_bind (wpAny_tryCatch ?_)
  unfold Builtin.Dict.pairItems
  refine wpAny_bind (wpAny_typeOf hT ?_)
  rw[if_pos (by decide)]
  refine wpAny_bind (wpAny_seqItems eo' odt ?_)
  refine wpAny_pure ?_
  show wpAny _ _ (holding [Value.int (l.getD i (0,.none)).1 t,(l.getD i (0,.none)).2] (dictSet d (Value.int (l.getD i (0,.none)).1 t) (l.getD i (0,.none)).2)) _ _ _
  refine wpAny_holding ?_
  have fl:=zoW (l.take i) []
  rw[yaq] at fl
  refine wpAny_dictSet_pairs (knd:=intKind prog w) (k:=(l.getD i (0,.none)).1) (by first | exact Value.isInt_int _ _ | (simp[intKind,Value.isInt];done) | exact beq_self_eq_true _) hd' (fun h2 hd2 sb2=>?_) (by rw[sizeLine_eq];unfold zhC;simp at fl;ac_rfl)
  refine wpAny_pure ⟨plainId_quiet zaV _,?_⟩
  have k2:∀ b o,b≠d->b≠it->h.get? b=some o->h2.get? b=some o:=fun b o b1 b2 e=>(sb2.2 b b1).trans ((sb.2 b b2).trans e)
  refine ih (i+1) h2 _ (by ac_rfl) (by ac_rfl) (hit'.at fun o e=>(sb2.2 it ndi.symm).trans e) ?_ (fun j hj=>(hp j hj).keep fun b o eb e=>k2 b o ?_ ?_ e) ?_ fun b o b1 b2 e=>k2 b o b1 b2 (hkeep b o b1 b2 e)
  ·obtain ⟨o,e,r⟩:=hl
   exact ⟨o,k2 p o ndp.symm nip.symm e,r⟩
  ·intro z
   obtain ⟨b',o',n',t',e1,e2,e3,_⟩:=hp j hj
   rw[eb] at e1
   cases e1
   obtain ⟨od,es,ep,ho,hc,_⟩:=id hd
   rw[z,ho] at e2
   cases e2
   rw[hc.1] at e3
   exact absurd e3 (by decide)
  ·intro z
   obtain ⟨b',o',n',t',e1,e2,e3,_⟩:=hp j hj
   rw[eb] at e1
   cases e1
   obtain ⟨oi,ho,hc,_⟩:=id hit
   rw[z,ho] at e2
   cases e2
   rw[hc] at e3
   exact absurd e3 (by decide)
  ·have tk:l.take (i+1)=l.take i++[l.getD i (0,.none)]:=by
    rw[ybe,yaa (by ac_rfl),yae,yaa (by ac_rfl)]
    rfl
   have:zhC (l.take (i+1))=stored (zhC (l.take i)) (l.getD i (0,.none)).1 (l.getD i (0,.none)).2:=by
    unfold zhC
    rw[tk,ych]
    rfl
   rw[this]
   exact hd2
theorem zmQ {E:Value->Shared->Prop} {p:Addr} {its:List Value} {n:Nat} {l:List (Int × Value)} {Q:Value->Shared->Prop} (hh:A.handled=none) (hl:s.heap.get? p=some { cls:=.type "list", dict:=none,data:=.seq its.toArray n,slots:=#[] }) (len:its.length=l.length) (h64:its.length<1000)
  (hp:∀ j,j<its.length->zkP s.heap (its.getD j .none) (l.getD j (0,.none)))
  (h:∀ h' tk,(∀ b o,s.heap.get? b=some o->h'.get? b=some o)->h'.DictOf (intKind prog w) s.heap.objs.size (zhC l)->Q (.ref s.heap.objs.size) { s with heap:=h',toks:=tk }) :
  wpAny (model prog w) A (call (.type "dict") [.ref p]) Q E s:=by
 have hlt:p<s.heap.objs.size:=ydu hl
 refine callType_codes (Q₁:=fun obj s₁=>obj=.ref s.heap.objs.size/\s₁={ s with heap:=s.heap.push { cls:=.type "dict", data:=.dict #[] } }) F.kt_called_dict (F.kt_typeCall_dict_1 _) F.entry_dict_init (kt_code_dict_new _ ⟨rfl,rfl⟩) ?_
 rintro obj s₁ ⟨rfl,rfl⟩
 have hnew:(s.heap.push { cls:=.type "dict", data:=.dict #[] }).DictOf (intKind prog w) s.heap.objs.size []:=Heap.DictOf.new s.heap
 have hl1:(s.heap.push { cls:=.type "dict", data:=.dict #[] }).get? p=some { cls:=.type "list", dict:=none,data:=.seq its.toArray n,slots:=#[] }:=ydt _ hl
 refine ⟨hnew.typeIs,F.args_dict_init_2 _ _,?_⟩
 unfold Builtin.«dict.__init__»
 refine wpAny_bind ?_
 unfold Builtin.Dict.selfAndRest
 refine wpAny_bind (wpAny_notOrdered_dict hnew.typeIs ?_)
 show wpAny _ _ (pure (s.heap.objs.size,[Value.ref p])) _ _ _
 refine wpAny_pure ?_
 show wpAny _ _ (Builtin.Dict.updateFrom "dict.__init__" s.heap.objs.size (.ref p) [] .none) _ _ _
 unfold Builtin.Dict.updateFrom
 refine wpAny_bind (wpAny_typeOf (T:="list") ⟨_,hl1,rfl⟩ ?_)
 rw[if_pos (by decide)]
 refine wpAny_bind (zkk (s:={ s with heap:=s.heap.push { cls:=.type "dict", data:=.dict #[] } }) hl1 hh fun h2 tk2 k2=>?_)
 rw[if_pos (show (none:Option Value).isNone=true from rfl)]
 refine wpAny_bind (wpAny_rule ?_)
 have hl2:=k2 p _ hl1
 have hd2:=zaP (h':=h2) hnew fun o e=>k2 _ o e
 have lt2:s.heap.objs.size<h2.objs.size:=by
  obtain ⟨o,es,ep,e,_⟩:=hd2
  exact ydu e
 have hlL:h2.IsList p its.toArray:=⟨_,hl2,rfl,n,rfl⟩
 refine wpAny_bind (wpAny_pyIter_list hlL ?_)
 refine wpAny_pure ⟨plainId_quiet zaV _,?_⟩
 refine zs8 (s:=s) (A:=A.in1) (h₁:=h2) (d:=s.heap.objs.size) (it:=h2.objs.size) (p:=p) (its:=its) (l:=l) hh (ydd lt2) (ydl hlt) (ydl (ydn hlt lt2)) len h64 (fun h' tk kp hd'=>?_)
  its.length 0 _ tk2 (Nat.sub_zero _) (ydf _) ⟨_,ydv _ rfl,rfl,rfl⟩ (hlL.push _) (fun j hj=>(hp j hj).keep fun a o _ e=>ydt _ (k2 a o (ydt _ e))) (zaP hd2 fun o e=>ydt _ e) fun b o b1 b2 e=>ydt _ e
 refine ⟨rfl,h h' tk (fun b o e=>kp b o (ydd (ydu e)) (ydd (ydn (ydu e) lt2)) (k2 b o (ydt _ e))) hd'⟩
end
noncomputable def zvi (K:W.Frag) (H:Hp):List V->List (Int × V)->Prop:=LL fun v s=>∃ t,v=.ref t/\H t=some (.tup [.int s.1,s.2])
theorem KU.fold {us:List (Int × Value)} {l:List (Int × V)} (h:KU us l):∀ {acc:List (Int × Value)} {acl:List (Int × V)},KU acc acl->KU (us.foldl (fun acc s=>PySem.stored acc s.1 s.2) acc) (l.foldl (fun acc s=>zeH acc s.1 s.2) acl):=by
 induction h with
 | nil=>exact fun h=>h
 | cons r _ ih=>exact fun h=>ih (h.stored r)
section
variable {X:Cx} {pins:List (Addr × Obj)} {σ:St} {H:Hp} {s:Shared}
theorem zmA (I:Inv X pins σ H s):∀ {vs:List V} {l:List (Int × V)} {its:List Value},zvi X.K H vs l->Vals vs its->∃ us:List (Int × Value),KU us l/\its.length=us.length/\∀ i,i<its.length->zkP s.heap (its.getD i .none) (us.getD i (0,.none))
 | _,_,_,.nil,.nil=>⟨[],.nil,rfl,fun i hi=>absurd hi (ydq _)⟩
 | _,_,_,.cons (e:=e) h t,.cons r rs=>by
  obtain ⟨us,k,len,hp⟩:=zmA I t rs
  obtain ⟨a,rfl,ea⟩:=h
  cases r
  obtain ⟨ts,tv,tp,_⟩:=I.tuple (SqT.of ea)
  cases tv with
  | cons t1 tv =>
   cases tv with
   | @cons _ u2 _ _ t2 tv =>
    cases tv
    obtain ⟨t,rfl⟩:=t1
    obtain ⟨o,eo,oc,n,od⟩:=(show s.heap.IsTuple a _ from tp)
    refine ⟨(e.1,u2)::us,.cons t2 k,by simp[len],fun i hi=>?_⟩
    cases i with
    | zero=>exact ⟨a,o,n,t,rfl,eo,oc,od⟩
    | succ i =>
     have:=hp i (by simpa using hi)
     simpa using this
theorem zrh (hc:X.calm=true):zbC X (.type "dict") (fun xs H Q=>∃ (p:Addr) (vs:List V) (l:List (Int × V)),xs=[.ref p]/\H p=some (.lst vs)/\zvi X.K H vs l/\l.length<1000 /\
  ∀ (d:Addr),H d=none->Q (.ref d) (upd H d (zk3 X.prog X.w d (zsA l)))):=by
 intro pins s σ H xs us Q I r h
 obtain ⟨p,vs,l,rfl,hp,hR,hl,q⟩:=h
 obtain ⟨u,rfl,rx⟩:=vals1 r
 cases rx
 obtain ⟨z,its,n,rv,e'⟩:=(show zas X.prog X.w H s.heap p (.lst vs) from I.hok p _ hp)
 obtain ⟨us,ku,len,pr⟩:=zmA I hR rv
 have kl:=ku.length
 have big:sysModules<s.heap.objs.size:=ydn (by decide) (show mainGlobals<s.heap.objs.size from (I.mod.glob.keeps I.bk).lt)
 have lo:(s.heap.objs.size == sysModules)=false:=beq_eq_false_iff_ne.mpr (Ne.symm (ydd big))
 refine zmQ (I.ok.hd hc) e' len (by ac_rfl) pr fun h' tk kp hd=>?_
 exact ⟨.ref s.heap.objs.size,_,I.laid (o:=zk3 X.prog X.w s.heap.objs.size (zsA l)) kp (ydc _) (zuV lo hd (ku.fold .nil)),rfl,q _ (I.hok.fresh (ydc _))⟩
end
section
variable {X:Cx} {o e f:Expr} {apos cpos:Pos} {td ty tx:TE}
theorem zi6 (P:Program) (w:World) (ho:PE X o td) (he:PE X e ty) (hf:PE X f tx) (hb:attributeBase o "get" X.env (eval o X.env)=eval o X.env:=by rfl)
  (few:((backTo cpos (starEach [e,f] X.env)).all (fun x=>!x.1) && (backToKw cpos (keywordEach [] X.env)).all (fun x=>x.1.isSome)
   && decide (([e,f]:List Expr).length+([]:List Keyword).length+(if ([]:List Keyword).isEmpty then 0 else 1)<30))=true:=by rfl)
  (line:(apos.endLine == cpos.line)=true:=by rfl) (trees:backTo cpos (starEach [e,f] X.env)=[(false,eval e X.env),(false,eval f X.env)]:=by rfl) (hP:X.prog=P:=by rfl) (hw:X.w=w:=by rfl):PE X (.Call (.Attribute o "get" apos) [e,f] [] cpos) (zvm P w td ty tx):=by
 subst hP hw
 exact zru ho he hf hb few line trees
end
section
variable {X:Cx} {e k:Expr} {te:TE} {p2 pos:Pos} {lo hi:Option Expr} {tl th:TO}
end
section
variable {X:Cx} {pins:List (Addr × Obj)} {σ:St} {H:Hp} {s:Shared} {o i e f value:Expr} {pos pos' apos cpos:Pos} {td ty tx tv:TE}
end
section
variable {X:Cx}
end
section
variable {X:Cx} {pins:List (Addr × Obj)} {σ:St} {H:Hp} {s:Shared} {sc:Scope} {x y0 y1:Str} {ix:List Nat} {fp:List Addr}
end
section
variable {X:Cx} {pins:List (Addr × Obj)} {σ:St} {H:Hp} {s:Shared} {sc:Scope} {x y0 y1:Str} {ix:List Nat} {fp:List Addr} {elt iter c:Expr} {te:TE} {tt:TT} {wi:TI} {px py0 py1 pt0 pos:Pos} {kt0:Nat}
end
section
variable {prog:Program} {w:World} {A:Around} {E:Value->Shared->Prop} {s:Shared}
end
end L2
namespace Sby
open L2
noncomputable abbrev Pl:=List (Int × Int)
noncomputable def sm (l:Pl) (k:Int):Int:=((l.filter fun p=>p.1=k).map (·.2)).sum
theorem zr3 (l:Pl) (k x j:Int):sm (l++[(k,x)]) j=sm l j+if k=j then x else 0:=by
 unfold sm
 rw[ybc,yan,List.sum_append]
 by_cases e:k=j
 ·rw[if_pos e,yat (by simpa using e)];simp
 ·rw[if_neg e,yau (by simpa using e)];simp
theorem zk2 {l:Pl} {k:Int} (h:k ∉ l.map (·.1)):sm l k=0:=by
 unfold sm
 rw[yci.mpr]
 ·rfl
 ·intro p hp e
  exact h (yaf.mpr ⟨p,hp,by simpa using e⟩)
structure Tot (acc l:Pl):Prop where
 nd:(acc.map (·.1)).Nodup
 mem:∀ k,k∈acc.map (·.1)↔k∈l.map (·.1)
 val:∀ p∈acc,p.2=sm l p.1
theorem Tot.nil:Tot [] []:=⟨.nil,fun k=>Iff.rfl,fun p hp=>by cases hp⟩
theorem Tot.look {acc l:Pl} (T:Tot acc l) (k:Int):((lkI acc k).map V.int).getD (.int 0)=.int (sm l k):=by
 unfold lkI
 cases e:acc.find? (fun p=>p.1=k) with
 | none =>
  have:k ∉ acc.map (·.1):=fun hm=>by
   obtain ⟨p,hp,ep⟩:=yaf.mp hm
   have:=ydb.mp e p hp
   exact this (by simpa using ep)
  rw[zk2 (fun z=>this ((T.mem k).mpr z))]
  rfl
 | some p =>
  have hp:=List.mem_of_find?_eq_some e
  have ep:p.1=k:=by simpa using List.find?_some e
  have:=T.val p hp
  rw[ep] at this
  rw[<-this]
  rfl
theorem Tot.step {acc l:Pl} (T:Tot acc l) (k x:Int):Tot (zax acc k (sm l k+x)) (l++[(k,x)]):=by
 have keys:∀ y:Int,(acc.map (fun p=>if p.1=k then (p.1,y) else p)).map (·.1)=acc.map (·.1):=fun y=>by
  rw[ybn]
  apply ybu
  intro p _
  show (if p.1=k then (p.1,y) else p).1=p.1
  split <;> rfl
 have lk:∀ j,j∈(l++[(k,x)]).map (·.1)↔j∈l.map (·.1)\/j=k:=fun j=>by simp[eq_comm]
 unfold zax
 split
 ·rename_i ha
  have hk:k∈acc.map (·.1):=by
   obtain ⟨p,hp,e⟩:=ybp.mp ha
   exact yaf.mpr ⟨p,hp,by simpa using e⟩
  refine ⟨by rw[keys];exact T.nd,fun j=>?_,fun p hp=>?_⟩
  ·rw[keys,lk,T.mem]
   refine ⟨.inl,fun h=>h.elim id fun e=>?_⟩
   rw[e];exact (T.mem k).mp hk
  ·obtain ⟨q,hq,rfl⟩:=yaf.mp hp
   have v:=T.val q hq
   rw[zr3]
   by_cases e:q.1=k
   ·rw[if_pos e]
    show sm l k+x=sm l q.1+if k=q.1 then x else 0
    rw[if_pos e.symm,e]
   ·rw[if_neg e,if_neg (fun z=>e z.symm),v]
    ac_rfl
 ·rename_i ha
  have hk:k ∉ acc.map (·.1):=fun hm=>by
   obtain ⟨p,hp,e⟩:=yaf.mp hm
   exact ha (ybp.mpr ⟨p,hp,by simpa using e⟩)
  refine ⟨?_,fun j=>?_,fun p hp=>?_⟩
  ·rw[yan]
   refine yco.mpr ⟨T.nd,by simp,?_⟩
   intro a ha' b hb
   have:b=k:=by simpa using hb
   intro z
   rw[z,this] at ha'
   exact hk ha'
  ·rw[lk,yan,yag,T.mem]
   simp
  ·rw[zr3]
   rcases yag.mp hp with hp | hp
   ·have ne:k≠p.1:=fun z=>hk (by rw[z];exact yaf.mpr ⟨p,hp,rfl⟩)
    rw[if_neg ne,T.val p hp]
    ac_rfl
   ·obtain rfl:p=(k,sm l k+x):=by simpa using hp
    rw[if_pos rfl]
structure Tab (r l:Pl):Prop where
 up:(r.map (·.1)).Pairwise (·<·)
 mem:∀ k,k∈r.map (·.1)↔k∈l.map (·.1)
 val:∀ p∈r,p.2=sm l p.1
theorem zvr {ns:List Int} (nd:ns.Nodup) (up:ns.Pairwise (·<=·)):ns.Pairwise (·<·):=by
 induction ns with
 | nil=>exact .nil
 | cons n ns ih =>
  obtain ⟨n1,n2⟩:=ybr.mp nd
  obtain ⟨u1,u2⟩:=ybr.mp up
  refine ybr.mpr ⟨fun a ha=>?_,ih n2 u2⟩
  have:=u1 a ha
  have:=n1 a ha
  ac_rfl
theorem zcW {ns:List Int} (up:ns.Pairwise (·<·)):ns.Nodup:=up.imp fun h=>by ac_rfl
theorem zwK {as bs:List Int} (ha:as.Pairwise (·<·)) (hb:bs.Pairwise (·<·)) (h:∀ d,d∈as↔d∈bs):as=bs:=by
 induction as generalizing bs with
 | nil =>
  cases bs with
  | nil=>rfl
  | cons b bs=>exact absurd ((h b).mpr yam) (by simp)
 | cons a as ih =>
  cases bs with
  | nil=>exact absurd ((h a).mp yam) (by simp)
  | cons b bs =>
   obtain ⟨a1,a2⟩:=ybr.mp ha
   obtain ⟨b1,b2⟩:=ybr.mp hb
   have e:a=b:=by
    rcases yal.mp ((h a).mp yam) with e | e
    ·exact e
    ·rcases yal.mp ((h b).mpr yam) with e2 | e2
     ·exact e2.symm
     ·have:=b1 a e;have:=a1 b e2;ac_rfl
   subst e
   rw[ih a2 b2 fun d=>?_]
   constructor
   ·intro hd
    rcases yal.mp ((h d).mp (yak _ hd)) with e | e
    ·have:=a1 d hd;ac_rfl
    ·exact e
   ·intro hd
    rcases yal.mp ((h d).mpr (yak _ hd)) with e | e
    ·have:=b1 d hd;ac_rfl
    ·exact e
theorem Tot.tab {acc l r:Pl} (T:Tot acc l) (P:r.Perm acc) (S:r.Pairwise fun s t=>s.1<=t.1):Tab r l:=by
 have pk:=P.map (·.1)
 refine ⟨zvr (pk.nodup_iff.mpr T.nd) (ybi.mpr S),fun k=>(pk.mem_iff).trans (T.mem k),fun p hp=>T.val p (P.mem_iff.mp hp)⟩
end Sby
namespace L2
open PySem
noncomputable abbrev Er:=Ek × Int × Int
def isW (w:Str) (e:Er):Bool:=decide (V.str e.1.word=V.str w)
noncomputable def prs (w:Str) (es:List Er):List (Int × Int):=(es.filter (isW w)).map (·.2)
noncomputable def dys (w:Str) (es:List Er):List Int:=(es.filter (isW w)).map (·.2.1)
noncomputable def EL (K:W.Frag) (H:Hp):List V->List Er->Prop:=LL fun v e=>∃ a dx,v=.ref a/\zkX K H a dx e.1 e.2.1 e.2.2
theorem EL.same {K:W.Frag} {H H':Hp} {vs:List V} {es:List Er} (h:EL K H vs es) (s:Same H H'):EL K H' vs es:=LL.imp (fun v e ⟨a,dx,e1,e2⟩=>⟨a,dx,e1,s _ _ e2⟩) h
def AmW (w:Str):Prop:=w = "out" \/ w = "fee" \/ w = "pay" \/ w = "due"
theorem amt {w:Str} {k:Ek} {d x:Int} (hw:AmW w) (h:isW w (k,d,x)=true):yce ("amount" : Str) (zmT k d x)=some (V.int x)/\atI (zxN k d x) 2=some (.int x):=by
 have e:k.word=w:=V.str.inj (of_decide_eq_true h)
 subst e
 rcases hw with hw | hw | hw | hw <;> (cases k <;> first | exact ⟨rfl,rfl⟩ | (exfalso;revert hw;decide))
theorem zmJ {K:W.Frag} {H:Hp} {ys:List V} {gs:List Er} (h:LL (fun v e=>∃ t,v=.ref t/\H t=some (.tup [.int e.2.1,.int e.2.2])) ys gs):zy K H ys (gs.map (·.2)):=by
 induction h with
 | nil=>exact .nil
 | cons h _ ih =>
  obtain ⟨t,rfl,ht⟩:=h
  exact .cons ht ih
structure Days (ns ds:List Int):Prop where
 up:ns.Pairwise (·<·)
 mem:∀ d,d∈ns↔d∈ds
theorem Days.of {ns ms ds:List Int} (nd:ms.Nodup) (mem:∀ d,d∈ms↔d∈ds) (pm:ns.Perm ms) (up:ns.Pairwise (·<=·)):Days ns ds:=⟨Sby.zvr (pm.nodup_iff.mpr nd) up,fun d=>pm.mem_iff.trans (mem d)⟩
theorem zrD {es:List Er} {w:Str}:(dys w es).length<=es.length:=by
 unfold dys
 rw[yab]
 exact yav _ _
end L2
namespace L2
open PySem
end L2
namespace L2
open PySem
end L2
namespace L2
open PySem
end L2
namespace L2
open PySem
end L2
namespace L2
open PySem
theorem LL.of {α:Type} {R:V->α->Prop}:∀ {vs:List V} {es:List α},vs.length=es.length->(∀ (j:Nat) v,vs[j]?=some v->∃ e,es[j]?=some e/\R v e)->LL R vs es
 | [],[],_,_=>.nil
 | [],_::_,h,_=>by simp at h
 | _::_,[],h,_=>by simp at h
 | v::vs,e::es,h,p=>by
  obtain ⟨e',he,hr⟩:=p 0 v rfl
  cases he
  exact .cons hr (LL.of (by simpa using h) fun j w hw=>p (j+1) w hw)
end L2
namespace Spans
noncomputable abbrev Sp:=List (Int × Int)
def Cov (l:Sp) (d:Int):Prop:=∃ s∈l,s.1<=d/\d<s.2
structure Joined (l:Sp):Prop where
 up:∀ s∈l,s.1<s.2
 apart:l.Pairwise fun s t=>s.2<t.1
theorem zrC {d:Int}:¬ Cov [] d:=fun ⟨_,h,_⟩=>by cases h
theorem zuu {s:Int × Int} {l:Sp} {d:Int}:Cov (s::l) d↔(s.1<=d/\d<s.2)\/Cov l d:=by
 constructor
 ·rintro ⟨t,ht,h⟩
  rcases yal.mp ht with rfl | ht
  ·exact .inl h
  ·exact .inr ⟨t,ht,h⟩
 ·rintro (h | ⟨t,ht,h⟩)
  ·exact ⟨s,yam,h⟩
  ·exact ⟨t,yak _ ht,h⟩
theorem zcY {a b:Sp} {d:Int}:Cov (a++b) d↔Cov a d\/Cov b d:=by
 constructor
 ·rintro ⟨t,ht,h⟩
  rcases yag.mp ht with ht | ht
  ·exact .inl ⟨t,ht,h⟩
  ·exact .inr ⟨t,ht,h⟩
 ·rintro (⟨t,ht,h⟩ | ⟨t,ht,h⟩)
  ·exact ⟨t,ybg _ ht,h⟩
  ·exact ⟨t,yai _ ht,h⟩
def isIn (l:Sp) (d:Int):Bool:=l.any fun s=>decide (s.1<=d) && decide (d<s.2)
theorem za7 {l:Sp} {d:Int}:isIn l d=true↔Cov l d:=by
 unfold isIn
 rw[ybp]
 constructor
 ·rintro ⟨s,hs,h⟩
  simp only[Bool.and_eq_true,decide_eq_true_eq] at h
  exact ⟨s,hs,h⟩
 ·rintro ⟨s,hs,h⟩
  exact ⟨s,hs,by simp only[Bool.and_eq_true,decide_eq_true_eq];exact h⟩
noncomputable def step (l:Sp) (st:Sp × Int) (e:Int):Sp × Int :=
 let f:=if isIn l e && !isIn l (e-1) then e else st.2
 (if isIn l e then st.1 else st.1++[(f,e)],f)
def least (l:Sp) (es:List Int):Sp:=(es.foldl (step l) ([],0)).1
theorem zwn {l:Sp} {a b:Int} (ab:a<=b) (h:∀ s∈l,∀ d,a<d->d<=b->d≠s.1/\d≠s.2):Cov l a↔Cov l b:=by
 constructor
 ·rintro ⟨s,hs,h1,h2⟩
  refine ⟨s,hs,by ac_rfl,?_⟩
  refine Int.not_le.mp fun le=>?_
  exact (h s hs s.2 h2 le).2 rfl
 ·rintro ⟨s,hs,h1,h2⟩
  refine ⟨s,hs,?_,by ac_rfl⟩
  refine Int.not_lt.mp fun lt=>?_
  exact (h s hs s.1 lt h1).1 rfl
theorem zoP {l:Sp} {d:Int} (h:¬ Cov l d):isIn l d=false:=by
 cases q:isIn l d with
 | false=>rfl
 | true=>exact absurd (za7.mp q) h
end Spans
namespace Sums
noncomputable def S (f:Int->Int) (a:Int):Nat->Int
 | 0=>0
 | n+1=>S f a n+f (a+n)
noncomputable def sum (f:Int->Int) (a b:Int):Int:=S f a (b-a).toNat
theorem zwZ {f:Int->Int} {a b:Int} (h:b<=a):sum f a b=0:=by
 unfold sum
 rw[show (b-a).toNat=0 by ac_rfl]
 rfl
theorem zpq (f:Int->Int) (a:Int) (n:Nat):∀ m,S f a (n+m)=S f a n+S f (a+n) m
 | 0=>by simp[S]
 | m+1=>by
  show S f a (n+m)+f (a+((n+m:Nat):Int))=S f a n+(S f (a+n) m+f (a+n+m))
  rw[zpq f a n m,show a+((n+m:Nat):Int)=a+n+m by ac_rfl]
  ac_rfl
theorem sum_add {f:Int->Int} {a b c:Int} (h1:a<=c) (h2:c<=b):sum f a b=sum f a c+sum f c b:=by
 unfold sum
 rw[show (b-a).toNat=(c-a).toNat+(b-c).toNat by ac_rfl,zpq,show a+((c-a).toNat:Int)=c by ac_rfl]
theorem zrE {f g:Int->Int} {a:Int}:∀ (n:Nat),(∀ d,a<=d->d<a+n->f d=g d)->S f a n=S g a n
 | 0,_=>rfl
 | n+1,h=>by
  show S f a n+f (a+n)=S g a n+g (a+n)
  rw[zrE n fun d h1 h2=>h d h1 (by ac_rfl),h (a+n) (by ac_rfl) (by ac_rfl)]
theorem zs2 {f g:Int->Int} {a b:Int} (h:∀ d,a<=d->d<b->f d=g d):sum f a b=sum g a b:=zrE _ fun d h1 h2=>h d h1 (by ac_rfl)
theorem zvn (c:Int) (f:Int->Int) (a:Int):∀ n,S (fun d=>c*f d) a n=c*S f a n
 | 0=>by simp[S]
 | n+1=>by
  show S (fun d=>c*f d) a n+c*f (a+n)=c*(S f a n+f (a+n))
  rw[zvn c f a n,yej]
theorem zwh (c:Int) (f:Int->Int) (a b:Int):sum (fun d=>c*f d) a b=c*sum f a b:=zvn c f a _
theorem zvv {U:Int->Int} {a:Int}:∀ n:Nat,S (fun d=>U (d+1)-U d) a n=U (a+n)-U a
 | 0=>by simp[S]
 | n+1=>by
  show S (fun d=>U (d+1)-U d) a n+(U (a+n+1)-U (a+n))=_
  rw[zvv n,show a+((n+1:Nat):Int)=a+n+1 by ac_rfl]
  ac_rfl
theorem zvX {U:Int->Int} {a b:Int} (h:a<=b):sum (fun d=>U (d+1)-U d) a b=U b-U a:=by
 unfold sum
 rw[zvv,show a+((b-a).toNat:Int)=b by ac_rfl]
theorem zuY {U v:Int->Int} {a b c:Int} (h:a<=b) (hv:∀ d,a<=d->d<b->v d=c):sum (fun d=>(U (d+1)-U d)*v d) a b=(U b-U a)*c:=by
 rw[zs2 (g:=fun d=>c*(U (d+1)-U d)) fun d h1 h2=>by rw[hv d h1 h2,Int.mul_comm],zwh,zvX h,Int.mul_comm]
noncomputable abbrev Tab:=List (Int × Int)
def Val (t:Tab) (d v:Int):Prop:=(v=0/\∀ r∈t,d<r.1)\/∃ i:Nat,∃ b:Int,t[i]?=some (b,v)/\b<=d/\∀ (j:Nat) (r:Int × Int),t[j]?=some r->r.1<=d->r.1<b\/(r.1=b/\j<=i)
theorem Val.one {t:Tab} {d v u:Int} (a:Val t d v) (b:Val t d u):v=u:=by
 rcases a with ⟨rfl,h⟩ | ⟨i,x,e,le,h⟩
 ·rcases b with ⟨rfl,_⟩ | ⟨j,y,e',le',_⟩
  ·rfl
  ·have:=h _ (yah e')
   dsimp only at this
   ac_rfl
 ·rcases b with ⟨rfl,g⟩ | ⟨j,y,e',le',g⟩
  ·have:=g _ (yah e)
   dsimp only at this
   ac_rfl
  ·have p:=h j _ e' le'
   have q:=g i _ e le
   dsimp only at p q
   have ij:i=j:=by ac_rfl
   subst ij
   rw[e] at e'
   cases e'
   rfl
noncomputable def vstep (d:Int) (st:Int × Int) (r:Int × Int):Int × Int:=if st.1<=r.1/\r.1<=d then r else st
noncomputable def valOf (t:Tab) (d:Int):Int:=(t.foldl (vstep d) (-1,0)).2
theorem zb6 {t:Tab} (h0:∀ r∈t,0<=r.1) (d:Int):Val t d (valOf t d):=by
 suffices q:∀ (pre rest:Tab) (st:Int × Int),pre++rest=t->((st=(-1,0)/\∀ r∈pre,d<r.1)\/∃ i:Nat,pre[i]?=some st/\st.1<=d/\∀ (j:Nat) (r:Int × Int),pre[j]?=some r->r.1<=d->r.1<st.1\/(r.1=st.1/\j<=i)) ->
   Val t d (rest.foldl (vstep d) st).2 from q [] t (-1,0) rfl (.inl ⟨rfl,fun r hr=>by cases hr⟩)
 intro pre rest
 induction rest generalizing pre with
 | nil =>
  intro st e h
  rw[ybl] at e
  subst e
  rcases h with ⟨rfl,h⟩ | ⟨i,e,le,h⟩
  ·exact .inl ⟨rfl,h⟩
  ·exact .inr ⟨i,st.1,e,le,h⟩
 | cons r rest ih =>
  intro st e h
  have hr:0<=r.1:=h0 r (by rw[<-e];simp)
  refine ih (pre++[r]) (vstep d st r) (by rw[ycb];exact e) ?_
  have last:∀ (j:Nat) (x:Int × Int),(pre++[r])[j]?=some x->pre[j]?=some x\/(j=pre.length/\x=r):=fun j x hx=>by
   by_cases hj:j<pre.length
   ·rw[ybs hj] at hx
    exact .inl hx
   ·by_cases hj2:j=pre.length
    ·subst hj2
     rw[ybk (ydc _),ydr] at hx
     exact .inr ⟨rfl,(by cases hx;rfl)⟩
    ·rw[yas (by rw[yad,ybv];ac_rfl)] at hx
     cases hx
  unfold vstep
  by_cases c:st.1<=r.1/\r.1<=d
  ·rw[if_pos c]
   refine .inr ⟨pre.length,by rw[ybk (ydc _),ydr];rfl,c.2,fun j x hx hd=>?_⟩
   rcases last j x hx with hx | ⟨rfl,rfl⟩
   ·have hj:j<pre.length:=(yac.mp hx).1
    rcases h with ⟨_,h⟩ | ⟨i,_,_,h⟩
    ·have:=h x (yah hx)
     ac_rfl
    ·rcases h j x hx hd with z | z
     ·exact .inl (by ac_rfl)
     ·by_cases w:x.1=r.1
      ·exact .inr ⟨w,by ac_rfl⟩
      ·exact .inl (by ac_rfl)
   ·exact .inr ⟨rfl,ydc _⟩
  ·rw[if_neg c]
   rcases h with ⟨rfl,h⟩ | ⟨i,ei,le,h⟩
   ·refine .inl ⟨rfl,fun x hx=>?_⟩
    rcases yag.mp hx with hx | hx
    ·exact h x hx
    ·have:x=r:=by simpa using hx
     rw[this]
     exact Int.not_le.mp fun q=>c ⟨by show (-1:Int)<=r.1;ac_rfl,q⟩
   ·refine .inr ⟨i,?_,le,fun j x hx hd=>?_⟩
    ·rw[ybs (yac.mp ei).1];exact ei
    ·rcases last j x hx with hx | ⟨rfl,rfl⟩
     ·exact h j x hx hd
     ·exact .inl (Int.not_le.mp fun q=>c ⟨q,hd⟩)
end Sums
namespace Stills
open Spans Sums
theorem fold_same {x y:Int}:∀ (t:Tab) (st:Int × Int),(∀ r∈t,(r.1<=x↔r.1<=y))->t.foldl (vstep x) st=t.foldl (vstep y) st
 | [],_,_=>rfl
 | r::t,st,h=>by
  have e:vstep x st r=vstep y st r:=by
   unfold vstep
   have:=h r (yam ..)
   by_cases c:st.1<=r.1/\r.1<=x
   ·rw[if_pos c,if_pos ⟨c.1,this.mp c.2⟩]
   ·rw[if_neg c,if_neg fun z=>c ⟨z.1,this.mpr z.2⟩]
  show t.foldl (vstep x) (vstep x st r)=t.foldl (vstep y) (vstep y st r)
  rw[e]
  exact fold_same t _ fun q hq=>h q (yak _ hq)
theorem zeK {t:Tab} {x y:Int} (xy:x<=y) (h:∀ r∈t,¬ (x<r.1/\r.1<=y)):valOf t x=valOf t y:=by
 unfold valOf
 rw[fold_same (y:=y) t _ fun r hr=>by have:=h r hr;ac_rfl]
theorem zvy {l r:Sp} {x y:Int} (c:∀ d,Cov r d↔Cov l d) (xy:x<=y) (h:∀ s∈r,∀ d,x<d->d<=y->d≠s.1/\d≠s.2):isIn l x=isIn l y:=by
 have e:Cov l x↔Cov l y:=by rw[<-c,<-c];exact zwn xy h
 cases p:isIn l x with
 | true=>exact (za7.mpr (e.mp (za7.mp p))).symm
 | false =>
  cases q:isIn l y with
  | false=>rfl
  | true=>rw[za7.mpr (e.mpr (za7.mp q))] at p;cases p
structure Begun (r:Sp) (day:Int) (n:Nat):Prop where
 le:n<=r.length
 lo:∀ i s,i<n->r[i]?=some s->s.1<=day
 hi:∀ i s,n<=i->r[i]?=some s->day<s.1
structure Free (r:Sp) (day m:Int):Prop where
 from_:day<=m
 out:¬ Cov r m
 all:∀ d,day<=d->d<m->Cov r d
theorem Free.one {r:Sp} {day m n:Int} (a:Free r day m) (b:Free r day n):m=n:=by
 rcases yei m n with h | h | h
 ·exact absurd (b.all m a.from_ h) a.out
 ·exact h
 ·exact absurd (a.all n b.from_ h) b.out
theorem Free.cov {r l:Sp} {day m:Int} (a:Free r day m) (h:∀ d,Cov r d↔Cov l d):Free l day m:=⟨a.from_,fun z=>a.out ((h _).mpr z),fun d h1 h2=>(h d).mp (a.all d h1 h2)⟩
theorem Free.here {r:Sp} {day:Int} (h:¬ Cov r day):Free r day day:=⟨yea _,h,fun d h1 h2=>by ac_rfl⟩
theorem Free.gt {r:Sp} {day m:Int} (a:Free r day m):m > day↔Cov r day:=by
 constructor
 ·intro h
  exact a.all day (yea _) h
 ·intro h
  have:=a.from_
  by_cases e:m=day
  ·rw[e] at a
   exact absurd h a.out
  ·ac_rfl
theorem zkw {r:Sp} (J:Joined r) {i j:Nat} {s t:Int × Int} (hi:r[i]?=some s) (hj:r[j]?=some t) (lt:i<j):s.2<t.1:=by
 obtain ⟨h1,rfl⟩:=yac.mp hi
 obtain ⟨h2,rfl⟩:=yac.mp hj
 exact ybd.mp J.apart i j h1 h2 lt
theorem zsw {r:Sp} {day:Int} (B:Begun r day 0):Free r day day:=Free.here fun ⟨s,hs,h1,h2⟩=>by
 obtain ⟨j,hj,rfl⟩:=yaz.mp hs
 have:=B.hi j _ (ydf _) (yaa hj)
 ac_rfl
theorem zr9 {r:Sp} (J:Joined r) {day:Int} {n:Nat} {s:Int × Int} (B:Begun r day (n+1)) (e:r[n]?=some s):Free r day (if s.2 > day then s.2 else day):=by
 have up:=J.up s (yah e)
 have lo:=B.lo n s (ydi _) e
 have other:∀ (t:Int × Int) (d:Int),t∈r->t.1<=d->d<t.2->day<=d->d<=s.2->t=s:=fun t d ht h1 h2 h3 h4=>by
  obtain ⟨j,hj,rfl⟩:=yaz.mp ht
  have ej:=yaa hj
  rcases ydk j n with h | h | h
  ·have:=zkw J ej e h
   ac_rfl
  ·subst h
   rw[e] at ej
   cases ej
   rfl
  ·have:=zkw J e ej h
   ac_rfl
 by_cases c:s.2 > day
 ·rw[if_pos c]
  refine ⟨by ac_rfl,fun ⟨t,ht,h1,h2⟩=>?_,fun d h1 h2=>⟨s,yah e,by ac_rfl,h2⟩⟩
  have:=other t s.2 ht h1 h2 (by ac_rfl) (yea _)
  rw[this] at h2
  ac_rfl
 ·rw[if_neg c]
  refine Free.here fun ⟨t,ht,h1,h2⟩=>?_
  obtain ⟨j,hj,rfl⟩:=yaz.mp ht
  have ej:=yaa hj
  rcases ydk j n with h | h | h
  ·have:=zkw J ej e h
   ac_rfl
  ·subst h
   rw[e] at ej
   cases ej
   ac_rfl
  ·have:=B.hi j _ h ej
   ac_rfl
theorem zlv {l:Sp} (day:Int):∃ m,Free l day m:=by
 obtain ⟨M,hM⟩:∃ M:Int,∀ s∈l,s.2<=M:=by
  clear day
  induction l with
  | nil=>exact ⟨0,fun s h=>by cases h⟩
  | cons s l ih =>
   obtain ⟨M,h⟩:=ih
   refine ⟨if M<=s.2 then s.2 else M,fun t ht=>?_⟩
   rcases yal.mp ht with rfl | ht
   ·split <;> ac_rfl
   ·have:=h t ht
    split <;> ac_rfl
 have fin:∀ n:Nat,∀ d:Int,M-d<=n->∃ m,Free l d m:=by
  intro n
  induction n with
  | zero =>
   intro d h
   refine ⟨d,Free.here fun ⟨s,hs,h1,h2⟩=>?_⟩
   have:=hM s hs
   ac_rfl
  | succ n ih =>
   intro d h
   by_cases c:Cov l d
   ·obtain ⟨m,F⟩:=ih (d+1) (by ac_rfl)
    refine ⟨m,by have:=F.from_;ac_rfl,F.out,fun x h1 h2=>?_⟩
    by_cases e:x=d
    ·rw[e];exact c
    ·exact F.all x (by ac_rfl) h2
   ·exact ⟨d,Free.here c⟩
 exact fin (M-day).toNat day (by ac_rfl)
noncomputable def ind (l:Sp) (d:Int):Int:=if isIn l d then 1 else 0
noncomputable def many (l:Sp) (a b:Int):Int:=sum (ind l) a b
end Stills
namespace Stills
open Spans Sums
theorem zjJ:∀ (a b:List Int),a.Nodup->(∀ x∈a,x∈b)->a.length<=b.length
 | [],b,_,_=>ydf _
 | x::a,b,nd,h=>by
  have hx:=h x (yam ..)
  have n:=ybm.mp nd
  have:=zjJ a (b.erase x) n.2 fun y hy=>by
   have ne:y≠x:=fun e=>n.1 (e ▸ hy)
   exact (ycv ne).mpr (h y (yak _ hy))
  rw[ycq hx] at this
  have p:0<b.length:=ycs hx
  show a.length+1<=b.length
  ac_rfl
theorem ztj {r l:Sp} (J:Joined r) (C:∀ d,Cov r d↔Cov l d):r.length<=l.length:=by
 have nd:(r.map (·.1)).Nodup:=by
  unfold List.Nodup
  rw[ybi]
  refine (List.Pairwise.and_mem.mp J.apart).imp fun {s t} h=>?_
  have:=J.up s h.1
  have:=h.2.2
  ac_rfl
 have:=zjJ (r.map (·.1)) (l.map (·.1)) nd fun x hx=>by
  obtain ⟨s,hs,rfl⟩:=yaf.mp hx
  obtain ⟨t,ht,h1,h2⟩:=(C s.1).mp ⟨s,hs,yea _,J.up s hs⟩
  have no:¬ Cov r (s.1-1):=by
   rintro ⟨u,hu,q1,q2⟩
   obtain ⟨i,hi,rfl⟩:=yaz.mp hs
   obtain ⟨j,hj,rfl⟩:=yaz.mp hu
   have ui:=J.up _ (ycj hi)
   rcases ydk i j with h | h | h
   ·have:=zkw J (yaa hi) (yaa hj) h
    ac_rfl
   ·subst h
    ac_rfl
   ·have:=zkw J (yaa hj) (yaa hi) h
    ac_rfl
  have e:t.1=s.1:=by
   by_cases lt:t.1<s.1
   ·exact absurd ((C _).mpr ⟨t,ht,by ac_rfl,by ac_rfl⟩) no
   ·ac_rfl
  exact yaf.mpr ⟨t,ht,e⟩
 simpa using this
end Stills
namespace Stills
open Spans Sums
theorem zqw {l:Sp} (up:l.Pairwise fun s t=>s.1<t.1) {i j:Nat} {s t:Int × Int} (hi:l[i]?=some s) (hj:l[j]?=some t) (lt:i<j):s.1<t.1:=by
 obtain ⟨h1,rfl⟩:=yac.mp hi
 obtain ⟨h2,rfl⟩:=yac.mp hj
 exact ybd.mp up i j h1 h2 lt
theorem zti {l:Sp} (J:Joined l):l.Pairwise fun s t=>s.1<t.1:=by
 refine (List.Pairwise.and_mem.mp J.apart).imp fun {s t} h=>?_
 have:=J.up s h.1
 have:=h.2.2
 ac_rfl
theorem zvh {ns:List Int} (up:ns.Pairwise (·<·)) {i j:Nat} {x y:Int} (hi:ns[i]?=some x) (hj:ns[j]?=some y) (lt:i<j):x<y:=by
 obtain ⟨h1,rfl⟩:=yac.mp hi
 obtain ⟨h2,rfl⟩:=yac.mp hj
 exact ybd.mp up i j h1 h2 lt
end Stills
namespace Stills
open Spans Sums
theorem zuZ {r l:Sp} (h:∀ d,Cov r d↔Cov l d) (d:Int):isIn r d=isIn l d:=by
 by_cases c:Cov r d
 ·rw[za7.mpr c,za7.mpr ((h d).mp c)]
 ·rw[zoP c,zoP fun z=>c ((h d).mpr z)]
end Stills
namespace Stills
open Spans Sums
theorem zjf {t:Sp} {d:Int} (t0:∀ s∈t,0<=s.1) (B:Begun t d 0):valOf t d=0:=by
 refine Val.one (zb6 t0 d) (.inl ⟨rfl,fun r hr=>?_⟩)
 obtain ⟨j,hj,rfl⟩:=yaz.mp hr
 exact B.hi j _ (ydf _) (yaa hj)
theorem zu0 {t:Sp} {d:Int} (t0:∀ s∈t,0<=s.1) (up:t.Pairwise fun s u=>s.1<u.1) {n:Nat} {s:Int × Int} (B:Begun t d (n+1)) (e:t[n]?=some s):valOf t d=s.2:=by
 refine Val.one (zb6 t0 d) (.inr ⟨n,s.1,e,B.lo n s (ydi _) e,fun j r hj le=>?_⟩)
 rcases ydk j n with h | h | h
 ·exact .inl (zqw up hj e h)
 ·subst h
  rw[e] at hj
  cases hj
  exact .inr ⟨rfl,ydc _⟩
 ·have:=B.hi j r h hj
  ac_rfl
end Stills
namespace Stills
open Spans Sums
end Stills
namespace Stills
end Stills
namespace Stills
open Spans Sums
structure TabOf (t tb:Sp):Prop where
 up:tb.Pairwise fun s u=>s.1<u.1
 val:∀ d,valOf tb d=valOf t d
 days:∀ d,(∃ s∈tb,d=s.1)↔∃ s∈t,d=s.1
theorem TabOf.nn {t tb:Sp} (T:TabOf t tb) (t0:∀ s∈t,0<=s.1):∀ s∈tb,0<=s.1:=fun s hs=>by
 obtain ⟨u,hu,e⟩:=(T.days s.1).mp ⟨s,hs,rfl⟩
 rw[e]
 exact t0 u hu
theorem tab_of {t:Sp} {ds:List Int} (t0:∀ s∈t,0<=s.1) (up:ds.Pairwise (·<·)) (mem:∀ d,d∈ds↔∃ s∈t,d=s.1):TabOf t (ds.map fun d=>(d,valOf t d)):=by
 have d0:∀ s∈ds.map fun d=>(d,valOf t d),0<=s.1:=fun s hs=>by
  obtain ⟨d,hd,rfl⟩:=yaf.mp hs
  obtain ⟨u,hu,e⟩:=(mem d).mp hd
  show 0<=d
  rw[e]
  exact t0 u hu
 refine ⟨by rw[ybi];exact up,fun d=>?_,fun d=>?_⟩
 ·refine Val.one (zb6 d0 d) ?_
  rcases zb6 t0 d with ⟨e,h⟩ | ⟨i,b,e,le,h⟩
  ·rw[e]
   refine .inl ⟨rfl,fun r hr=>?_⟩
   obtain ⟨x,hx,rfl⟩:=yaf.mp hr
   obtain ⟨u,hu,e'⟩:=(mem x).mp hx
   show d<x
   rw[e']
   exact h u hu
  ·have hb:b∈ds:=(mem b).mpr ⟨_,yah e,rfl⟩
   obtain ⟨j,hj,ej⟩:=yaz.mp hb
   have vb:valOf t b=valOf t d:=Val.one (zb6 t0 b) (.inr ⟨i,b,e,yea _,fun k r hk hr=>h k r hk (by ac_rfl)⟩)
   refine .inr ⟨j,b,?_,le,fun k r hk hr=>?_⟩
   ·rw[yaj,yaa hj,ej]
    show some (b,valOf t b)=_
    rw[vb]
   ·rw[yaj] at hk
    obtain ⟨x,hx,rfl⟩:=Option.map_eq_some_iff.mp hk
    have ej':ds[j]?=some b:=by rw[yaa hj,ej]
    obtain ⟨u,hu,eu⟩:=(mem x).mp (yah hx)
    obtain ⟨n,hn,en⟩:=yaz.mp hu
    have hxb:x<=b:=by
     have:=h n u (by rw[yaa hn,en]) (by rw[<-eu];exact hr)
     rw[<-eu] at this
     ac_rfl
    rcases ydk k j with c | c | c
    ·exact .inl (zvh up hx ej' c)
    ·subst c
     rw[ej'] at hx
     cases hx
     exact .inr ⟨rfl,ydc _⟩
    ·have:=zvh up ej' hx c
     ac_rfl
 ·constructor
  ·rintro ⟨s,hs,rfl⟩
   obtain ⟨x,hx,rfl⟩:=yaf.mp hs
   exact (mem x).mp hx
  ·intro hd
   exact ⟨(d,valOf t d),yaf.mpr ⟨d,(mem d).mpr hd,rfl⟩,rfl⟩
end Stills
namespace Stills
open Spans Sums
end Stills
namespace Stills
end Stills
namespace Stills
open Spans Sums
structure JInv (P acc:Sp):Prop where
 j:Joined acc
 c:∀ d,Cov acc d↔Cov P d
 f:∀ t∈acc,∃ s∈P,t.1=s.1
theorem znq {s:Int × Int} {d:Int}:Cov [s] d↔s.1<=d/\d<s.2:=by
 rw[zuu]
 exact ⟨fun h=>h.elim id fun z=>absurd z zrC,.inl⟩
theorem JInv.nil:JInv [] []:=⟨⟨fun s h=>(by cases h),List.Pairwise.nil⟩,fun _=>Iff.rfl,fun t h=>(by cases h)⟩
theorem JInv.begin_ {P:Sp} {s:Int × Int} (J:JInv P []) (up:s.1<s.2):JInv (P++[s]) [s]:=by
 refine ⟨⟨fun t ht=>?_,ybw _ _⟩,fun d=>?_,fun t ht=>?_⟩
 ·have:t=s:=by simpa using ht
  rw[this];exact up
 ·rw[zcY,<-J.c]
  exact ⟨.inr,fun h=>h.elim (fun z=>absurd z zrC) id⟩
 ·have:t=s:=by simpa using ht
  exact ⟨s,by simp,by rw[this]⟩
theorem JInv.add {P acc:Sp} {t s:Int × Int} (J:JInv P (acc++[t])) (up:s.1<s.2) (h:t.2<s.1):JInv (P++[s]) (acc++[t]++[s]):=by
 have jt:=J.j.up t (by simp)
 refine ⟨⟨fun u hu=>?_,ybq.mpr ⟨J.j.apart,ybw _ _,fun u hu v hv=>?_⟩⟩,fun d=>?_,fun u hu=>?_⟩
 ·rcases yag.mp hu with hu | hu
  ·exact J.j.up u hu
  ·have:u=s:=by simpa using hu
   rw[this];exact up
 ·have:v=s:=by simpa using hv
  subst this
  rcases yag.mp hu with hu' | hu'
  ·have:=(ybq.mp J.j.apart).2.2 u hu' t (by simp)
   ac_rfl
  ·have:u=t:=by simpa using hu'
   rw[this];exact h
 ·rw[zcY (a:=acc++[t]),zcY (a:=P),J.c]
 ·rcases yag.mp hu with hu | hu
  ·obtain ⟨x,hx,e⟩:=J.f u hu
   exact ⟨x,yag.mpr (.inl hx),e⟩
  ·have:u=s:=by simpa using hu
   exact ⟨s,by simp,by rw[this]⟩
theorem JInv.grow {P acc:Sp} {t s:Int × Int} {m:Int} (J:JInv P (acc++[t])) (up:s.1<s.2) (h0:t.1<=s.1) (h:s.1<=t.2) (hm:m=if s.2 > t.2 then s.2 else t.2):JInv (P++[s]) (acc++[(t.1,m)]):=by
 have jt:=J.j.up t (by simp)
 have hm':t.2<=m/\s.2<=m/\(m=t.2\/m=s.2):=by rw[hm];split <;> ac_rfl
 obtain ⟨p1,p2,p3⟩:=ybq.mp J.j.apart
 refine ⟨⟨fun u hu=>?_,ybq.mpr ⟨p1,ybw _ _,fun u hu v hv=>?_⟩⟩,fun d=>?_,fun u hu=>?_⟩
 ·rcases yag.mp hu with hu | hu
  ·exact J.j.up u (yag.mpr (.inl hu))
  ·have:u=(t.1,m):=by simpa using hu
   rw[this]
   show t.1<m
   ac_rfl
 ·have:v=(t.1,m):=by simpa using hv
  rw[this]
  exact p3 u hu t (by simp)
 ·have a:=J.c d
  rw[zcY,znq] at a
  rw[zcY,zcY,<-a,znq,znq]
  show (Cov acc d\/(t.1<=d/\d<m))↔((Cov acc d\/(t.1<=d/\d<t.2))\/(s.1<=d/\d<s.2))
  constructor
  ·rintro (z | z)
   ·exact .inl (.inl z)
   ·by_cases c:d<t.2
    ·exact .inl (.inr ⟨z.1,c⟩)
    ·exact .inr (by ac_rfl)
  ·rintro ((z | z) | z)
   ·exact .inl z
   ·exact .inr (by ac_rfl)
   ·exact .inr (by ac_rfl)
 ·rcases yag.mp hu with hu | hu
  ·obtain ⟨x,hx,e⟩:=J.f u (yag.mpr (.inl hu))
   exact ⟨x,yag.mpr (.inl hx),e⟩
  ·have:u=(t.1,m):=by simpa using hu
   obtain ⟨x,hx,e⟩:=J.f t (by simp)
   exact ⟨x,yag.mpr (.inl hx),by rw[this];exact e⟩
theorem zv6 {a b:Sp} (h:∀ s,s∈a↔s∈b) (d:Int):Cov a d↔Cov b d:=⟨fun ⟨s,hs,q⟩=>⟨s,(h s).mp hs,q⟩,fun ⟨s,hs,q⟩=>⟨s,(h s).mpr hs,q⟩⟩
end Stills
namespace Dct
open L2
def days (t:List (Int × Int)) (d:Int):Prop:=∃ s∈t,d=s.1
theorem zwG {d:Int} (h:-1<=d):∀ (t:List (Int × Int)) (st:Int × Int),st.1<=d->(t.foldl (Sums.vstep d) st).1<=d
 | [],st,hs=>hs
 | x::t,st,hs=>by
  rw[ybh]
  refine zwG h t _ ?_
  unfold Sums.vstep
  split
  ·rename_i q;exact q.2
  ·exact hs
theorem ztG {d:Int}:∀ (t:List (Int × Int)) (st:Int × Int),st.1=d->(t.foldl (Sums.vstep d) st).1=d
 | [],st,hs=>hs
 | x::t,st,hs=>by
  rw[ybh]
  refine ztG t _ ?_
  unfold Sums.vstep
  split
  ·rename_i q;ac_rfl
  ·exact hs
theorem zvu {d:Int} (h:0<=d):∀ (t:List (Int × Int)) (st:Int × Int),st.1<=d->days t d->(t.foldl (Sums.vstep d) st).1=d
 | [],st,_,hd=>by obtain ⟨s,hs,_⟩:=hd;cases hs
 | x::t,st,hs,hd=>by
  rw[ybh]
  by_cases e:x.1=d
  ·refine ztG t _ ?_
   unfold Sums.vstep
   rw[if_pos ⟨by ac_rfl,by ac_rfl⟩]
   exact e
  ·refine zvu h t _ ?_ ?_
   ·unfold Sums.vstep
    split
    ·rename_i q;exact q.2
    ·exact hs
   ·obtain ⟨s,m,q⟩:=hd
    rcases yal.mp m with rfl | m
    ·exact absurd q.symm e
    ·exact ⟨s,m,q⟩
theorem zt6 (t:List (Int × Int)) (x:Int × Int):zdz (t++[x])=zax (zdz t) x.1 x.2:=by
 unfold zdz
 rw[ych]
 rfl
theorem zmL (l:List (Int × Int)) (k:Int):l.any (fun p=>p.1=k)=true↔days l k:=by
 rw[ybp]
 constructor
 ·rintro ⟨s,m,q⟩;exact ⟨s,m,(of_decide_eq_true q).symm⟩
 ·rintro ⟨s,m,q⟩;exact ⟨s,m,decide_eq_true q.symm⟩
theorem zmj {l:List (Int × Int)} {k y:Int} {s:Int × Int} (h:s∈zax l k y):(s.1=k/\s.2=y)\/(s∈l/\s.1≠k):=by
 unfold zax at h
 split at h
 ·obtain ⟨u,m,e⟩:=yaf.mp h
  by_cases q:u.1=k
  ·rw[if_pos q] at e;subst e;exact .inl ⟨q,rfl⟩
  ·rw[if_neg q] at e;subst e;exact .inr ⟨m,q⟩
 ·rename_i na
  rcases yag.mp h with m | m
  ·refine .inr ⟨m,fun q=>na ((zmL l k).mpr ⟨s,m,q.symm⟩)⟩
  ·obtain rfl:s=(k,y):=by simpa using m
   exact .inl ⟨rfl,rfl⟩
theorem zra {l:List (Int × Int)} {k y d:Int}:days (zax l k y) d↔days l d\/d=k:=by
 constructor
 ·rintro ⟨s,m,q⟩
  rcases zmj m with ⟨a,_⟩ | ⟨a,_⟩
  ·exact .inr (q.trans a)
  ·exact .inl ⟨s,a,q⟩
 ·intro h
  unfold zax
  split
  ·rename_i a
   have hd:days l d:=by
    rcases h with h | h
    ·exact h
    ·rw[h];exact (zmL l k).mp a
   obtain ⟨s,m,q⟩:=hd
   by_cases e:s.1=k
   ·exact ⟨(s.1,y),yaf.mpr ⟨s,m,by rw[if_pos e]⟩,q⟩
   ·exact ⟨s,yaf.mpr ⟨s,m,by rw[if_neg e]⟩,q⟩
  ·rcases h with ⟨s,m,q⟩ | h
   ·exact ⟨s,ybg _ m,q⟩
   ·exact ⟨(k,y),yai _ (yba.mpr rfl),h⟩
theorem zqF {l:List (Int × Int)} {k y:Int} (h:(l.map (·.1)).Nodup):((zax l k y).map (·.1)).Nodup:=by
 unfold zax
 split
 ·rw[ybn]
  have e:((fun x:Int × Int=>x.1) ∘ fun p:Int × Int=>if p.1=k then (p.1,y) else p)=fun x=>x.1:=by
   funext p
   show (if p.1=k then (p.1,y) else p).1=p.1
   split <;> rfl
  rw[e]
  exact h
 ·rename_i na
  rw[yan]
  refine yco.mpr ⟨h,by simp,fun a ha b hb=>?_⟩
  have hb':b=k:=by simpa using hb
  obtain ⟨s,m,q⟩:=yaf.mp ha
  rw[hb']
  intro z
  exact na ((zmL l k).mpr ⟨s,m,by rw[<-z];exact q.symm⟩)
structure Is (t l:List (Int × Int)):Prop where
 keys:(l.map (·.1)).Nodup
 days:∀ d,days l d↔days t d
 val:∀ s∈l,s.2=Sums.valOf t s.1
theorem dct_is:∀ (n:Nat) (t:List (Int × Int)),t.length=n->(∀ s∈t,0<=s.1)->Is t (zdz t)
 | 0,t,e,_=>by
  obtain rfl:t=[]:=List.eq_nil_of_length_eq_zero e
  exact ⟨List.nodup_nil,fun d=>Iff.rfl,fun s hs=>by cases hs⟩
 | n+1,t,e,h0=>by
  have ne:t≠[]:=fun z=>by rw[z] at e;cases e
  have et:t.dropLast++[t.getLast ne]=t:=List.dropLast_concat_getLast ne
  generalize t.dropLast=u at et
  generalize t.getLast ne=x at et
  subst et
  have ul:u.length=n:=by simpa using e
  have ih:=dct_is n u ul fun s hs=>h0 s (ybg _ hs)
  rw[zt6]
  refine ⟨zqF ih.keys,fun d=>?_,fun s hs=>?_⟩
  ·rw[zra,ih.days]
   constructor
   ·rintro (⟨s,m,q⟩ | q)
    ·exact ⟨s,ybg _ m,q⟩
    ·exact ⟨x,yai _ (yba.mpr rfl),q⟩
   ·rintro ⟨s,m,q⟩
    rcases yag.mp m with m | m
    ·exact .inl ⟨s,m,q⟩
    ·obtain rfl:s=x:=by simpa using m
     exact .inr q
  ·have x0:=h0 x (yai _ (yba.mpr rfl))
   have ev:∀ d,Sums.valOf (u++[x]) d=(Sums.vstep d (u.foldl (Sums.vstep d) (-1,0)) x).2:=fun d=>by
    unfold Sums.valOf
    rw[ych]
    rfl
   rcases zmj hs with ⟨a,b⟩ | ⟨a,b⟩
   ·rw[ev,b,a]
    unfold Sums.vstep
    rw[if_pos ⟨zwG (by ac_rfl) u (-1,0) (by show -1<=x.1;ac_rfl),yea _⟩]
   ·rw[ev,ih.val s a]
    have d0:0<=s.1:=by
     obtain ⟨r,m,q⟩:=(ih.days s.1).mp ⟨s,a,rfl⟩
     rw[q]
     exact h0 r (ybg _ m)
    have b1:=zvu d0 u (-1,0) (by show -1<=s.1;ac_rfl) ((ih.days s.1).mp ⟨s,a,rfl⟩)
    have st:Sums.vstep s.1 (u.foldl (Sums.vstep s.1) (-1,0)) x=u.foldl (Sums.vstep s.1) (-1,0):=if_neg (by rw[b1];ac_rfl)
    rw[st]
    rfl
theorem tab {t r:List (Int × Int)} (h0:∀ s∈t,0<=s.1) (p:r.Perm (zdz t)) (o:r.Pairwise fun s u=>s.1<=u.1):Stills.TabOf t r/\r=(r.map (·.1)).map fun d=>(d,Sums.valOf t d):=by
 have I:=dct_is t.length t rfl h0
 have nd:(r.map (·.1)).Nodup:=(p.map (·.1)).nodup_iff.mpr I.keys
 have up:(r.map (·.1)).Pairwise (·<·):=by
  have o':(r.map (·.1)).Pairwise (·<=·):=by
   rw[ybi]
   exact o
  refine (o'.and nd).imp fun {a b} h=>?_
  have:=h.1
  have:=h.2
  ac_rfl
 have e:r=(r.map (·.1)).map fun d=>(d,Sums.valOf t d):=by
  rw[ybn]
  conv=>lhs;rw[<-List.map_id r]
  refine ybu fun s hs=>?_
  show s=(s.1,Sums.valOf t s.1)
  rw[<-I.val s (p.mem_iff.mp hs)]
 refine ⟨?_,e⟩
 rw[e]
 refine Stills.tab_of h0 up fun d=>?_
 constructor
 ·intro m
  obtain ⟨s,hs,rfl⟩:=yaf.mp m
  exact (I.days s.1).mp ⟨s,p.mem_iff.mp hs,rfl⟩
 ·intro m
  obtain ⟨s,hs,q⟩:=(I.days d).mpr m
  exact yaf.mpr ⟨s,p.mem_iff.mpr hs,q.symm⟩
end Dct
namespace L2
open PySem
noncomputable def bkF (c g e o f p t r l s d:V):List (Str × V):=[("own_count", c),("own_grace", g),("own_entries", e),("out_sums", o),("fee_sums", f),("pay_sums", p),("turn_days", t),("rate_rows", r),("late_rows", l),("spans", s),("due_sums", d)]
noncomputable def upto (l:List (Int × Int)) (d:Int):Int:=((l.filter fun s=>decide (s.1<=d)).map (·.2)).sum
structure BkT where
 (kd:Kd) (g:Int) (es:List Er) (outs fees pays:List (Int × Int)) (turns:List Int) (rates lates spans dues:List (Int × Int))
def LP (K:W.Frag) (H:Hp) (p:Addr) (l:List (Int × Int)):Prop:=∃ xs,H p=some (.lst xs)/\zy K H xs l/\l.length<=1000
theorem LP.same {K:W.Frag} {H H':Hp} {p:Addr} {l:List (Int × Int)} (h:LP K H p l) (s:Same H H'):LP K H' p l:=by
 obtain ⟨xs,e,r,n⟩:=h
 exact ⟨xs,s _ _ e,r.same s,n⟩
structure BkA where
 (dx c e o f p t r l s d:Addr)
noncomputable def BkA.fs (A:BkA) (g:Int):List (Str × V):=bkF (.ref A.c) (.int g) (.ref A.e) (.ref A.o) (.ref A.f) (.ref A.p) (.ref A.t) (.ref A.r) (.ref A.l) (.ref A.s) (.ref A.d)
structure zaD (K:W.Frag) (H:Hp) (a:Addr) (A:BkA) (b:BkT):Prop where
 ins:H a=some (.ins (cA K "Book") A.dx (A.fs b.g))
 cnt:zb4 K H A.c b.kd
 ents:∃ xs,H A.e=some (.lst xs)/\EL K H xs b.es
 outs:LP K H A.o b.outs
 fees:LP K H A.f b.fees
 pays:LP K H A.p b.pays
 turns:H A.t=some (.lst (b.turns.map V.int))
 rates:LP K H A.r b.rates
 lates:LP K H A.l b.lates
 spans:LP K H A.s b.spans
 dues:LP K H A.d b.dues
theorem zaD.same {K:W.Frag} {H H':Hp} {a:Addr} {A:BkA} {b:BkT} (h:zaD K H a A b) (s:Same H H'):zaD K H' a A b :=
 ⟨s _ _ h.ins,h.cnt.same s,(let ⟨xs,e,r⟩:=h.ents;⟨xs,s _ _ e,r.same s⟩),h.outs.same s,h.fees.same s,h.pays.same s,s _ _ h.turns,h.rates.same s,h.lates.same s,h.spans.same s,h.dues.same s⟩
noncomputable def wo (H:Hp) (a:Addr):Hp:=fun b=>if b=a then none else H b
theorem zvt {H:Hp} {a b:Addr} (h:b≠a):wo H a b=H b:=if_neg h
theorem zcm {H:Hp} {a:Addr}:Same (wo H a) H:=fun b o e=>by
 unfold wo at e
 split at e
 ·cases e
 ·exact e
theorem zvR {H H':Hp} {a:Addr} (s:Same H H'):Same (wo H a) (wo H' a):=fun b o e=>by
 unfold wo at e ⊢
 split at e
 ·cases e
 ·rename_i n
  rw[if_neg n]
  exact s _ _ e
theorem zc7 {H:Hp} {a:Addr} {o:HO}:wo (upd H a o) a=wo H a:=funext fun b=>by
 unfold wo
 split
 ·rfl
 ·rename_i n
  rw[zx n]
theorem zvO {K:W.Frag} {H:Hp} {a C dx:Addr} {fs:List (Str × V)} {xs:List V} {l:List (Int × Int)} (h:zy K H xs l) (e:H a=some (.ins C dx fs)):zy K (wo H a) xs l:=by
 induction h with
 | nil=>exact .nil
 | cons h _ ih=>exact .cons (by rw[zvt (zaW h e (by intro z;cases z))];exact h) ih
theorem zoQ {H:Hp} {a p C dx:Addr} {fs:List (Str × V)} {xs:List V} (h:H p=some (.lst xs)) (e:H a=some (.ins C dx fs)):wo H a p=some (.lst xs):=by
 rw[zvt (zaW h e (by intro z;cases z))];exact h
theorem LP.wo {K:W.Frag} {H:Hp} {a p C dx:Addr} {fs:List (Str × V)} {l:List (Int × Int)} (h:LP K H p l) (e:H a=some (.ins C dx fs)):LP K (L2.wo H a) p l:=by
 obtain ⟨xs,h1,h2,h3⟩:=h
 exact ⟨xs,zoQ h1 e,zvO h2 e,h3⟩
theorem zcZ {H H2:Hp} {a:Addr} {o:HO} (s:Same H H2):Same (wo H a) (wo (upd H2 a o) a):=by
 rw[zc7]
 exact zvR s
noncomputable def tot (q:Int->Bool) (l:List (Int × Int)):Int:=((l.filter fun s=>q s.1).map (·.2)).sum
theorem zeB (q:Int->Bool) (s:Int × Int) (l:List (Int × Int)):tot q (s::l)=(if q s.1 then s.2 else 0)+tot q l:=by
 unfold tot
 by_cases h:q s.1=true
 ·rw[yat (by simpa using h),if_pos h];simp
 ·rw[yau (by simpa using h),if_neg h];simp
theorem zck (s:Int × Int) (l:List (Int × Int)) (n:Int):Sby.sm (s::l) n=(if s.1=n then s.2 else 0)+Sby.sm l n:=by
 have:=zeB (fun k=>decide (k=n)) s l
 simpa [tot,Sby.sm] using this
theorem znM (q:Int->Bool) (n:Int):∀ l:List (Int × Int),tot q l=(if q n then Sby.sm l n else 0)+tot q (l.filter fun s=>decide (s.1≠n))
 | []=>by simp[tot,Sby.sm]
 | s::l=>by
  rw[zeB,znM q n l,zck]
  by_cases e:s.1=n
  ·rw[yau (by simpa using e),if_pos e,e]
   split <;> ac_rfl
  ·rw[yat (by simpa using e),if_neg e,zeB]
   split <;> split <;> ac_rfl
theorem zwq {n d:Int} (h:d≠n) (l:List (Int × Int)):Sby.sm (l.filter fun s=>decide (s.1≠n)) d=Sby.sm l d:=by
 induction l with
 | nil=>rfl
 | cons s l ih =>
  by_cases e:s.1=n
  ·rw[yau (by simpa using e),zck,if_neg (by ac_rfl),ih];ac_rfl
  ·rw[yat (by simpa using e),zck,zck,ih]
theorem zqC (q:Int->Bool):∀ (ns:List Int) (l:List (Int × Int)),ns.Nodup->(∀ p∈l,p.1∈ns)->tot q (ns.map fun d=>(d,Sby.sm l d))=tot q l
 | [],l,_,h=>by
  cases l with
  | nil=>rfl
  | cons s l=>exact absurd (h s yam) (by simp)
 | n::ns,l,nd,h=>by
  obtain ⟨n1,n2⟩:=ybm.mp nd
  rw[ybb,zeB,znM q n l,<-zqC q ns (l.filter fun s=>decide (s.1≠n)) n2 fun p hp=>?_]
  ·congr 2
   apply ybu
   intro d hd
   rw[zwq (fun (e:d=n)=>n1 (by rw[<-e];exact hd))]
  ·obtain ⟨h1,h2⟩:=yap.mp hp
   rcases yal.mp (h p h1) with e | e
   ·exact absurd e (by simpa using h2)
   ·exact e
theorem zuw {r l:List (Int × Int)} (T:Sby.Tab r l):r=(r.map (·.1)).map fun d=>(d,Sby.sm l d):=by
 rw[ybn]
 conv=>lhs;rw[<-List.map_id r]
 apply ybu
 intro p hp
 show p=(p.1,Sby.sm l p.1)
 rw[<-T.val p hp]
theorem zrz {r l:List (Int × Int)} (T:Sby.Tab r l) (q:Int->Bool):tot q r=tot q l:=by
 rw[zuw T]
 exact zqC q _ l (Sby.zcW T.up) fun p hp=>(T.mem p.1).mpr (yay hp)
theorem zaI {r l:List (Int × Int)} (T:Sby.Tab r l) (d:Int):upto r d=upto l d:=zrz T fun k=>decide (k<=d)
noncomputable def mvp (f:Int->Int) (l:List (Int × Int)):List (Int × Int):=l.map fun s=>(f s.1,s.2)
theorem ztu (f:Int->Int) (l:List (Int × Int)) (k:Int):Sby.sm (mvp f l) k=tot (fun d=>decide (f d=k)) l:=by
 induction l with
 | nil=>rfl
 | cons s l ih =>
  show Sby.sm ((f s.1,s.2)::mvp f l) k=_
  rw[zck,zeB,ih]
  by_cases e:f s.1=k
  ·rw[if_pos e,if_pos (by simpa using e)]
  ·rw[if_neg e,if_neg (by simpa using e)]
theorem zv1 {r r2 l:List (Int × Int)} (f:Int->Int) (T:Sby.Tab r l) (T2:Sby.Tab r2 (mvp f r)):Sby.Tab r2 (mvp f l):=by
 have k:∀ l:List (Int × Int),(mvp f l).map (·.1)=(l.map (·.1)).map f:=fun l=>by unfold mvp;rw[ybn,ybn];rfl
 refine ⟨T2.up,fun d=>(T2.mem d).trans ?_,fun p hp=>?_⟩
 ·rw[k,k]
  constructor
  ·intro h
   obtain ⟨x,hx,e⟩:=yaf.mp h
   exact yaf.mpr ⟨x,(T.mem x).mp hx,e⟩
  ·intro h
   obtain ⟨x,hx,e⟩:=yaf.mp h
   exact yaf.mpr ⟨x,(T.mem x).mpr hx,e⟩
 ·rw[T2.val p hp,ztu,ztu,zrz T]
noncomputable def mvd (l:List (Int × Int)) (d:Int):Int:=Classical.choose (Stills.zlv (l:=l) d)
theorem zkL (l:List (Int × Int)) (d:Int):Stills.Free l d (mvd l d):=Classical.choose_spec (Stills.zlv (l:=l) d)
theorem ztM {l:List (Int × Int)} {d m:Int} (h:Stills.Free l d m):m=mvd l d:=h.one (zkL l d)
theorem zvC {l r:List (Int × Int)} (h:∀ d,Spans.Cov l d↔Spans.Cov r d):mvd l=mvd r:=funext fun d=>ztM ((zkL l d).cov h)
structure zbb (b:BkT):Prop where
 outs:Sby.Tab b.outs (prs "out" b.es)
 fees:Sby.Tab b.fees (prs "fee" b.es)
 pays:Sby.Tab b.pays (prs "pay" b.es)
 turns:Days b.turns (dys "turn" b.es)
 rates:Stills.TabOf (prs "rate" b.es) b.rates/\b.rates=(b.rates.map (·.1)).map (fun d=>(d,Sums.valOf (prs "rate" b.es) d))
 lates:Stills.TabOf (prs "late" b.es) b.lates/\b.lates=(b.lates.map (·.1)).map (fun d=>(d,Sums.valOf (prs "late" b.es) d))
 spans:Spans.Joined b.spans/\∀ d,Spans.Cov b.spans d↔Spans.Cov (prs "still" b.es) d
 dues:Sby.Tab b.dues (mvp (mvd (prs "still" b.es)) (prs "due" b.es))
def RtW (w:Str):Prop:=w = "rate" \/ w = "late"
theorem rtl {w:Str} {k:Ek} {d x:Int} (hw:RtW w) (h:isW w (k,d,x)=true):yce ("rate" : Str) (zmT k d x)=some (V.int x):=by
 have e:k.word=w:=V.str.inj (of_decide_eq_true h)
 subst e
 rcases hw with hw | hw <;> (cases k <;> first | rfl | (exfalso;revert hw;decide))
theorem stl {k:Ek} {d x:Int} (h:isW "still" (k,d,x)=true):yce ("until" : Str) (zmT k d x)=some (V.int x):=by
 have e:k.word = "still" := V.str.inj (of_decide_eq_true h)
 cases k <;> first | rfl | (exfalso;revert e;decide)
theorem zuM (l:List (Int × Int)) (d:Int):Spans.Cov (l.filter fun s=>decide (s.1<s.2)) d↔Spans.Cov l d:=by
 constructor
 ·rintro ⟨s,hs,h⟩
  exact ⟨s,(yap.mp hs).1,h⟩
 ·rintro ⟨s,hs,h1,h2⟩
  exact ⟨s,yap.mpr ⟨hs,by simp;ac_rfl⟩,h1,h2⟩
theorem ziG {w:Str} {es:List Er}:(prs w es).length<=es.length:=by
 unfold prs
 rw[yab]
 exact yav _ _
theorem tyC {K:W.Frag} {H:Hp} {a:Addr} {kd:Kd} (cl:Cls K (cA K kd.cls)) (I:zu9 K (cA K kd.cls)) (h:zb4 K H a kd):zdA K H (.ref a) (.ref (cA K kd.cls)):=by
 obtain ⟨dx,e⟩:=h
 exact .ins e cl I.ha I.hn I.htk I.hm
theorem comp_map {α:Type} {J:It} {ix:List Nat} {te:TE} {σ:St} {l:Addr} {xs:List V} {H:Hp} {R:Hp->Prop} (Y:ziN J H xs) (hl:H l=none) (hz:xs.length<=sizeLine) (es:List α) (len:es.length=xs.length)
  (P:Hp->V->α->Prop) (mono:∀ v e H1 H2,Same H1 H2->P H1 v e->P H2 v e) (put:∀ v e H1 ys zs,H1 l=some (.lst ys)->P H1 v e->P (upd H1 l (.lst zs)) v e)
  (he:∀ (i:Nat) x e H' Q',xs[i]?=some x->es[i]?=some e->Same H H'->(∀ v H2,Same H' H2->P H2 v e->Q' v H2)->te (some x::capts σ ix) H' Q')
  (fin:∀ ys H',Same H H'->H' l=some (.lst ys)->LL (P H') ys es->R H') :
  ∃ W:Nat->Nat->List V->Hp->Prop,(∃ m,W 0 m [] (upd H l (.lst [])))/\Turns ix te σ J l R W:=by
 refine zo2 Y hl hz (fun i v H'=>∃ e,es[i]?=some e/\P H' v e) (fun i v H1 H2 s ⟨e,e1,e2⟩=>⟨e,e1,mono v e _ _ s e2⟩) (fun i v H1 ys zs hL ⟨e,e1,e2⟩=>⟨e,e1,put v e _ _ _ hL e2⟩) ?_ ?_
 ·intro i x H' Q' hx sH hq
  have il:i<es.length:=by rw[len];exact (yac.mp hx).1
  have eP:es[i]?=some (es[i]'il):=yaa il
  exact he i x _ H' Q' hx eP sH fun v H2 s2 pv=>hq v H2 s2 ⟨_,eP,pv⟩
 ·intro ys H' sH eL yl hp
  exact fin ys H' sH eL (LL.of (by ac_rfl) hp)
theorem zur {K:W.Frag} {H:Hp} {f:Int->Int} {ys:List V} {l:List (Int × Int)} (h:LL (fun v s=>∃ t,v=.ref t/\H t=some (.tup [.int (f s.1),.int s.2])) ys l):zy K H ys (mvp f l):=by
 induction h with
 | nil=>exact .nil
 | cons h _ ih =>
  obtain ⟨t,rfl,e⟩:=h
  exact .cons e ih
noncomputable def zc4 (k:Ek) (d x:Int):List V:=[.str k.word,.int d,.int x]
noncomputable def RL3 (H:Hp):List V->List Er->Prop:=LL fun v e=>∃ t,v=.ref t/\H t=some (.tup (zc4 e.1 e.2.1 e.2.2))
theorem RL3.same {H H':Hp} {vs:List V} {es:List Er} (h:RL3 H vs es) (s:Same H H'):RL3 H' vs es:=LL.imp (fun v e ⟨t,e1,e2⟩=>⟨t,e1,s _ _ e2⟩) h
theorem RL3.put {H:Hp} {vs ys zs:List V} {es:List Er} {p:Addr} (h:RL3 H vs es) (hp:H p=some (.lst ys)):RL3 (upd H p (.lst zs)) vs es:=LL.imp (fun v e ⟨t,e1,e2⟩=>⟨t,e1,by rw[zx (zaW e2 hp (by intro z;cases z))];exact e2⟩) h
theorem zsY {X:Cx} (K:W.Frag) (hK:X.K=K:=by rfl):OpR X (compareOp .In) (rIn K false):=by
 subst hK
 exact zj7
theorem zs6 {α:Type} {J:It} {ix:List Nat} {tt:TT} {te:TE} {σ:St} {l:Addr} {xs:List V} {H:Hp} {R:Hp->Prop} (Y:ziN J H xs) (hl:H l=none) (hz:xs.length<=sizeLine) (es:List α) (len:es.length=xs.length)
  (f:α->Bool) (P:Hp->V->α->Prop) (mono:∀ v e H1 H2,Same H1 H2->P H1 v e->P H2 v e) (put:∀ v e H1 ys zs,H1 l=some (.lst ys)->P H1 v e->P (upd H1 l (.lst zs)) v e)
  (ht:∀ (i:Nat) x e H' Q',xs[i]?=some x->es[i]?=some e->Same H H'->(∀ H2,Same H' H2->Q' (f e) H2)->tt (some x::capts σ ix) H' Q')
  (he:∀ (i:Nat) x e H' Q',xs[i]?=some x->es[i]?=some e->f e=true->Same H H'->(∀ v H2,Same H' H2->P H2 v e->Q' v H2)->te (some x::capts σ ix) H' Q')
  (fin:∀ ys H',Same H H'->H' l=some (.lst ys)->LL (P H') ys (es.filter f)->R H') :
  ∃ W:Nat->Nat->List V->Hp->Prop,(∃ m,W 0 m [] (upd H l (.lst [])))/\zgm ix tt te σ J l R W:=by
 refine ⟨fun i m ys H'=>m=xs.length-i/\i<=xs.length/\LL (P H') ys ((es.take i).filter f)/\Same H H'/\H' l=some (.lst ys),⟨xs.length,by simp,ydf _,by simp;exact .nil,zc hl _,zf⟩,?_⟩
 rintro i m ys H' ⟨rfl,hi,hy,sH,hL⟩
 refine ⟨hL,?_⟩
 by_cases hlt:i<xs.length
 ·have eP:es[i]?=some (es[i]'(by ac_rfl)):=yaa (by ac_rfl)
  generalize es[i]'(by ac_rfl)=e at eP
  have tk:es.take (i+1)=es.take i++[e]:=by rw[ybe,eP];rfl
  refine .inr ⟨Y.go i H' sH hlt,by
   have:ys.length<=i:=by
    rw[hy.length]
    exact ydh (yav _ _) (by rw[yaq];ac_rfl)
   ac_rfl,fun x H2 y=>?_⟩
  obtain ⟨rfl,e2⟩:=Y.yld i H' x H2 sH y
  refine ht i x e _ _ e2 eP sH fun H4 s4=>?_
  have sH4:=sH.trans s4
  have hL4:=s4 _ _ hL
  have hy4:=hy.imp fun v e q=>mono v e _ _ s4 q
  cases b:f e with
  | true =>
   rw[if_pos rfl]
   refine he i x e _ _ e2 eP b sH4 fun v H3 s3 pv=>?_
   have hL3:=s3 _ _ hL4
   refine ⟨hL3,xs.length-(i+1),by ac_rfl,rfl,hlt,?_,zN (sH4.trans s3) hl,zf⟩
   rw[tk,ybc,yat b]
   exact ((hy4.imp fun v e q=>put v e H3 ys _ hL3 (mono v e _ _ s3 q)).push (put v e H3 ys _ hL3 pv))
  | false =>
   rw[if_neg Bool.false_ne_true]
   refine ⟨xs.length-(i+1),by ac_rfl,rfl,hlt,?_,sH4,hL4⟩
   rw[tk,ybc,yau (by rw[b];decide)]
   simpa using hy4
 ·rw[yaw (by ac_rfl)] at hy
  exact .inl ⟨Y.stop i H' sH (by ac_rfl),fin ys H' sH hL hy⟩
end L2
namespace L2
open PySem
noncomputable abbrev T3:=Int × Int × Int
noncomputable def mn (a b:Int):Int:=if b<a then b else a
noncomputable def sum2 (l:List (Int × Int)):Int:=(l.map (·.2)).sum
noncomputable def zxb (day paid t:Int) (s:Int × Int):List T3:=if s.1<=day/\mn s.2 (t+s.2-paid) > 0 then [(s.1,s.2,mn s.2 (t+s.2-paid))] else []
noncomputable def opn (day paid:Int):Int->List (Int × Int)->List T3
 | _,[]=>[]
 | t,s::l=>zxb day paid t s++opn day paid (t+s.2) l
theorem ztU (l:List (Int × Int)) (s:Int × Int):sum2 (l++[s])=sum2 l+s.2:=by simp[sum2]
noncomputable def p0 (a:Int):Int:=if a > 0 then a else 0
theorem zcx (s:Int × Int) (l:List (Int × Int)) (x:Int):upto (s::l) x=(if s.1<=x then s.2 else 0)+upto l x:=by
 have:=zeB (fun k=>decide (k<=x)) s l
 simpa [tot,upto] using this
theorem zft {l:List (Int × Int)} {x:Int} (h:∀ s∈l,x<s.1):upto l x=0:=by
 unfold upto
 rw[yci.mpr (fun s hs=>by have:=h s hs;simp;ac_rfl)]
 rfl
end L2
namespace L2
open PySem
theorem zns (d x:Int):∀ r:List (Int × Int),(∀ s∈r,s.1<=x->s.1<=d)\/∃ s∈r,d<s.1/\s.1<=x/\∀ u∈r,u.1<=x->u.1<=s.1
 | []=>.inl fun s hs=>by cases hs
 | a::r=>by
  by_cases c:d<a.1/\a.1<=x
  ·right
   rcases zns d x r with h | ⟨s,hs,h1,h2,h3⟩
   ·refine ⟨a,by simp,c.1,c.2,fun u hu z=>?_⟩
    rcases yal.mp hu with rfl | hu
    ·exact yea _
    ·have:=h u hu z;ac_rfl
   ·by_cases c2:s.1<=a.1
    ·refine ⟨a,by simp,c.1,c.2,fun u hu z=>?_⟩
     rcases yal.mp hu with rfl | hu
     ·exact yea _
     ·have:=h3 u hu z;ac_rfl
    ·refine ⟨s,yak _ hs,h1,h2,fun u hu z=>?_⟩
     rcases yal.mp hu with rfl | hu
     ·ac_rfl
     ·exact h3 u hu z
  ·rcases zns d x r with h | ⟨s,hs,h1,h2,h3⟩
   ·left
    intro u hu z
    rcases yal.mp hu with rfl | hu
    ·ac_rfl
    ·exact h u hu z
   ·right
    refine ⟨s,yak _ hs,h1,h2,fun u hu z=>?_⟩
    rcases yal.mp hu with rfl | hu
    ·ac_rfl
    ·exact h3 u hu z
theorem zm9 {r:List (Int × Int)} {x y:Int} (h:∀ s∈r,s.1<=x↔s.1<=y):upto r x=upto r y:=by
 unfold upto
 rw[List.filter_congr (q:=fun s=>decide (s.1<=y)) fun s hs=>decide_eq_decide.mpr (h s hs)]
noncomputable def runs:Int->List (Int × Int)->List (Int × Int)
 | _,[]=>[]
 | t,s::l=>(s.1,t+s.2)::runs (t+s.2) l
theorem znV:∀ (l:List (Int × Int)) (t:Int) (s:Int × Int),runs t (l++[s])=runs t l++[(s.1,t+sum2 l+s.2)]
 | [],t,s=>by simp[runs,sum2]
 | u::l,t,s=>by
  simp only[List.cons_append,runs,znV l]
  have:t+u.2+sum2 l+s.2=t+sum2 (u::l)+s.2:=by simp[sum2];ac_rfl
  rw[this]
theorem zb0:∀ (l:List (Int × Int)) (t:Int),(runs t l).map (·.1)=l.map (·.1)
 | [],t=>rfl
 | s::l,t=>by simp[runs,zb0 l]
theorem zdE (l:List (Int × Int)) (t:Int):(runs t l).length=l.length:=by
 have:=congrArg List.length (zb0 l t)
 rwa [yab,yab] at this
theorem zpp:∀ {l:List (Int × Int)} (t:Int),((l.map (·.1)).Pairwise (·<·))->∀ s∈runs t l,s.2=t+upto l s.1
 | [],t,_,s,h=>by simp[runs] at h
 | a::l,t,up,s,h=>by
  rw[ybb,ybr] at up
  simp only[runs] at h
  rw[zcx]
  rcases yal.mp h with rfl | h
  ·rw[if_pos (yea _),zft fun u hu=>up.1 u.1 (yay hu)]
   simp
  ·have hk:s.1∈l.map (·.1):=by rw[<-zb0 l (t+a.2)];exact yay h
   have:=up.1 _ hk
   rw[zpp (t+a.2) up.2 s h,if_pos (by ac_rfl)]
   ac_rfl
theorem zoV {l:List (Int × Int)} (h:(l.map (·.1)).Pairwise (·<·)):l.Pairwise fun s t=>s.1<t.1:=by rwa [ybi] at h
theorem za0 {r:List (Int × Int)} (up:(r.map (·.1)).Pairwise (·<·)) (nn:∀ s∈r,0<=s.1) (d:Int):Sums.valOf (runs 0 r) d=upto r d:=by
 have keys:=zb0 r 0
 have upr:(runs 0 r).Pairwise fun s t=>s.1<t.1:=zoV (by rw[keys];exact up)
 have t0:∀ s∈runs 0 r,0<=s.1:=fun s hs=>by
  have:s.1∈r.map (·.1):=by rw[<-keys];exact yay hs
  obtain ⟨u,hu,e⟩:=yaf.mp this
  rw[<-e];exact nn u hu
 refine Sums.Val.one (Sums.zb6 t0 d) ?_
 rcases zns (-1) d r with k | ⟨s,hs,h1,h2,h3⟩
 ·have far:∀ s∈r,d<s.1:=fun s hs=>by
   have:=nn s hs
   rcases Int.lt_or_le d s.1 with c | c
   ·exact c
   ·have:=k s hs c;ac_rfl
  refine .inl ⟨zft far,fun s hs=>?_⟩
  have:s.1∈r.map (·.1):=by rw[<-keys];exact yay hs
  obtain ⟨u,hu,e⟩:=yaf.mp this
  rw[<-e];exact far u hu
 ·have:s.1∈(runs 0 r).map (·.1):=by rw[keys];exact yay hs
  obtain ⟨u,hu,e⟩:=yaf.mp this
  obtain ⟨n,hn⟩:=ybj.mp hu
  have uv:=zpp 0 up u hu
  rw[zm9 (y:=s.1) fun v hv=>⟨h3 v hv,fun z=>by ac_rfl⟩]
  refine .inr ⟨n,s.1,by rw[hn];rw[<-e];congr 1;exact Prod.ext rfl (by rw[uv];simp),h2,fun j v hv le=>?_⟩
  have hvk:v.1∈r.map (·.1):=by rw[<-keys];exact yay (yah hv)
  obtain ⟨w,hw,ew⟩:=yaf.mp hvk
  have:=h3 w hw (by ac_rfl)
  rcases ydk j n with c | c | c
  ·have:=Stills.zqw upr hv hn c;left;ac_rfl
  ·subst c
   rw[hn] at hv
   cases hv
   right;exact ⟨e,ydc _⟩
  ·have:=Stills.zqw upr hn hv c;ac_rfl
end L2
namespace L2
open PySem PySem.Spec PyProof.Rows
open AutoSeq1 (wpAny_loadPart')
theorem zl6 (l:Addr) (items:Array Value) (n:Nat) (b:Addr) (items2:Array Value) (n2:Nat) (dd:Option Addr) (ss:Array (Option Value)) (hs0:¬(!items.isEmpty && Builtin.List.listTooLong (items.size+items2.size))=true) (hs1:items.size<=sizeLine) (hs2:items.size+items2.size<=sizeLine+1) :
  Meets (Builtin.«list.extend» ⟨[.ref l,.ref b],[]⟩) (fun _ R s=>s.heap.get? l=some { cls:=.type "list", dict:=none,data:=.seq items n,slots:=#[] }/\s.heap.get? b=some { cls:=.type "tuple", dict:=dd,data:=.seq items2 n2,slots:=ss }/\R (.ok (.ret Value.none)) { s with heap:=s.heap.update l (Obj.mapSeq fun x=>x++items2),toks:=s.toks }) :=
 .of_wp fun prog w A R s h=>by
  obtain ⟨hp,g,d,tk,os⟩:=s;obtain ⟨hl,hb,h⟩:=h;have f1:=AutoSeq1.idx_int;have f2:=sub_tuple_tuple;have f3:=sub_list_list;have f4:=sub_tuple_list;have f5:=sub_list_tuple;
  have hz':(items++items2).size<=sizeLine+1:=by rw[Array.size_append];exact hs2
  wp_walk using (wpAny_updateSeq hl rfl (hz:=hs1) (_hz':=hz')),wpAny_loadPart' hl,wpAny_loadPart' hb;exact ⟨_,rfl,h⟩
noncomputable def zup:V->List V->Hp->VK->Prop:=fun x vs H Q=>∃ l b xs zs,x=.ref l/\vs=[.ref b]/\H l=some (.lst xs)/\H b=some (.tup zs)/\xs.length+zs.length<=sizeLine/\Q .non (upd H l (.lst (xs++zs)))
theorem zsh {X:Cx}:MtM X "list.extend" zup:=by
 intro pins s σ H x vs v us Q I rx rv h
 obtain ⟨l,b,xs,zs,rfl,rfl,hH,hB,hz,q⟩:=h
 cases rx
 obtain ⟨u,rfl,ru⟩:=rv.one
 cases ru
 obtain ⟨z,its,n,r,hl,e⟩:=I.znl hH
 obtain ⟨z2,its2,r2,tp⟩:=(show zas X.prog X.w H s.heap b (.tup zs) from I.hok b _ hB)
 have hl2:=r2.length
 obtain ⟨⟨c,dd,dt,ss⟩,e2,oc,n2,od⟩:=(show s.heap.IsTuple b its2.toArray from tp)
 replace oc:c=.type "tuple" := oc
 replace od:dt=.seq its2.toArray n2:=od
 subst oc od
 have hsz:its.toArray.size+its2.toArray.size<=sizeLine:=by rw[yao,yao];ac_rfl
 have hlong:¬ (!its.toArray.isEmpty && Builtin.List.listTooLong (its.toArray.size+its2.toArray.size))=true:=by
  rw[zp3 hsz,Bool.and_false]
  exact Bool.false_ne_true
 refine call_meets F.slot_list_extend ⟨_,e,rfl⟩ F.entry_list_extend (F.args_list_extend_2 _ _)
  (zl6 l its.toArray n b its2.toArray n2 dd ss hlong (by rw[yao];ac_rfl) (by ac_rfl)) ⟨e,e2,?_⟩
 refine ⟨.non,_,I.lset (its':=its++its2) hH e (by simp) (r.append r2) ?_,rfl,q⟩
 rw[yad]
 ac_rfl
end L2
namespace L2
open PySem
noncomputable def csum (U f:Int->Int) (a b:Int):Int:=Sums.sum (fun d=>(U (d+1)-U d)*f d) a b
theorem zlC {U f:Int->Int} {a b c:Int} (h1:a<=c) (h2:c<=b):csum U f a b=csum U f a c+csum U f c b:=Sums.sum_add h1 h2
theorem ziH {U f:Int->Int} {a b:Int} (h:b<=a):csum U f a b=0:=Sums.zwZ h
theorem ztS {U f:Int->Int} {x y:Int} (xy:x<=y) (h:∀ d,x<=d->d<y->f d=f x):csum U f x y=(U y-U x)*f x:=Sums.zuY xy fun d h1 h2=>by rw[h d h1 h2]
noncomputable def zeP (b:BkT) (d:Int):Int:=if Spans.isIn b.spans d then 0 else Sums.valOf b.rates d
noncomputable def zeN (b:BkT) (d:Int):Int:=if Spans.isIn b.spans d then 0 else Sums.valOf b.lates d
noncomputable def zeT (b:BkT) (d:Int):Int:=if Spans.isIn b.spans d then 0 else p0 (upto b.dues (d-b.g)-upto b.pays d)
noncomputable def zaF (b:BkT) (P d:Int):Int:=zeP b d*P+zeN b d*mn P (zeT b d)
def TDay (b:BkT) (t:Int):Prop:=t=0\/(∃ s∈b.rates++b.lates++b.pays,t=s.1)\/(∃ s∈b.dues,t=s.1+b.g)\/∃ s∈b.spans,t=s.1\/t=s.2
theorem stay {b:BkT} {x z:Int} (xz:x<=z) (h:∀ t,TDay b t->¬ (x<t/\t<=z)):zeP b z=zeP b x/\zeN b z=zeN b x/\zeT b z=zeT b x:=by
 have i1:Spans.isIn b.spans x=Spans.isIn b.spans z:=Stills.zvy (fun _=>Iff.rfl) xz fun s hs e q1 q2=>⟨fun k=>h e (.inr (.inr (.inr ⟨s,hs,.inl k⟩))) ⟨q1,q2⟩,fun k=>h e (.inr (.inr (.inr ⟨s,hs,.inr k⟩))) ⟨q1,q2⟩⟩
 have r1:Sums.valOf b.rates x=Sums.valOf b.rates z:=Stills.zeK xz fun s hs q=>h s.1 (.inr (.inl ⟨s,yag.mpr (.inl (yag.mpr (.inl hs))),rfl⟩)) q
 have l1:Sums.valOf b.lates x=Sums.valOf b.lates z:=Stills.zeK xz fun s hs q=>h s.1 (.inr (.inl ⟨s,yag.mpr (.inl (yag.mpr (.inr hs))),rfl⟩)) q
 have p1:upto b.pays z=upto b.pays x:=zm9 fun s hs=>by
  have:=h s.1 (.inr (.inl ⟨s,yag.mpr (.inr hs),rfl⟩))
  ac_rfl
 have d1:upto b.dues (z-b.g)=upto b.dues (x-b.g):=zm9 fun s hs=>by
  have:=h (s.1+b.g) (.inr (.inr (.inl ⟨s,hs,rfl⟩)))
  ac_rfl
 unfold zeP zeN zeT
 rw[i1,r1,l1,p1,d1]
 exact ⟨rfl,rfl,rfl⟩
theorem ztm {b:BkT} {P x z:Int} (xz:x<=z) (h:∀ t,TDay b t->¬ (x<t/\t<=z)):zaF b P z=zaF b P x:=by
 obtain ⟨h1,h2,h3⟩:=stay xz h
 unfold zaF
 rw[h1,h2,h3]
structure BOk (b:BkT):Prop where
 ru:b.rates.Pairwise fun s t=>s.1<t.1
 rn:∀ s∈b.rates,0<=s.1/\0<=s.2/\s.2<=1000000
 lu:b.lates.Pairwise fun s t=>s.1<t.1
 ln:∀ s∈b.lates,0<=s.1/\0<=s.2/\s.2<=1000000
 pu:(b.pays.map (·.1)).Pairwise (·<·)
 pn:∀ s∈b.pays,0<=s.1
 du:(b.dues.map (·.1)).Pairwise (·<·)
 dn:∀ s∈b.dues,0<=s.1
 jn:Spans.Joined b.spans
 sn:∀ s∈b.spans,0<=s.1
 g0:0<=b.g
 sz:b.rates.length+b.lates.length+b.pays.length+b.dues.length+2*b.spans.length<63
theorem zks {t:List (Int × Int)} (h:∀ s∈t,0<=s.1/\0<=s.2/\s.2<=1000000) (d:Int):0<=Sums.valOf t d/\Sums.valOf t d<=1000000:=by
 rcases Sums.zb6 (fun s hs=>(h s hs).1) d with ⟨e,_⟩ | ⟨i,x,e,_⟩
 ·rw[e];exact ⟨yea _,by decide⟩
 ·exact (h _ (yah e)).2
theorem BOk.rt {b:BkT} (O:BOk b) (d:Int):0<=zeP b d/\zeP b d<=1000000:=by
 unfold zeP
 split
 ·exact ⟨yea _,by decide⟩
 ·exact zks O.rn d
theorem BOk.lt {b:BkT} (O:BOk b) (d:Int):0<=zeN b d/\zeN b d<=1000000:=by
 unfold zeN
 split
 ·exact ⟨yea _,by decide⟩
 ·exact zks O.ln d
noncomputable def shf (g:Int) (l:List (Int × Int)):List (Int × Int):=l.map fun s=>(s.1+g,s.2)
theorem zb7 (g:Int) (l:List (Int × Int)) (d:Int):upto (shf g l) d=upto l (d-g):=by
 unfold upto shf
 rw[List.filter_map,ybn]
 congr 1
 rw[List.filter_congr (q:=fun s=>decide (s.1<=d-g)) fun s hs=>by
  show decide (s.1+g<=d)=decide (s.1<=d-g)
  exact decide_eq_decide.mpr ⟨fun h=>by ac_rfl,fun h=>by ac_rfl⟩]
 rfl
noncomputable def R4 (b:BkT) (H:Hp):List V->List Int->Prop:=LL fun v d=>∃ t,v=.ref t/\H t=some (.tup [.int d,.int (zeP b d),.int (zeN b d),.int (zeT b d)])
theorem R4.same {b:BkT} {H H':Hp} {xs:List V} {l:List Int} (h:R4 b H xs l) (s:Same H H'):R4 b H' xs l:=LL.imp (fun v e ⟨t,e1,e2⟩=>⟨t,e1,s _ _ e2⟩) h
theorem R4.put {b:BkT} {H:Hp} {xs ys zs:List V} {l:List Int} {p:Addr} (h:R4 b H xs l) (hp:H p=some (.lst ys)):R4 b (upd H p (.lst zs)) xs l:=LL.imp (fun v e ⟨t,e1,e2⟩=>⟨t,e1,by rw[zx (zaW e2 hp (by intro z;cases z))];exact e2⟩) h
noncomputable def RF (H:Hp):List V->List Int->Prop:=LL fun v d=>∃ t ws,v=.ref t/\H t=some (.tup (.int d::ws))
theorem R4.rf {b:BkT} {H:Hp} {xs:List V} {l:List Int} (h:R4 b H xs l):RF H xs l:=LL.imp (fun v e ⟨t,e1,e2⟩=>⟨t,_,e1,e2⟩) h
theorem zrv {K:W.Frag} {H:Hp} {xs:List V} {l:List (Int × Int)} (h:zy K H xs l):RF H xs (l.map (·.1)):=by
 induction h with
 | nil=>exact .nil
 | cons h _ ih=>exact .cons ⟨_,_,rfl,h⟩ ih
structure znw (ds:List Int) (d:Int) (n:Nat):Prop where
 le:n<=ds.length
 lo:∀ i x,i<n->ds[i]?=some x->x<=d
 hi:∀ i x,n<=i->ds[i]?=some x->d<x
theorem znw.rows {l:List (Int × Int)} {d:Int} {n:Nat} (h:znw (l.map (·.1)) d n):Stills.Begun l d n :=
 ⟨by have:=h.le;rwa [yab] at this,fun i s hi hs=>h.lo i s.1 hi (by rw[yaj,hs];rfl),fun i s hi hs=>h.hi i s.1 hi (by rw[yaj,hs];rfl)⟩
theorem zcU {ds:List Int} (up:ds.Pairwise (·<·)) {i j:Nat} {s t:Int} (hs:ds[i]?=some s) (ht:ds[j]?=some t) (ij:i<j):s<t:=by
 obtain ⟨hi,rfl⟩:=yac.mp hs
 obtain ⟨hj,rfl⟩:=yac.mp ht
 exact ybd.mp up i j hi hj ij
theorem ztQ {b:BkT} {P:Int} {U:Int->Int} {ds:List Int} (mem:∀ d,d∈ds↔TDay b d) (up:ds.Pairwise (·<·)) {st e x:Int} {n:Nat} (hx:ds[n]?=some x) (h1:x<=st) (h2:st<=e) (h3:∀ y,ds[n+1]?=some y->e<=y):csum U (zaF b P) st e=(U e-U st)*zaF b P x:=by
 have none:∀ z,x<=z->z<e->∀ t,TDay b t->¬ (x<t/\t<=z):=fun z h4 h5 t ht q=>by
  obtain ⟨j,hj⟩:=ybj.mp ((mem t).mpr ht)
  have jn:n<j:=by
   rcases ydk n j with c | c | c
   ·exact c
   ·subst c;rw[hx] at hj;have:=Option.some.inj hj;ac_rfl
   ·have:=zcU up hj hx c;ac_rfl
  have jl:=(yac.mp hj).1
  have hy:ds[n+1]?=some (ds[n+1]'(by ac_rfl)):=yaa (by ac_rfl)
  have hh:=h3 _ hy
  by_cases c:j=n+1
  ·subst c;rw[hj] at hy;have:=Option.some.inj hy;ac_rfl
  ·have:=zcU up hy hj (by ac_rfl);ac_rfl
 have e1:∀ z,x<=z->z<e->zaF b P z=zaF b P x:=fun z h4 h5=>ztm h4 (none z h4 h5)
 rcases Int.lt_or_le st e with c | c
 ·rw[ztS h2 fun d d1 d2=>by rw[e1 d (by ac_rfl) d2,e1 st h1 c],e1 st h1 c]
 ·have:st=e:=by ac_rfl
  subst this
  rw[ziH (yea _),Int.sub_self,Int.zero_mul]
theorem zjA {K:W.Frag} {H:Hp} {xs ys:List V} {l r:List (Int × Int)} (h:zy K H xs l) (k:zy K H ys r):zy K H (xs++ys) (l++r):=by
 induction h with
 | nil=>exact k
 | cons h _ ih=>exact .cons h ih
end L2
namespace L2
open PySem
theorem zhg:∀ {xs ys:List Int},xs.Nodup->(∀ x∈xs,x∈ys)->xs.length<=ys.length
 | [],_,_,_=>ydf _
 | x::xs,ys,nd,h=>by
  have hx:=h x yam
  obtain ⟨nx,nd'⟩:=ybm.mp nd
  have:=zhg (ys:=ys.erase x) nd' fun z hz=>(ycv (fun (q:z=x)=>nx (by rw[<-q];exact hz))).mpr (h z (yak _ hz))
  rw[ycq hx] at this
  have:=ycs hx
  rw[yax]
  ac_rfl
theorem zfy:∀ (l:List (Int × Int)) (d:Int),upto l d=upto l (d-1)+Sby.sm l d
 | [],d=>by simp[upto,Sby.sm]
 | s::l,d=>by
  rw[zcx,zcx,zck,zfy l d]
  by_cases c:s.1=d
  ·rw[if_pos (by ac_rfl),if_neg (by ac_rfl),if_pos c];ac_rfl
  ·by_cases c2:s.1<=d
   ·rw[if_pos c2,if_pos (by ac_rfl),if_neg c];ac_rfl
   ·rw[if_neg c2,if_neg (by ac_rfl),if_neg c];ac_rfl
theorem znP:∀ es:List Er,(prs "rate" es).length+(prs "late" es).length+(prs "pay" es).length+(prs "due" es).length+2*(prs "still" es).length<=2*es.length
 | []=>by simp[prs]
 | e::es=>by
  have ih:=znP es
  have st:∀ w:Str,(prs w (e::es)).length=(if isW w e=true then 1 else 0)+(prs w es).length:=fun w=>by
   unfold prs
   by_cases c:isW w e=true
   ·rw[yat c,if_pos c];simp;ac_rfl
   ·rw[yau c,if_neg c];simp
  rw[st,st,st,st,st,yax]
  obtain ⟨k,d,x⟩:=e
  have one:(if isW "rate" (k,d,x)=true then 1 else 0)+(if isW "late" (k,d,x)=true then 1 else 0)+(if isW "pay" (k,d,x)=true then 1 else 0)+(if isW "due" (k,d,x)=true then 1 else 0)+2*(if isW "still" (k,d,x)=true then 1 else 0)<=2:=by
   have one:∀ k:Ek,(if isW "rate" (k,0,0)=true then 1 else 0)+(if isW "late" (k,0,0)=true then 1 else 0)+(if isW "pay" (k,0,0)=true then 1 else 0)+(if isW "due" (k,0,0)=true then 1 else 0)+2*(if isW "still" (k,0,0)=true then 1 else 0)<=2:=fun k=>by cases k <;> decide
   exact one k
  ac_rfl
theorem zt2 {b:BkT} (I:zbb b) {f:Int} (f0:0<=f) (g0:0<=b.g) (day:∀ e∈b.es,f<=e.2.1) (rt:∀ w:Str,(w = "rate" \/ w = "late")->∀ s∈prs w b.es,0<=s.2/\s.2<=1000000) (len:b.es.length<=31):BOk b:=by
 have pd:∀ w:Str,∀ s∈prs w b.es,f<=s.1:=fun w s hs=>by
  obtain ⟨e,he,rfl⟩:=yaf.mp hs
  exact day e (yap.mp he).1
 have tb:∀ (w:Str) (t:List (Int × Int)),(w = "rate" \/ w = "late")->Stills.TabOf (prs w b.es) t/\t=(t.map (·.1)).map (fun d=>(d,Sums.valOf (prs w b.es) d))->(∀ s∈t,0<=s.1/\0<=s.2/\s.2<=1000000)/\t.length<=(prs w b.es).length:=fun w t hw ⟨T,e⟩=>by
  have nn:∀ s∈prs w b.es,0<=s.1/\0<=s.2/\s.2<=1000000:=fun s hs=>⟨by have:=pd w s hs;ac_rfl,rt w hw s hs⟩
  refine ⟨fun s hs=>?_,?_⟩
  ·have d0:0<=s.1:=T.nn (fun s hs=>(nn s hs).1) s hs
   rw[e] at hs
   obtain ⟨d,_,rfl⟩:=yaf.mp hs
   exact ⟨d0,zks nn d⟩
  ·have nd:(t.map (·.1)).Nodup:=by
    have:=T.up
    rw[<-ybi (f:=fun s:Int × Int=>s.1) (R:=(·<·))] at this
    exact Sby.zcW this
   have:=zhg nd fun k hk=>by
    obtain ⟨s,hs,e2⟩:=yaf.mp hk
    obtain ⟨u,hu,e3⟩:=(T.days k).mp ⟨s,hs,e2.symm⟩
    exact yaf.mpr ⟨u,hu,e3.symm⟩
   rwa [yab,yab] at this
 have tl:∀ {r l:List (Int × Int)},Sby.Tab r l->r.length<=l.length:=fun {r l} T=>by
  have:=zhg (Sby.zcW T.up) fun k hk=>(T.mem k).mp hk
  rwa [yab,yab] at this
 obtain ⟨r1,r2⟩:=tb "rate" b.rates (.inl rfl) I.rates
 obtain ⟨l1,l2⟩:=tb "late" b.lates (.inr rfl) I.lates
 have fr:∀ d,d<=mvd (prs "still" b.es) d:=fun d=>(zkL _ d).from_
 have wl:=znP b.es
 have dl:=tl I.dues
 have pl:=tl I.pays
 have jl:=Stills.ztj I.spans.1 I.spans.2
 have ml:(mvp (mvd (prs "still" b.es)) (prs "due" b.es)).length=(prs "due" b.es).length:=yab ..
 refine ⟨I.rates.1.up,r1,I.lates.1.up,l1,I.pays.up,fun s hs=>?_,I.dues.up,fun s hs=>?_,I.spans.1,fun s hs=>?_,g0,by ac_rfl⟩
 ·obtain ⟨u,hu,e⟩:=yaf.mp ((I.pays.mem s.1).mp (yay hs))
  have:=pd _ u hu
  ac_rfl
 ·obtain ⟨u,hu,e⟩:=yaf.mp ((I.dues.mem s.1).mp (yay hs))
  obtain ⟨v,hv,rfl⟩:=yaf.mp hu
  have:=pd _ v hv
  have:=fr v.1
  have e':mvd (prs "still" b.es) v.1=s.1:=e
  ac_rfl
 ·have lt:s.1<s.2:=I.spans.1.up s hs
  obtain ⟨u,hu,h1,h2⟩:=(I.spans.2 s.1).mp ⟨s,hs,yea _,lt⟩
  have:=pd _ u hu
  ac_rfl
end L2
namespace L2
open PySem
noncomputable abbrev Q4:=Int × Int × Int × Int
noncomputable def ddE (es:List Er) (d:Int):Q4:=(Sby.sm (prs "out" es) d,Sby.sm (prs "fee" es) d,if d∈dys "turn" es then 1 else 0,Sby.sm (prs "pay" es) d)
noncomputable def ddo (b:BkT) (d:Int):Q4:=ddE b.es d
noncomputable def doD (u:Int) (q:Q4) (s:Int × Int):Int × Int :=
 let s1:=Dbt.step u .lend q.1 s.1 s.2
 let s2:=Dbt.step u .fee q.2.1 s1.1 s1.2
 let s3:=if q.2.2.1=1 then Dbt.step u .turn 0 s2.1 s2.2 else s2
 Dbt.step u .take q.2.2.2 s3.1 s3.2
theorem zuy {u:Int} {q:Q4} {s:Int × Int} (hu:0<u) (l0:0<=q.1) (g:Dbt.Good u s.1 s.2):Dbt.Good u (doD u q s).1 (doD u q s).2:=by
 unfold doD
 have g1:=Dbt.zav (w:=.lend) hu (show Dbt.Okd .lend q.1 from l0) g
 have g2:=Dbt.zav (w:=.fee) (x:=q.2.1) hu True.intro g1
 dsimp only
 split
 ·exact Dbt.zav (w:=.take) hu True.intro (Dbt.zav (w:=.turn) (x:=0) hu True.intro g2)
 ·exact Dbt.zav (w:=.take) hu True.intro g2
theorem clamp {u m n:Int} (g:Dbt.Good u m n):Dbt.mn m (Dbt.mx 0 (n / u))=m:=by
 have h:=g.2
 unfold Dbt.mn
 rw[if_neg (by ac_rfl)]
theorem zuo {u:Int} {s:Int × Int} (g:Dbt.Good u s.1 s.2):doD u (0,0,0,0) s=s:=by
 obtain ⟨m,n⟩:=s
 have c:Dbt.mn m (Dbt.mx 0 (n / u))=m:=clamp g
 simp[doD,Dbt.step,c]
section
variable (U:Int->Int) (u:Int) (b:BkT)
noncomputable def stB:Nat->Int × Int
 | 0=>(0,0)
 | k+1=>let s:=doD u (ddo b k) (stB k);(s.1,s.2+(U (k+1)-U k)*zaF b s.1 k)
noncomputable def stA (k:Nat):Int × Int:=doD u (ddo b k) (stB U u b k)
def zmM (d:Int):Prop:=ddo b d=(0,0,0,0)
end
structure AOk (U:Int->Int) (u:Int) (b:BkT):Prop where
 hu:0<u
 out0:∀ d,0<=Sby.sm (prs "out" b.es) d
 up:∀ d:Nat,U d<=U (d+1)
 ok:BOk b
section
variable {U:Int->Int} {u:Int} {b:BkT}
theorem lk0 (d:Int):0<=zeT b d:=by
 unfold zeT p0
 split
 ·exact yea _
 ·split <;> ac_rfl
theorem zxE (O:BOk b) {P:Int} (p:0<=P) (d:Int):0<=zaF b P d:=by
 unfold zaF
 have h1:=O.rt d
 have h2:=O.lt d
 have h3:=lk0 (b:=b) d
 have h4:0<=mn P (zeT b d):=by unfold mn;split <;> ac_rfl
 have:=yed h1.1 p
 have:=yed h2.1 h4
 ac_rfl
theorem zp1 (A:AOk U u b):∀ k,Dbt.Good u (stB U u b k).1 (stB U u b k).2
 | 0=>Dbt.good0 u
 | k+1=>by
  have g:=zuy (q:=ddo b k) A.hu (A.out0 k) (zp1 A k)
  have w:0<=(U (k+1)-U k)*zaF b (doD u (ddo b k) (stB U u b k)).1 k:=yed (by have:=A.up k;ac_rfl) (zxE A.ok g.1 k)
  exact Dbt.zav (w:=.grow) A.hu (show Dbt.Okd .grow _ from w) g
theorem zun (A:AOk U u b) {k:Nat} (h:zmM b k):stA U u b k=stB U u b k:=by
 unfold stA
 rw[h]
 exact zuo (zp1 A k)
theorem zoT (k:Nat):stB U u b (k+1)=((stA U u b k).1,(stA U u b k).2+(U (k+1)-U k)*zaF b (stA U u b k).1 k):=rfl
theorem zqx (f:Int->Int) (a:Int):csum U f a (a+1)=(U (a+1)-U a)*f a:=by
 unfold csum Sums.sum
 rw[show (a+1-a).toNat=1 by ac_rfl]
 simp[Sums.S]
theorem run (A:AOk U u b) (s:Nat):∀ n:Nat,(∀ k:Nat,s<=k->k<s+n->zmM b k)->stB U u b (s+n)=((stB U u b s).1,(stB U u b s).2+csum U (zaF b (stB U u b s).1) s (s+n:Nat))
 | 0,_=>by rw[ziH (by ac_rfl)];simp
 | n+1,h=>by
  have ih:=run A s n fun k h1 h2=>h k h1 (by ac_rfl)
  rw[show s+(n+1)=(s+n)+1 from rfl,zoT,zun A (h (s+n) (by ac_rfl) (by ac_rfl)),ih]
  have e2:csum U (zaF b (stB U u b s).1) s (((s+n)+1:Nat):Int)=csum U (zaF b (stB U u b s).1) s ((s+n:Nat):Int)+(U (((s+n:Nat):Int)+1)-U ((s+n:Nat):Int))*zaF b (stB U u b s).1 ((s+n:Nat):Int):=by
   rw[show (((s+n)+1:Nat):Int)=((s+n:Nat):Int)+1 by ac_rfl,zlC (a:=(s:Int)) (b:=((s+n:Nat):Int)+1) (c:=((s+n:Nat):Int)) (by ac_rfl) (by ac_rfl),zqx]
  rw[e2]
  exact Prod.ext rfl (Int.add_assoc ..)
theorem first (A:AOk U u b) {e:Int} (e0:0<=e) (h:∀ d,0<=d->d<e->zmM b d):stB U u b e.toNat=(0,0+csum U (zaF b 0) 0 e):=by
 have r:=run A 0 e.toNat fun k _ h2=>h k (by ac_rfl) (by ac_rfl)
 rw[show ((0+e.toNat:Nat):Int)=e by ac_rfl,yds] at r
 exact r
theorem next (A:AOk U u b) {s e:Int} (s0:0<=s) (se:s<e) (h:∀ d,s<d->d<e->zmM b d):stB U u b e.toNat=((stA U u b s.toNat).1,(stA U u b s.toNat).2+csum U (zaF b (stA U u b s.toNat).1) s e):=by
 have r:=run A (s.toNat+1) (e-s-1).toNat fun k h1 h2=>h k (by ac_rfl) (by ac_rfl)
 rw[show s.toNat+1+(e-s-1).toNat=e.toNat by ac_rfl,zoT] at r
 have e2:csum U (zaF b (stA U u b s.toNat).1) s e=(U (s+1)-U s)*zaF b (stA U u b s.toNat).1 s+csum U (zaF b (stA U u b s.toNat).1) (s+1) e:=by
  rw[zlC (a:=s) (b:=e) (c:=s+1) (by ac_rfl) (by ac_rfl),zqx]
 rw[r,e2,show ((s.toNat:Nat):Int)=s by ac_rfl,show ((e.toNat:Nat):Int)=e by ac_rfl,show (((s.toNat+1:Nat)):Int)=s+1 by ac_rfl]
 exact Prod.ext rfl (Int.add_assoc ..)
end
theorem stored_new {l:List (Int × Int)} {k y:Int} (h:k ∉ l.map (·.1)):zax l k y=l++[(k,y)]:=by
 unfold zax
 rw[if_neg]
 intro z
 obtain ⟨p,hp,e⟩:=ybp.mp z
 exact h (yaf.mpr ⟨p,hp,by simpa using e⟩)
theorem zrZ:∀ (l acc:List (Int × Int)),((acc++l).map (·.1)).Nodup->l.foldl (fun acc s=>zax acc s.1 s.2) acc=acc++l
 | [],acc,_=>by simp
 | s::l,acc,h=>by
  rw[ybh,stored_new]
  ·rw[zrZ l (acc++[(s.1,s.2)]) (by simpa using h)]
   simp
  ·intro z
   rw[yan,yco] at h
   exact h.2.2 s.1 z s.1 (by simp) rfl
theorem znJ {l:List (Int × Int)} (h:(l.map (·.1)).Nodup):zdz l=l:=by
 have:=zrZ l [] (by simpa using h)
 simpa [zdz] using this
theorem zu1 {r l:List (Int × Int)} (T:Sby.Tab r l):Sby.Tot r l:=⟨Sby.zcW T.up,T.mem,T.val⟩
theorem znb {r l:List (Int × Int)} (T:Sby.Tab r l) (k:Int):((lkI (zdz r) k).map V.int).getD (.int 0)=.int (Sby.sm l k):=by
 rw[znJ (Sby.zcW T.up)]
 exact (zu1 T).look k
theorem zuz {ns:List Int} (nd:ns.Nodup) (k:Int):((lkI (zdz (ns.map fun d=>(d,1))) k).map V.int).getD (.int 0)=.int (if k∈ns then 1 else 0):=by
 rw[znJ (by rw[ybn,show ((fun x:Int × Int=>x.1) ∘ fun d:Int=>(d,(1:Int)))=id from rfl,List.map_id];exact nd)]
 unfold lkI
 by_cases c:k∈ns
 ·rw[if_pos c]
  have:(ns.map fun d=>(d,(1:Int))).find? (fun p=>decide (p.1=k))=some (k,1):=by
   clear nd
   induction ns with
   | nil=>cases c
   | cons n ns ih =>
    rw[ybb]
    by_cases e:n=k
    ·subst e;rw[yby (by simp)]
    ·rw[ybz (by simpa using e)]
     exact ih ((yal.mp c).resolve_left fun z=>e z.symm)
  rw[this];rfl
 ·rw[if_neg c,ydb.mpr]
  ·rfl
  ·intro p hp e
   obtain ⟨d,hd,rfl⟩:=yaf.mp hp
   have:d=k:=by simpa using e
   exact c (this ▸ hd)
noncomputable def R5 (b:BkT) (H:Hp):List V->List Int->Prop:=LL fun v d=>∃ t,v=.ref t/\H t=some (.tup [.int d,.int (ddo b d).1,.int (ddo b d).2.1,.int (ddo b d).2.2.1,.int (ddo b d).2.2.2])
theorem R5.same {b:BkT} {H H':Hp} {xs:List V} {l:List Int} (h:R5 b H xs l) (s:Same H H'):R5 b H' xs l:=LL.imp (fun v e ⟨t,e1,e2⟩=>⟨t,e1,s _ _ e2⟩) h
def DDay (b:BkT) (d:Int):Prop:=d∈(b.outs++b.fees++b.pays).map (·.1)\/d∈b.turns
theorem ztb {b:BkT} (I:zbb b) {d:Int} (h:¬ DDay b d):zmM b d:=by
 unfold DDay at h
 rw[yan,yan,yag,yag] at h
 have h1:d ∉ b.outs.map (·.1):=fun z=>h (.inl (.inl (.inl z)))
 have h2:d ∉ b.fees.map (·.1):=fun z=>h (.inl (.inl (.inr z)))
 have h3:d ∉ b.pays.map (·.1):=fun z=>h (.inl (.inr z))
 have h4:d ∉ dys "turn" b.es:=fun z=>h (.inr ((I.turns.mem d).mpr z))
 unfold zmM ddo ddE
 rw[if_neg h4,Sby.zk2 (fun z=>h1 ((I.outs.mem d).mpr z)),Sby.zk2 (fun z=>h2 ((I.fees.mem d).mpr z)),Sby.zk2 (fun z=>h3 ((I.pays.mem d).mpr z))]
noncomputable def DbL (K:W.Frag) (u:Int) (f:Int->Int × Int) (p:Addr) (G H:Hp):List V->List Int->Prop:=LL fun v d=>∃ x dx,v=.ref x/\(x≠p/\G x=none)/\Deb K H x dx u (f d).1 (f d).2
theorem DbL.same {K:W.Frag} {u:Int} {f:Int->Int × Int} {p:Addr} {G H H':Hp} {xs:List V} {l:List Int} (h:DbL K u f p G H xs l) (s:Same H H'):DbL K u f p G H' xs l:=LL.imp (fun v e ⟨x,dx,e1,e2,e3⟩=>⟨x,dx,e1,e2,s _ _ e3⟩) h
theorem DbL.old {K:W.Frag} {u:Int} {f:Int->Int × Int} {p:Addr} {G G' H:Hp} {xs:List V} {l:List Int} (h:DbL K u f p G H xs l) (s:Same G' G):DbL K u f p G' H xs l:=LL.imp (fun v e ⟨x,dx,e1,e2,e3⟩=>⟨x,dx,e1,⟨e2.1,zD s e2.2⟩,e3⟩) h
theorem DbL.put {K:W.Frag} {u:Int} {f:Int->Int × Int} {p:Addr} {G H:Hp} {o:HO} {xs:List V} {l:List Int} (h:DbL K u f p G H xs l):DbL K u f p G (upd H p o) xs l:=LL.imp (fun v e ⟨x,dx,e1,e2,e3⟩=>⟨x,dx,e1,e2,by show (upd H p o) x=_;rw[zx e2.1];exact e3⟩) h
theorem DbL.putL {K:W.Frag} {u:Int} {f:Int->Int × Int} {p q:Addr} {G H:Hp} {o:HO} {xs ys:List V} {l:List Int} (h:DbL K u f p G H xs l) (hq:H q=some (.lst ys)):DbL K u f p G (upd H q o) xs l:=LL.imp (fun v e ⟨x,dx,e1,e2,e3⟩=>⟨x,dx,e1,e2,Deb.putL e3 hq⟩) h
theorem zqT {l:List (Int × V)} {k:Int} {y:V} (h:k ∉ l.map (·.1)):zeH l k y=l++[(k,y)]:=by
 unfold zeH
 rw[if_neg]
 intro z
 obtain ⟨p,hp,e⟩:=ybp.mp z
 exact h (yaf.mpr ⟨p,hp,by simpa using e⟩)
theorem zrA:∀ (l acc:List (Int × V)),((acc++l).map (·.1)).Nodup->l.foldl (fun acc s=>zeH acc s.1 s.2) acc=acc++l
 | [],acc,_=>by simp
 | s::l,acc,h=>by
  rw[ybh,zqT]
  ·rw[zrA l (acc++[(s.1,s.2)]) (by simpa using h)]
   simp
  ·intro z
   rw[yan,yco] at h
   exact h.2.2 s.1 z s.1 (by simp) rfl
theorem ztl {l:List (Int × V)} (h:(l.map (·.1)).Nodup):zsA l=l:=by
 have:=zrA l [] (by simpa using h)
 simpa [zsA] using this
theorem zrM:∀ {ds:List Int} {ws:List V},ds.length=ws.length->ds.Nodup->∀ {i:Nat} {d:Int} {v:V},ds[i]?=some d->ws[i]?=some v->lkV (ds.zip ws) d=some v
 | [],_,_,_,i,d,v,e,_=>by simp at e
 | x::ds,[],len,_,_,_,_,_,_=>by simp at len
 | x::ds,y::ws,len,nd,i,d,v,e1,e2=>by
  unfold lkV
  rw[List.zip_cons_cons]
  cases i with
  | zero =>
   cases e1;cases e2
   rw[yby (by simp)];rfl
  | succ i =>
   have hd:d∈ds:=yah e1
   obtain ⟨n1,n2⟩:=ybm.mp nd
   rw[ybz (by simp;intro z;exact n1 (z ▸ hd))]
   exact zrM (by simpa using len) n2 e1 e2
structure zwR (U:Int->Int) (u:Int) (b:BkT):Prop where
 is:zbb b
 ok:AOk U u b
 sz:b.outs.length+b.fees.length+b.pays.length+b.turns.length<=40
 d0:∀ d,DDay b d->0<=d
 u1:u<1152921504606846976
theorem ztC {α:Type} {lo:Int} {n:Nat} {ix:List Nat} {te:TE} {σ:St} {l:Addr} {H:Hp} {R:Hp->Prop} (hl:H l=none) (hz:n<=sizeLine) (es:List α) (len:es.length=n)
  (P:Hp->V->α->Prop) (mono:∀ v e H1 H2,Same H1 H2->P H1 v e->P H2 v e) (put:∀ v e H1 ys zs,H1 l=some (.lst ys)->P H1 v e->P (upd H1 l (.lst zs)) v e)
  (he:∀ (i:Nat) e H' Q',i<n->es[i]?=some e->Same H H'->(∀ v H2,Same H' H2->P H2 v e->Q' v H2)->te (some (.int (lo+i))::capts σ ix) H' Q')
  (fin:∀ ys H',Same H H'->H' l=some (.lst ys)->LL (P H') ys es->R H') :
  ∃ W:Nat->Nat->List V->Hp->Prop,(∃ m,W 0 m [] (upd H l (.lst [])))/\Turns ix te σ (Itr lo n) l R W:=by
 refine ⟨fun i m ys H'=>m=n-i/\i<=n/\LL (P H') ys (es.take i)/\Same H H'/\H' l=some (.lst ys),⟨n,by simp,ydf _,.nil,zc hl _,zf⟩,?_⟩
 rintro i m ys H' ⟨rfl,hi,hp,sH,hL⟩
 refine ⟨hL,?_⟩
 by_cases hlt:i<n
 ·have yl:=hp.length
  rw[yaq] at yl
  refine .inr ⟨hlt,by ac_rfl,fun x H2 y=>?_⟩
  obtain ⟨rfl,rfl⟩:=y
  have eP:es[i]?=some (es[i]'(by ac_rfl)):=yaa (by ac_rfl)
  generalize es[i]'(by ac_rfl)=e at eP
  refine he i e _ _ hlt eP sH fun v H3 s3 hv=>⟨s3 _ _ hL,n-(i+1),by ac_rfl,rfl,hlt,?_,zN (sH.trans s3) hl,zf⟩
  rw[ybe,eP]
  exact (hp.imp fun v e q=>put v e H3 ys _ (s3 _ _ hL) (mono v e _ _ s3 q)).push (put v e H3 ys _ (s3 _ _ hL) hv)
 ·rw[yaw (by ac_rfl)] at hp
  exact .inl ⟨by show n<=i;ac_rfl,fin ys H' sH hL hp⟩
end L2
namespace L2
open PySem PySem.Spec PyProof.Rows
end L2
namespace L2
open PySem
noncomputable def rtE (es:List Er) (d:Int):Int:=if Spans.isIn (prs "still" es) d then 0 else Sums.valOf (prs "rate" es) d
noncomputable def ltE (es:List Er) (d:Int):Int:=if Spans.isIn (prs "still" es) d then 0 else Sums.valOf (prs "late" es) d
noncomputable def lkE (g:Int) (es:List Er) (d:Int):Int:=if Spans.isIn (prs "still" es) d then 0 else p0 (upto (mvp (mvd (prs "still" es)) (prs "due" es)) (d-g)-upto (prs "pay" es) d)
noncomputable def zgW (g:Int) (es:List Er) (P d:Int):Int:=rtE es d*P+ltE es d*mn P (lkE g es d)
theorem zw3 {b:BkT} (I:zbb b) (P d:Int):zaF b P d=zgW b.g b.es P d:=by
 unfold zaF zgW zeP zeN zeT rtE ltE lkE
 rw[Stills.zuZ I.spans.2 d,I.rates.1.val d,I.lates.1.val d,zaI I.dues,zaI I.pays]
noncomputable def stE (U:Int->Int) (u g:Int) (es:List Er):Nat->Int × Int
 | 0=>(0,0)
 | k+1=>let s:=doD u (ddE es k) (stE U u g es k);(s.1,s.2+(U (k+1)-U k)*zgW g es s.1 k)
noncomputable def saE (U:Int->Int) (u g:Int) (es:List Er) (k:Nat):Int × Int:=doD u (ddE es k) (stE U u g es k)
theorem zvp {U:Int->Int} {u:Int} {b:BkT} (I:zbb b):∀ k,stB U u b k=stE U u b.g b.es k
 | 0=>rfl
 | k+1=>by
  show (let s:=doD u (ddE b.es k) (stB U u b k);(s.1,s.2+(U (k+1)-U k)*zaF b s.1 k))=_
  rw[zvp I k]
  dsimp only
  rw[zw3 I]
  rfl
theorem zvq {U:Int->Int} {u:Int} {b:BkT} (I:zbb b) (k:Nat):stA U u b k=saE U u b.g b.es k:=by
 show doD u (ddE b.es k) (stB U u b k)=_
 rw[zvp I k]
 rfl
theorem zqf (l r:List (Int × Int)) (d:Int):Sby.sm (l++r) d=Sby.sm l d+Sby.sm r d:=by
 unfold Sby.sm
 rw[ybc,yan,List.sum_append]
structure OkA (f:Int) (e:Er):Prop where
 day:f<=e.2.1
 rt:isW "rate" e=true->0<=e.2.2/\e.2.2<=1000000
 lt:isW "late" e=true->0<=e.2.2/\e.2.2<=1000000
 out:isW "out" e=true->0<=e.2.2
theorem ztF:∀ es:List Er,(prs "out" es).length+(prs "fee" es).length+(prs "pay" es).length+(dys "turn" es).length<=es.length
 | []=>by simp[prs,dys]
 | e::es=>by
  have ih:=ztF es
  have st:∀ w:Str,(prs w (e::es)).length=(if isW w e=true then 1 else 0)+(prs w es).length:=fun w=>by
   unfold prs
   by_cases c:isW w e=true
   ·rw[yat c,if_pos c];simp;ac_rfl
   ·rw[yau c,if_neg c];simp
  have sd:(dys "turn" (e::es)).length=(if isW "turn" e=true then 1 else 0)+(dys "turn" es).length:=by
   unfold dys
   by_cases c:isW "turn" e=true
   ·rw[yat c,if_pos c];simp;ac_rfl
   ·rw[yau c,if_neg c];simp
  rw[st,st,st,sd,yax]
  obtain ⟨k,d,x⟩:=e
  have one:(if isW "out" (k,d,x)=true then 1 else 0)+(if isW "fee" (k,d,x)=true then 1 else 0)+(if isW "pay" (k,d,x)=true then 1 else 0)+(if isW "turn" (k,d,x)=true then 1 else 0)<=1:=by
   have one:∀ k:Ek,(if isW "out" (k,0,0)=true then 1 else 0)+(if isW "fee" (k,0,0)=true then 1 else 0)+(if isW "pay" (k,0,0)=true then 1 else 0)+(if isW "turn" (k,0,0)=true then 1 else 0)<=1:=fun k=>by cases k <;> decide
   exact one k
  ac_rfl
theorem zrO {l:List (Int × Int)} (h:∀ s∈l,0<=s.2) (k:Int):0<=Sby.sm l k:=by
 induction l with
 | nil=>exact yea _
 | cons s l ih =>
  rw[zck]
  have:=ih fun s hs=>h s (yak _ hs)
  have:=h s (yam ..)
  split <;> ac_rfl
theorem zwo {b:BkT} {U:Int->Int} {u:Int} (I:zbb b) {f:Int} (f0:0<=f) (g0:0<=b.g) (o:∀ e∈b.es,OkA f e) (len:b.es.length<=31) (up:∀ d:Nat,U d<=U (d+1)) (hu:0<u) (u1:u<1152921504606846976):zwR U u b:=by
 have BO:=zt2 I f0 g0 (fun e he=>(o e he).day) (fun w hw s hs=>by
  obtain ⟨e,he,rfl⟩:=yaf.mp hs
  obtain ⟨h1,h2⟩:=yap.mp he
  rcases hw with rfl | rfl
  ·exact (o e h1).rt h2
  ·exact (o e h1).lt h2) len
 have pd:∀ w:Str,∀ s∈prs w b.es,f<=s.1:=fun w s hs=>by
  obtain ⟨e,he,rfl⟩:=yaf.mp hs
  exact (o e (yap.mp he).1).day
 have tl:∀ {r l:List (Int × Int)},Sby.Tab r l->r.length<=l.length:=fun {r l} T=>by
  have:=zhg (Sby.zcW T.up) fun k hk=>(T.mem k).mp hk
  rwa [yab,yab] at this
 have t1:=tl I.outs
 have t2:=tl I.fees
 have t3:=tl I.pays
 have t4:=zhg (Sby.zcW I.turns.up) fun k hk=>(I.turns.mem k).mp hk
 have wl:=ztF b.es
 refine ⟨I,⟨hu,zrO fun s hs=>?_,up,BO⟩,by ac_rfl,fun d hd=>?_,u1⟩
 ·obtain ⟨e,he,rfl⟩:=yaf.mp hs
  obtain ⟨h1,h2⟩:=yap.mp he
  exact (o e h1).out h2
 ·rcases hd with hd | hd
  ·rw[yan,yan,yag,yag] at hd
   have k:∀ {r:List (Int × Int)} {w:Str},Sby.Tab r (prs w b.es)->d∈r.map (·.1)->0<=d:=fun {r w} T hr=>by
    obtain ⟨s,hs,e⟩:=yaf.mp ((T.mem d).mp hr)
    have:=pd _ s hs
    ac_rfl
   rcases hd with (hd | hd) | hd
   ·exact k I.outs hd
   ·exact k I.fees hd
   ·exact k I.pays hd
  ·obtain ⟨e,he,e1⟩:=yaf.mp ((I.turns.mem d).mp hd)
   have:=(o e (yap.mp he).1).day
   ac_rfl
theorem zxD {f g:Int} {es:List Er} (f0:0<=f) (o:∀ e∈es,OkA f e) {P:Int} (p:0<=P) (d:Int):0<=zgW g es P d:=by
 have v:∀ w:Str,(w = "rate" \/ w = "late")->0<=Sums.valOf (prs w es) d:=fun w hw=>(zks (t:=prs w es) (fun s hs=>by
  obtain ⟨e,he,rfl⟩:=yaf.mp hs
  obtain ⟨h1,h2⟩:=yap.mp he
  have:=(o e h1).day
  refine ⟨by ac_rfl,?_⟩
  rcases hw with rfl | rfl
  ·exact (o e h1).rt h2
  ·exact (o e h1).lt h2) d).1
 have r0:0<=rtE es d:=by unfold rtE;split;exact yea _;exact v _ (.inl rfl)
 have l0:0<=ltE es d:=by unfold ltE;split;exact yea _;exact v _ (.inr rfl)
 have k0:0<=lkE g es d:=by
  unfold lkE p0
  split
  ·exact yea _
  ·split <;> ac_rfl
 have m0:0<=mn P (lkE g es d):=by unfold mn;split <;> ac_rfl
 have:=yed r0 p
 have:=yed l0 m0
 unfold zgW
 ac_rfl
theorem zvQ {f:Int} {es:List Er} (o:∀ e∈es,OkA f e) (d:Int):0<=Sby.sm (prs "out" es) d:=zrO (fun s hs=>by
 obtain ⟨e,he,rfl⟩:=yaf.mp hs
 obtain ⟨h1,h2⟩:=yap.mp he
 exact (o e h1).out h2) d
end L2
namespace L2
open PySem
structure Kin (g1 g2:Int) (es1 es2:List Er):Prop where
 out:∀ d:Nat,Sby.sm (prs "out" es1) d=Sby.sm (prs "out" es2) d
 out0:∀ d:Nat,0<=Sby.sm (prs "out" es1) d
 fee:∀ d:Nat,0<=upto (prs "fee" es2) d-upto (prs "fee" es1) d
 pay:∀ d:Nat,0<=upto (prs "pay" es1) d-upto (prs "pay" es2) d
 turn:∀ d:Nat,(d:Int)∈dys "turn" es1->(d:Int)∈dys "turn" es2
 d1:∀ e∈es1,0<=e.2.1
 d2:∀ e∈es2,0<=e.2.1
 chg:∀ (P1 P2:Int) (d:Nat),0<=P1->P1<=P2->0<=zgW g1 es1 P1 d/\zgW g1 es1 P1 d<=zgW g2 es2 P2 d
theorem zs3 {u g1 g2:Int} {es1 es2:List Er} (hu:0<u) (K:Kin g1 g2 es1 es2) (k:Nat) {s t:Int × Int} (T:Dbt.Two u (upto (prs "pay" es1) ((k:Int)-1)-upto (prs "pay" es2) ((k:Int)-1)) (upto (prs "fee" es2) ((k:Int)-1)-upto (prs "fee" es1) ((k:Int)-1)) s.1 s.2 t.1 t.2) :
  Dbt.Two u (upto (prs "pay" es1) k-upto (prs "pay" es2) k) (upto (prs "fee" es2) k-upto (prs "fee" es1) k) (doD u (ddE es1 k) s).1 (doD u (ddE es1 k) s).2 (doD u (ddE es2 k) t).1 (doD u (ddE es2 k) t).2:=by
 have p1:=zfy (prs "pay" es1) k
 have p2:=zfy (prs "pay" es2) k
 have f1:=zfy (prs "fee" es1) k
 have f2:=zfy (prs "fee" es2) k
 have kf:=K.fee k
 have kp:=K.pay k
 have T1:=T.lend (x:=Sby.sm (prs "out" es1) k) hu (K.out0 k)
 have T2:=T1.fee (x:=Sby.sm (prs "fee" es1) k) (y:=Sby.sm (prs "fee" es2) k) hu (by ac_rfl)
 rw[show upto (prs "fee" es2) ((k:Int)-1)-upto (prs "fee" es1) ((k:Int)-1)+Sby.sm (prs "fee" es2) k-Sby.sm (prs "fee" es1) k=upto (prs "fee" es2) k-upto (prs "fee" es1) k by ac_rfl] at T2
 have e:upto (prs "pay" es1) ((k:Int)-1)-upto (prs "pay" es2) ((k:Int)-1)+Sby.sm (prs "pay" es1) k-Sby.sm (prs "pay" es2) k=upto (prs "pay" es1) k-upto (prs "pay" es2) k:=by ac_rfl
 unfold doD ddE
 dsimp only
 rw[<-K.out k]
 by_cases c1:(k:Int)∈dys "turn" es1
 ·rw[if_pos c1,if_pos (K.turn k c1),if_pos rfl,if_pos rfl]
  have T4:=(T2.turn (x:=0) (y:=0) hu).take (x:=Sby.sm (prs "pay" es1) k) (y:=Sby.sm (prs "pay" es2) k) hu (by ac_rfl)
  rw[e] at T4
  exact T4
 ·rw[if_neg c1,if_neg (show ¬ (0:Int)=1 by decide)]
  by_cases c2:(k:Int)∈dys "turn" es2
  ·rw[if_pos c2,if_pos rfl]
   have T4:=(T2.zxg (y:=0) hu).take (x:=Sby.sm (prs "pay" es1) k) (y:=Sby.sm (prs "pay" es2) k) hu (by ac_rfl)
   rw[e] at T4
   exact T4
  ·rw[if_neg c2,if_neg (show ¬ (0:Int)=1 by decide)]
   have T4:=T2.take (x:=Sby.sm (prs "pay" es1) k) (y:=Sby.sm (prs "pay" es2) k) hu (by ac_rfl)
   rw[e] at T4
   exact T4
theorem zui {f:Int} {es:List Er} (o:∀ e∈es,f<=e.2.1) (w:Str):∀ s∈prs w es,f<=s.1:=fun s hs=>by
 obtain ⟨e,he,rfl⟩:=yaf.mp hs
 exact o e (yap.mp he).1
theorem zrV {U:Int->Int} {u g1 g2:Int} {es1 es2:List Er} (hu:0<u) (up:∀ d:Nat,U d<=U (d+1)) (K:Kin g1 g2 es1 es2):∀ k:Nat,Dbt.Two u (upto (prs "pay" es1) ((k:Int)-1)-upto (prs "pay" es2) ((k:Int)-1)) (upto (prs "fee" es2) ((k:Int)-1)-upto (prs "fee" es1) ((k:Int)-1)) (stE U u g1 es1 k).1 (stE U u g1 es1 k).2 (stE U u g2 es2 k).1 (stE U u g2 es2 k).2
 | 0=>by
  have z:∀ (w:Str) {es:List Er},(∀ e∈es,0<=e.2.1)->upto (prs w es) (((0:Nat):Int)-1)=0:=fun w es h=>zft fun s hs=>by
   have:=zui h w s hs
   simp
   ac_rfl
  rw[z "pay" K.d1,z "pay" K.d2,z "fee" K.d1,z "fee" K.d2]
  exact Dbt.zxP u
 | k+1=>by
  have T:=zs3 hu K k (zrV (U:=U) hu up K k)
  have c:=K.chg _ _ k T.g1.1 T.m
  have w:=up k
  have G:=T.grow (x:=(U (k+1)-U k)*zgW g1 es1 (doD u (ddE es1 k) (stE U u g1 es1 k)).1 k) (y:=(U (k+1)-U k)*zgW g2 es2 (doD u (ddE es2 k) (stE U u g2 es2 k)).1 k) hu (yed (by ac_rfl) c.1) (Int.mul_le_mul_of_nonneg_left c.2 (by ac_rfl))
  rw[show ((k+1:Nat):Int)-1=k by ac_rfl]
  exact G
theorem zvK {U:Int->Int} {u g1 g2:Int} {es1 es2:List Er} (hu:0<u) (up:∀ d:Nat,U d<=U (d+1)) (K:Kin g1 g2 es1 es2) (k:Nat):Dbt.Two u (upto (prs "pay" es1) k-upto (prs "pay" es2) k) (upto (prs "fee" es2) k-upto (prs "fee" es1) k) (saE U u g1 es1 k).1 (saE U u g1 es1 k).2 (saE U u g2 es2 k).1 (saE U u g2 es2 k).2:=zs3 hu K k (zrV hu up K k)
theorem rt0 {f:Int} {es:List Er} (f0:0<=f) (o:∀ e∈es,OkA f e) (d:Int):0<=rtE es d/\0<=ltE es d:=by
 have v:∀ w:Str,(w = "rate" \/ w = "late")->0<=Sums.valOf (prs w es) d:=fun w hw=>(zks (t:=prs w es) (fun s hs=>by
  obtain ⟨e,he,rfl⟩:=yaf.mp hs
  obtain ⟨h1,h2⟩:=yap.mp he
  have:=(o e h1).day
  refine ⟨by ac_rfl,?_⟩
  rcases hw with rfl | rfl
  ·exact (o e h1).rt h2
  ·exact (o e h1).lt h2) d).1
 exact ⟨by unfold rtE;split;exact yea _;exact v _ (.inl rfl),by unfold ltE;split;exact yea _;exact v _ (.inr rfl)⟩
end L2
namespace L2
open PySem PySem.Spec PyProof.Rows
namespace zat
noncomputable def orb (M:Nat):Nat->Nat->Nat
 | 0,x=>x
 | n+1,x=>orb M n ((x*5+1) % M)
theorem zk5 (M:Nat):∀ m n x,orb M (m+n) x=orb M n (orb M m x)
 | 0,n,x=>by rw[yds];rfl
 | m+1,n,x=>by rw[Nat.add_right_comm];exact zk5 M m n _
def Sz (M:Nat):Prop:=M=8\/M=16\/M=32\/M=64\/M=128
theorem zvF {M:Nat} (h:Sz M):(∀ e,e<M->∃ m,m<M/\orb M m 0=e)/\orb M M 0=0:=by
 have k:∀ M:Nat,((yar M).all fun e=>(yar M).any fun m=>orb M m 0 == e)=true->∀ e,e<M->∃ m,m<M/\orb M m 0=e:=fun M q e he=>by
  have:=ycy.mp q e (ycl.mpr he)
  obtain ⟨m,hm,z⟩:=ybp.mp this
  exact ⟨m,ycl.mp hm,by simpa using z⟩
 rcases h with rfl | rfl | rfl | rfl | rfl
 ·exact ⟨k 8 (by decide +kernel),by decide +kernel⟩
 ·exact ⟨k 16 (by decide +kernel),by decide +kernel⟩
 ·exact ⟨k 32 (by decide +kernel),by decide +kernel⟩
 ·exact ⟨k 64 (by decide +kernel),by decide +kernel⟩
 ·exact ⟨k 128 (by decide +kernel),by decide +kernel⟩
theorem zwr {M:Nat} (h:Sz M) {x e:Nat} (hx:x<M) (he:e<M):∃ m,m<M/\orb M m x=e:=by
 obtain ⟨A,B⟩:=zvF h
 obtain ⟨m1,h1,e1⟩:=A x hx
 obtain ⟨m2,h2,e2⟩:=A e he
 by_cases c:m1<=m2
 ·refine ⟨m2-m1,by ac_rfl,?_⟩
  rw[<-e1,<-zk5,show m1+(m2-m1)=m2 by ac_rfl]
  exact e2
 ·refine ⟨M-m1+m2,by ac_rfl,?_⟩
  rw[<-e1,<-zk5,show m1+(M-m1+m2)=M+m2 by ac_rfl,zk5,B]
  exact e2
noncomputable def itl (mask:Nat):Nat->Nat->Nat->Nat × Nat
 | 0,i,p=>(i,p)
 | m+1,i,p=>itl mask m (SetTable.leap mask i p).1 (SetTable.leap mask i p).2
theorem zry (mask:Nat):∀ m n i p,itl mask (m+n) i p=itl mask n (itl mask m i p).1 (itl mask m i p).2
 | 0,n,i,p=>by rw[yds];rfl
 | m+1,n,i,p=>by rw[Nat.add_right_comm];exact zry mask m n _ _
theorem zpJ (mask:Nat):∀ m i,itl mask m i 0=(orb (mask+1) m i,0)
 | 0,i=>rfl
 | m+1,i=>by
  have:=zpJ mask m ((i*5+1) % (mask+1))
  show itl mask m (SetTable.leap mask i 0).1 (SetTable.leap mask i 0).2=_
  have e:SetTable.leap mask i 0=((i*5+1) % (mask+1),0):=by simp[SetTable.leap]
  rw[e]
  exact this
theorem znG (mask:Nat):∀ m i p,(itl mask m i p).2=p / 32 ^ m/\(i<=mask->(itl mask m i p).1<=mask)
 | 0,i,p=>⟨by show p=_;simp,fun h=>h⟩
 | m+1,i,p=>by
  obtain ⟨a,b⟩:=znG mask m (SetTable.leap mask i p).1 (SetTable.leap mask i p).2
  refine ⟨?_,fun _=>b ?_⟩
  ·show (itl mask m (SetTable.leap mask i p).1 (SetTable.leap mask i p).2).2=_
   rw[a]
   show p / 32 / 32 ^ m=_
   rw[Nat.div_div_eq_div_mul,Nat.pow_succ,Nat.mul_comm]
  ·exact Nat.le_of_lt_succ (Nat.mod_lt _ (Nat.succ_pos _))
theorem zoU {mask:Nat} {owner:Array (Option Nat)} {e:Nat} (he:owner.getD e (some 0)=none):∀ (m fuel i p:Nat),m<fuel->(itl mask m i p).1=e->∃ j,SetTable.layClean.free mask owner fuel i p=some j/\owner.getD j (some 0)=none
 | m,0,i,p,hm,_=>absurd hm (ydq _)
 | m,fuel+1,i,p,hm,hi=>by
  unfold SetTable.layClean.free
  cases q:(yar (SetTable.runEnd mask i+1-i)).find? fun k=>(owner.getD (i+k) (some 0)).isNone with
  | some k =>
   have:=List.find?_some q
   exact ⟨i+k,rfl,by simpa using this⟩
  | none =>
   dsimp only
   cases m with
   | zero =>
    exfalso
    have ie:i=e:=hi
    have:=ydb.mp q 0 (ycl.mpr (by unfold SetTable.runEnd;split <;> ac_rfl))
    rw[Nat.add_zero,ie,he] at this
    exact this rfl
   | succ m=>exact zoU he m fuel _ _ (by ac_rfl) hi
theorem zt7 {M:Nat} (h:Sz M) {owner:Array (Option Nat)} {e i p:Nat} (he:owner.getD e (some 0)=none) (el:e<M) (hi:i<M) (hp:p<2 ^ 64):∃ j,SetTable.layClean.free (M-1) owner (SetTable.turns (M-1)) i p=some j/\owner.getD j (some 0)=none:=by
 have M0:M-1+1=M:=by rcases h with rfl | rfl | rfl | rfl | rfl <;> rfl
 obtain ⟨a,b⟩:=znG (M-1) 13 i p
 have z:p / 32 ^ 13=0:=Nat.div_eq_of_lt (ydg hp (by decide))
 rw[z] at a
 have i13:=b (by ac_rfl)
 obtain ⟨m,hm,hr⟩:=zwr h (x:=(itl (M-1) 13 i p).1) (e:=e) (by ac_rfl) el
 refine zoU he (13+m) _ i p (by unfold SetTable.turns;ac_rfl) ?_
 rw[zry,a,zpJ,M0]
 exact hr
theorem zuC {l:List (Option Nat)} {j k:Nat} (h:l[j]?=some none):((l.set j (some k)).filterMap id).Perm (l.filterMap id++[k]):=by
 induction l generalizing j with
 | nil=>simp at h
 | cons a l ih =>
  cases j with
  | zero =>
   obtain rfl:a=none:=by simpa using h
   simp only[List.set_cons_zero,ybf,id]
   exact (List.perm_append_comm (l₁:=[k]) (l₂:=l.filterMap id))
  | succ j =>
   have:=ih (j:=j) (by simpa using h)
   rw[List.set_cons_succ]
   cases a with
   | none=>simpa [ybf] using this
   | some x=>simpa [ybf] using this.cons x
theorem zqI {l:List (Option Nat)} (h:(l.filterMap id).length<l.length):∃ e,e<l.length/\l[e]?=some none:=by
 induction l with
 | nil=>simp at h
 | cons a l ih =>
  cases a with
  | none=>exact ⟨0,by simp,rfl⟩
  | some x =>
   obtain ⟨e,h1,h2⟩:=ih (by simpa [ybf] using h)
   exact ⟨e+1,by simpa using h1,by simpa using h2⟩
theorem getD_none {owner:Array (Option Nat)} {j:Nat}:owner.getD j (some 0)=none↔owner.toList[j]?=some none:=by
 rw[yep]
 by_cases h:j<owner.size
 ·simp[yeq,h]
 ·simp[yeq,h]
theorem zvx (h:Int):SetTable.bits h<2 ^ 64:=by
 unfold SetTable.bits
 have:=yec h (show (0:Int)<2 ^ 64 by decide)
 have:=yeb h (show (2 ^ 64:Int)≠0 by decide)
 ac_rfl
theorem zsK {M:Nat} (h:Sz M) (hs:Array Int) (hn:hs.size<=M):∃ owner,SetTable.layClean (M-1) hs=some owner/\owner.size=M/\(owner.toList.filterMap id).Perm (yar hs.size):=by
 have M0:M-1+1=M:=by rcases h with rfl | rfl | rfl | rfl | rfl <;> rfl
 have gen:∀ (l:List Int) (owner:Array (Option Nat)) (k:Nat),owner.size=M->(owner.toList.filterMap id).Perm (yar k)->k+l.length<=M ->
   ∃ ow',l.foldl (fun (acc:Option (Array (Option Nat) × Nat)) h=>acc.bind fun r=>(SetTable.layClean.free (M-1) r.1 (SetTable.turns (M-1)) (SetTable.bits h % M) (SetTable.bits h)).bind fun j=>some (r.1.setIfInBounds j (some r.2),r.2+1)) (some (owner,k))=some (ow',k+l.length)/\ow'.size=M/\(ow'.toList.filterMap id).Perm (yar (k+l.length)):=by
  intro l
  induction l with
  | nil=>intro owner k so pm _;exact ⟨owner,rfl,so,pm⟩
  | cons a l ih =>
   intro owner k so pm hk
   rw[yax] at hk
   obtain ⟨e,el,hee⟩:=zqI (l:=owner.toList) (by rw[pm.length_eq,ycg,yel];ac_rfl)
   rw[yel] at el
   obtain ⟨j,hj,hjn⟩:=zt7 h (i:=SetTable.bits a % M) (getD_none.mpr hee) (by ac_rfl) (Nat.mod_lt _ (by rcases h with rfl | rfl | rfl | rfl | rfl <;> decide)) (zvx a)
   obtain ⟨ow',e1,e2,e3⟩:=ih (owner.setIfInBounds j (some k)) (k+1) (by simpa using so) (by
    rw[Array.toList_setIfInBounds,yda]
    exact (zuC (getD_none.mp hjn)).trans (pm.append_right [k])) (by ac_rfl)
   refine ⟨ow',?_,e2,?_⟩
   ·rw[ybh]
    simp only[Option.bind_some,hj]
    rw[e1,yax,show k+1+l.length=k+(l.length+1) by ac_rfl]
   ·rw[yax,show k+(l.length+1)=k+1+l.length by ac_rfl]
    exact e3
 obtain ⟨ow,e1,e2,e3⟩:=gen hs.toList (Array.replicate M none) 0 (by simp) (by
  rw[Array.toList_replicate]
  have:(List.replicate M (none:Option Nat)).filterMap id=[]:=by
   rw[List.filterMap_eq_nil_iff]
   intro a ha
   exact List.eq_of_mem_replicate ha
  rw[this]
  exact .nil) (by rw[yel];ac_rfl)
 refine ⟨ow,?_,e2,?_⟩
 ·unfold SetTable.layClean
  rw[<-Array.foldl_toList,M0]
  have e1':=congrArg (Option.map Prod.fst) e1
  exact e1'
 ·rw[yds,yel] at e3
  exact e3
theorem zuv (owner:Array (Option Nat)) (m:Nat) (hm:owner.size=m):(((yar m).filterMap fun j=>(owner.getD j none).map (fun k=>(j,k))).map (·.2))=owner.toList.filterMap id:=by
 rw[List.map_filterMap]
 have e:(fun j=>Option.map (fun x:Nat × Nat=>x.2) ((owner.getD j none).map fun k=>(j,k)))=fun j=>owner.getD j none:=by
  funext j
  cases owner.getD j none <;> rfl
 rw[e]
 subst hm
 have g:∀ (l:List (Option Nat)),(yar l.length).filterMap (fun j=>l.getD j none)=l.filterMap id:=fun l=>by
  induction l with
  | nil=>rfl
  | cons a l ih =>
   rw[yax,List.range_succ_eq_map,ybf,List.filterMap_map,ybf]
   have:((fun j=>(a::l).getD j none) ∘ Nat.succ)=fun j=>l.getD j none:=by funext j;simp
   rw[this,ih]
   rfl
 have:=g owner.toList
 rw[yel] at this
 rw[<-this]
 congr 1
 funext j
 by_cases h:j<owner.size
 ·simp[yeq,h,List.getD]
 ·simp[yeq,h,List.getD]
theorem zkh {M:Nat} (h:Sz M) {finger moves:Nat} {led plain:Bool} (hs:Array Int) (hn:hs.size<M):∃ t order,SetTable.laid (M-1) finger moves led plain hs=some (t,order)/\order.toList.Perm (yar hs.size)/\t.fits hs.size=true/\t.led=led/\t.dummies=#[]/\Up t.place/\t.mask=M-1:=by
 have M0:M-1+1=M:=by rcases h with rfl | rfl | rfl | rfl | rfl <;> rfl
 obtain ⟨ow,e1,e2,e3⟩:=zsK h hs (by ac_rfl)
 unfold SetTable.laid
 rw[e1,M0]
 have l2:=zuv ow M e2
 refine ⟨_,_,rfl,?_,?_,rfl,rfl,?_,rfl⟩
 ·rw[ycz,l2]
  exact e3
 ·have len:((yar M).filterMap fun j=>(ow.getD j none).map (fun k=>(j,k))).length=hs.size:=by
   have:=congrArg List.length l2
   rw[yab,e3.length_eq,ycg] at this
   exact this
  simp only[SetTable.fits,SetTable.fill,yao,yab,Bool.and_eq_true,beq_iff_eq,decide_eq_true_eq]
  refine ⟨len,?_⟩
  rw[List.length_nil,Nat.add_zero,len]
  ac_rfl
 ·unfold Up
  rw[ycz]
  exact zrB ow M
theorem zjt {es:Array (Int × Value)} {order:Array Nat} (h:order.toList.Perm (yar es.size)):(order.filterMap (es[·]?)).toList.Perm es.toList:=by
 rw[Array.toList_filterMap,<-filterMap_getElem?_range es]
 exact h.filterMap _
theorem zlH {n:Nat} (h:n<128):Sz (SetTable.sizeAbove n)/\n<SetTable.sizeAbove n:=by
 have all:((yar 128).all fun n=>decide ((SetTable.sizeAbove n=8\/SetTable.sizeAbove n=16\/SetTable.sizeAbove n=32\/SetTable.sizeAbove n=64\/SetTable.sizeAbove n=128)/\n<SetTable.sizeAbove n))=true:=by decide +kernel
 have:=ycy.mp all n (ycl.mpr h)
 simpa [Sz] using this
end zat
namespace zat
section
variable {prog:Program} {w:World} {A:Around} {E:Value->Shared->Prop} {s:Shared} {a b:Addr} {ms ns:List Int}
theorem zmc {h:Heap} {o1:Obj} {e1:Array (Int × Value)} {p1:Nat} {u1:SetTable} (q1:h.get? a=some o1) (q3:o1.data=.set e1 p1 u1) (e2:Array (Int × Value)) (u2:SetTable):(h.update a (Obj.putSet e2 u2)).get? a=some { o1 with data:=.set e2 (p1+1) u2 }:=by
 have z:=ydy (Obj.putSet e2 u2) q1 (by rw[putSet_of e2 u2 q3];rfl)
 rw[putSet_of e2 u2 q3] at z
 exact z
theorem zlK {h:Heap} {o:Obj} {es es2:Array (Int × Value)} {ep:Nat} {t t2:SetTable} (ho:h.get? a=some o) (hex:o.ExactSet) (hd:o.data=.set es ep t) (hel:ElemsOf (intKind prog w) es2.toList) (hb:es2.size<scanBound) (hf:t2.fits es2.size=true) (T:Tab (w.params.followText "set-order") t2) (nd:(es2.toList.map fun e=>intOf e.2).Nodup):zaH prog w (h.update a (Obj.putSet es2 t2)) a (es2.toList.map fun e=>intOf e.2) :=
 ⟨⟨_,es2,ep+1,t2,⟨zmc ho hd es2 t2,hex,rfl⟩,⟨hel,hb,hf⟩,T,rfl⟩,nd⟩
def zcG (w:World) (h:Heap) (a:Addr) (M:Nat):Prop:=∃ o ep t,(h.get? a=some o/\o.ExactSet/\o.data=.set #[] ep t)/\t.fits 0=true/\Tab (w.params.followText "set-order") t/\t.mask=M-1/\Sz M
theorem zcG.zuW {h:Heap} {M:Nat} (F:zcG w h a M):zaH prog w h a []:=by
 obtain ⟨o,ep,t,h1,h2,h3,h4,h5⟩:=F
 exact ⟨⟨o,#[],ep,t,h1,⟨fun e he=>by simp at he,by decide,h2⟩,h3,rfl⟩,List.Pairwise.nil⟩
theorem zqS {Q:Unit->Shared->Prop} {wanted M:Nat} (F:zcG w s.heap a M) (hw:wanted<128) (hQ:∀ h',Heap.SameBut a s.heap h'->zcG w h' a (SetTable.sizeAbove wanted)->Q () { s with heap:=h' }):wpAny (model prog w) A (setRelay a wanted) Q E s:=by
 obtain ⟨o,ep,t,⟨ho,hex,hd⟩,hf,T,hm,sM⟩:=F
 obtain ⟨sz,lt⟩:=zlH hw
 obtain ⟨t',order,e1,e2,e3,e4,e5,e6,e7⟩:=zkh (finger:=t.finger) (moves:=t.movedTo (SetTable.sizeAbove wanted-1)) (led:=t.led) (plain:=t.plain) sz ((#[]:Array (Int × Value)).map (·.1)) (by rw[yer];exact yde (ydf _) lt)
 rw[yer] at e2 e3
 have pm:=zjt (es:=#[]) e2
 have zz:order.filterMap ((#[]:Array (Int × Value))[·]?)=#[]:=by
  have:=pm.eq_nil
  exact Array.toList_inj.mp this
 unfold setRelay
 refine wpAny_bind (wpAny_setState_of ho hd hf ?_)
 dsimp only
 refine zaY (by rcases sz with e | e | e | e | e <;> rw[e,sizeLine_eq] <;> decide) (wpAny_bind ?_)
 unfold SetTable.relaid
 rw[e1]
 change wpAny _ _ (ite _ _ _) _ _ _
 refine zaY (by rw[zz];simp) (wpAny_pure ?_)
 rw[zz]
 refine wpAny_storeSet_of ho hd ?_ (ydf _)
 exact hQ _ (Heap.SameBut.update _ a _) ⟨_,ep+1,t',⟨zmc ho hd #[] t',hex,rfl⟩,e3,⟨by rw[e4];exact T.led,e5,fun _=>e6⟩,e7,sz⟩
theorem zsy {Q:Unit->Shared->Prop} {M n:Nat} (F:zcG w s.heap a M) (hn:n<64) (hQ:∀ h' M',Heap.SameBut a s.heap h'->zcG w h' a M'->n<M'->Q () { s with heap:=h' }):wpAny (model prog w) A (setRoomFor a n) Q E s:=by
 obtain ⟨o,ep,t,⟨ho,hex,hd⟩,hf,T,hm,sz⟩:=id F
 unfold setRoomFor
 refine wpAny_bind (wpAny_setState_of ho hd hf ?_)
 dsimp only
 have pl:t.place.size=0:=by
  simp only[SetTable.fits,Bool.and_eq_true,beq_iff_eq] at hf
  exact hf.1
 have fl:t.fill=0:=by
  unfold SetTable.fill
  rw[pl,T.dum]
  rfl
 unfold SetTable.roomFor
 rw[fl,pl,hm]
 by_cases c:(0+n)*5>=(M-1)*3
 ·rw[if_pos c]
  refine zqS F (by ac_rfl) fun h' sb F'=>hQ h' _ sb F' ?_
  have:=(zlH (n:=(0+n)*2) (by ac_rfl)).2
  ac_rfl
 ·rw[if_neg c]
  exact wpAny_pure (hQ s.heap M (Heap.SameBut.refl a s.heap) F (by ac_rfl))
theorem zqP {Q:Unit->Shared->Prop} {each:Sem Unit} {M:Nat} (F:zcG w s.heap a M) (S:zaH prog w s.heap b ms) (ne:a≠b) (hm:ms.length<64)
  (hQ:∀ h' ms',Heap.SameBut a s.heap h'->zaH prog w h' a ms'->ms'.Perm ms->Q () { s with heap:=h' }):wpAny (model prog w) A (setMerge a b each) Q E s:=by
 obtain ⟨⟨o,es,ep,t,⟨ho,hex,hd⟩,⟨hel,hb,hf⟩,T,rfl⟩,nd⟩:=id S
 rw[yab,yel] at hm
 unfold setMerge
 refine zaY (by simpa using ne) ?_
 refine wpAny_bind (wpAny_setState_of ho hd hf ?_)
 dsimp only
 by_cases em:es.isEmpty
 ·refine zeV em (wpAny_pure ?_)
  have e0:es=#[]:=by simpa using em
  subst e0
  exact hQ s.heap [] (Heap.SameBut.refl a s.heap) F.zuW (.refl _)
 ·refine zaY em (wpAny_bind (zsy F hm fun h' M' sb F' lt=>?_))
  obtain ⟨o1,ep1,t1,⟨ho1,hex1,hd1⟩,hf1,T1,hm1,sz1⟩:=F'
  refine wpAny_bind (wpAny_setState_of ho1 hd1 hf1 ?_)
  dsimp only
  have pl:t1.place.size=0:=by
   simp only[SetTable.fits,Bool.and_eq_true,beq_iff_eq] at hf1
   exact hf1.1
  have fl:t1.fill=0:=by
   unfold SetTable.fill
   rw[pl,T1.dum]
   rfl
  have rd:t1.road t≠.oneByOne:=by
   unfold SetTable.road
   rw[fl]
   simp only[bne_self_eq_false,Bool.false_eq_true,↓reduceIte]
   split <;> (intro z;cases z)
  cases q:t1.road t with
  | oneByOne=>exact absurd q rd
  | slotForSlot =>
   dsimp only
   refine wpAny_storeSet_of ho1 hd1 ?_ (fits_of_scanBound hb)
   refine hQ _ _ (sb.trans (Heap.SameBut.update _ a _)) (zlK ho1 hex1 hd1 hel hb hf ⟨?_,T.dum,fun z=>T.up ?_⟩ nd) (.refl _)
   ·show (t1.led && t.led)=_
    rw[T1.led,T.led,Bool.and_self]
   ·have:(t1.plain && t.plain)=true:=z
    simp only[Bool.and_eq_true] at this
    exact this.2
  | clean =>
   dsimp only
   obtain ⟨t',order,e1,e2,e3,e4,e5,e6,e7⟩:=zkh (finger:=t1.finger) (moves:=t1.moves) (led:=t1.led && t.led) (plain:=t1.plain && t.plain) sz1 (es.map (·.1)) (by rw[yer];exact lt)
   rw[yer] at e2 e3
   have pm:=zjt e2
   have zz:(order.filterMap (es[·]?)).size=es.size:=by have:=pm.length_eq;rwa [yel,yel] at this
   rw[hm1,e1]
   refine wpAny_bind ?_
   change wpAny _ _ (ite _ _ _) _ _ _
   refine zaY (by rw[zz];simp) (wpAny_pure ?_)
   refine wpAny_storeSet_of ho1 hd1 ?_ (by rw[zz];exact fits_of_scanBound hb)
   have q2:=pm.map fun e=>intOf e.2
   refine hQ _ _ (sb.trans (Heap.SameBut.update _ a _)) (zlK ho1 hex1 hd1 (hel.perm pm) (by rw[zz];exact hb) (by rw[zz];exact e3) ⟨by rw[e4,T1.led,T.led,Bool.and_self],e5,fun _=>e6⟩ (q2.nodup_iff.mpr nd)) q2
end
end zat
namespace zat
section
variable {prog:Program} {w:World} {A:Around} {E:Value->Shared->Prop} {s:Shared} {a b:Addr} {ms ns:List Int}
theorem ziD {M:Model} {α β:Type} {l:List α} {b:β} {f:α->β->Sem (ForInStep β)} {Q:β->Shared->Prop} (h:∀ x∈l,f x b=pure (.yield b)) (q:Q b s):wpAny M A (forIn l b f) Q E s:=by
 induction l with
 | nil=>exact wpAny_pure q
 | cons x l ih =>
  rw[ycc]
  refine wpAny_bind ?_
  rw[h x yam]
  exact wpAny_pure (ih fun y hy=>h y (yak _ hy))
theorem zo8 {Q:Array (Int × Value)->Shared->Prop} {o:Obj} {es:Array (Int × Value)} {ep:Nat} {t:SetTable} (ho:s.heap.get? b=some o) (hd:o.data=.set es ep t) (hf:t.fits es.size=true) (T:Tab (w.params.followText "set-order") t)
  (hQ:∀ es' d,es'.toList.Perm es.toList->Q es' { s with drawn:=d }):wpAny (model prog w) A (setWalk b) Q E s:=by
 unfold setWalk
 refine wpAny_bind (wpAny_setState_of ho hd hf ?_)
 unfold setsByText
 refine wpAny_bind (wpAny_bind (wpAny_askSetting (wpAny_pure ?_)))
 cases hb:w.params.followText "set-order" with
 | true =>
  rw[show (model prog w).w.params.followText "set-order" = true from hb,if_pos rfl]
  refine wpAny_bind (wpAny_askSetting (wpAny_pure ?_))
  exact hQ _ s.drawn (zhD _ _)
 | false =>
  rw[show (model prog w).w.params.followText "set-order" = false from hb,if_neg (by simp)]
  split
  ·refine wpAny_bind (zkv es.size es.toList s _ (yel) fun l d pm=>wpAny_pure ?_)
   exact hQ l.toArray d (by rw[ycz];exact pm)
  ·refine wpAny_bind ?_
   change wpAny _ _ (ite _ _ _) _ _ _
   have hl:t.led=true:=by rw[T.led,hb];rfl
   refine zaY (by rw[hl];simp) (wpAny_pure (wpAny_pure ?_))
   exact hQ es s.drawn (.refl _)
end
end zat
namespace zat
theorem zaH.ty {prog:Program} {w:World} {s:Shared} {a:Addr} {ms:List Int} (S:zaH prog w s.heap a ms):s.TypeIs (.ref a) "set" := by
 obtain ⟨⟨o,es,ep,t,⟨ho,hex,hd⟩,_⟩,_⟩:=S
 exact ⟨o,ho,hex.1⟩
section
variable {prog:Program} {w:World} {A:Around} {E:Value->Shared->Prop} {s:Shared} {a b:Addr} {ms ns:List Int}
theorem zlf {Q:Bool->Shared->Prop} (ty:s.TypeIs (.ref a) "set") (q:Q true s):wpAny (model prog w) A (Builtin.Frozenset.isAnySet (.ref a)) Q E s:=by
 unfold Builtin.Frozenset.isAnySet
 refine wpAny_bind (wpAny_isInstance (b:=true) ty sub_set_self ?_)
 exact wpAny_pure q
theorem znH {Q:Value->Shared->Prop} (h:zcG w (s.heap.push (empty w)) s.heap.objs.size 8->Q (.ref s.heap.objs.size) { s with heap:=s.heap.push (empty w) }):wpAny (model prog w) A (newSet (.type "set")) Q E s:=by
 unfold newSet setsByText
 refine wpAny_bind (wpAny_bind (wpAny_askSetting (wpAny_pure ?_)))
 dsimp only
 simp only[newObj]
 refine wpAny_bind (wpAny_alloc (wpAny_pure (h ?_)))
 exact ⟨_,0,_,⟨ydv _ rfl,⟨rfl,rfl,rfl⟩,rfl⟩,rfl,znB _,rfl,.inl rfl⟩
theorem zu7 {Q:Value->Shared->Prop} (S:zaH prog w s.heap a ms) (hm:ms.length<64)
  (hQ:∀ h' ms',(∀ c o,s.heap.get? c=some o->h'.get? c=some o)->zaH prog w h' s.heap.objs.size ms'->ms'.Perm ms->(ms=[]->zcG w h' s.heap.objs.size 8)->Q (.ref s.heap.objs.size) { s with heap:=h' }):wpAny (model prog w) A (Builtin.Frozenset.copyOf a) Q E s:=by
 obtain ⟨oa,hoa⟩:=S.obj
 have lt:=ydu hoa
 unfold Builtin.Frozenset.copyOf Builtin.Frozenset.baseOf
 refine wpAny_bind (wpAny_bind (wpAny_isInstance (b:=true) S.ty sub_set_self (wpAny_pure ?_)))
 refine wpAny_bind (znH fun F=>?_)
 have S':zaH prog w (s.heap.push (empty w)) a ms:=S.keep fun o e=>ydt _ e
 show wpAny _ _ (pure s.heap.objs.size >>= _) _ _ _
 refine wpAny_bind (wpAny_pure (wpAny_bind ?_))
 have kp0:∀ c o,s.heap.get? c=some o->(s.heap.push (empty w)).get? c=some o:=fun c o e=>ydt _ e
 by_cases e0:ms=[]
 ·subst e0
  obtain ⟨⟨o,es,ep,t,⟨ho,hex,hd⟩,⟨hel,hb,hf⟩,T,em⟩,nd⟩:=id S'
  have ee:es=#[]:=by
   have:=congrArg List.length em
   rw[yab,yel] at this
   exact Array.size_eq_zero_iff.mp this
  subst ee
  unfold setMerge
  refine zaY (by simpa using (ydl lt)) ?_
  refine wpAny_bind (wpAny_setState_of ho hd hf ?_)
  refine zeV (by rfl) (wpAny_pure (wpAny_pure ?_))
  exact hQ _ [] kp0 F.zuW (.refl _) fun _=>F
 ·refine zqP (s:={ s with heap:=s.heap.push (empty w) }) F S' (ydl lt) hm fun h' ms' sb S2 pm=>wpAny_pure ?_
  refine hQ h' ms' (fun c o e=>?_) S2 pm fun z=>absurd z e0
  rw[sb.2 c (ydd (ydu e))]
  exact kp0 c o e
end
end zat
namespace zat
section
variable {prog:Program} {w:World} {A:Around} {E:Value->Shared->Prop} {s:Shared}
set_option maxHeartbeats 3200000 in
end
end zat
section
variable {X:Cx}
end
section
variable {X:Cx} {o e:Expr} {apos cpos:Pos} {td ty:TE}
end
namespace zat
section
variable {prog:Program} {w:World} {A:Around} {E:Value->Shared->Prop} {s:Shared} {a b c:Addr} {ms ns:List Int}
def zc5 (prog:Program) (w:World) (h:Heap) (a:Addr) (ms:List Int):Prop :=
 (∃ o es ep t,(h.get? a=some o/\o.ExactSet/\o.data=.set es ep t)/\(ElemsOf (intKind prog w) es.toList/\es.size<64/\t.fits es.size=true)/\es.toList.map (fun e=>intOf e.2)=ms)/\ms.Nodup
theorem zaH.raw {h:Heap} (S:zaH prog w h a ms) (hm:ms.length<64):zc5 prog w h a ms:=by
 obtain ⟨⟨o,es,ep,t,h1,⟨hel,hb,hf⟩,T,rfl⟩,nd⟩:=S
 rw[yab,yel] at hm
 exact ⟨⟨o,es,ep,t,h1,⟨hel,hm,hf⟩,rfl⟩,nd⟩
theorem zc5.keep {h h':Heap} (R:zc5 prog w h a ms) (k:∀ o,h.get? a=some o->h'.get? a=some o):zc5 prog w h' a ms:=by
 obtain ⟨⟨o,es,ep,t,⟨ho,h1⟩,h2⟩,nd⟩:=R
 exact ⟨⟨o,es,ep,t,⟨k o ho,h1⟩,h2⟩,nd⟩
theorem zc5.obj {h:Heap} (R:zc5 prog w h a ms):∃ o,h.get? a=some o:=let ⟨⟨o,_,_,_,⟨e,_⟩,_⟩,_⟩:=R;⟨o,e⟩
theorem zr0 {o:Obj} {es:Array (Int × Value)} {ep:Nat} {t:SetTable} {k:Int} {x:Value} {Q:Option Nat->Shared->Prop} (hk:Value.isInt k x=true) (hx:x.scannable=true) (ho:s.heap.get? a=some o) (hd:o.data=.set es ep t) (hf:t.fits es.size=true)
  (hel:ElemsOf (intKind prog w) es.toList) (hb:es.size<scanBound) (h:Q (es.toList.findIdx? fun e=>Value.isInt k e.2) s):wpAny (model prog w) A (setFind a x ((intKind prog w).hash k)) Q E s:=by
 unfold setFind setFindIn
 refine wpAny_bind (wpAny_setState_of ho hd hf ?_)
 dsimp only
 rw[byScan_of hx hb hel]
 refine zeV rfl (wpAny_bind (wpAny_rule (wpAny_bind (wpAny_setScan_of (knd:=intKind prog w) (k:=k) hk ho hd hf hel ?_))))
 have e0:(fun e:Int × Value=>(intKind prog w).is k e.2)=fun e=>Value.isInt k e.2:=rfl
 rw[e0]
 cases q:es.toList.findIdx? (fun e=>Value.isInt k e.2) with
 | none=>rw[q] at h;exact wpAny_pure h
 | some j =>
  rw[q] at h
  dsimp only
  rw[yds]
  exact wpAny_pure h
theorem zjm {α:Type} (xs:Array α) (i:Nat):(SetTable.eraseAt xs i).toList=xs.toList.eraseIdx i:=by
 unfold SetTable.eraseAt
 rw[Array.toList_append,ycd]
 simp
 exact yaw (by rw[ybt,yel];exact ydc _)
theorem zgb {α:Type} (xs:Array α) {i:Nat} (h:i<xs.size):(SetTable.eraseAt xs i).size=xs.size-1:=by
 rw[<-yel,zjm,ycm (by simpa using h),yel]
theorem zqW {α:Type} (xs:Array α) (p:Nat) (x:α):(SetTable.insertAt xs p x).size=xs.size+1:=by
 unfold SetTable.insertAt
 simp
 ac_rfl
theorem zt0 {t:SetTable} {n i:Nat} (h:t.fits n=true) (hi:i<n):(t.drop i).fits (n-1)=true:=by
 simp only[SetTable.fits,Bool.and_eq_true,beq_iff_eq,decide_eq_true_eq] at h
 obtain ⟨h1,h2⟩:=h
 have hp:i<t.place.size:=by ac_rfl
 have e:t.drop i={ t with place:=SetTable.eraseAt t.place i,dummies:=SetTable.insertAt t.dummies (SetTable.below t.dummies (t.place[i]'hp)) (t.place[i]'hp) }:=by
  unfold SetTable.drop
  rw[yem hp]
 have z1:=zgb t.place hp
 have z2:=zqW t.dummies (SetTable.below t.dummies (t.place[i]'hp)) (t.place[i]'hp)
 unfold SetTable.fill at h2
 rw[e]
 unfold SetTable.fits SetTable.fill
 rw[Bool.and_eq_true]
 exact ⟨by rw[beq_iff_eq];show (SetTable.eraseAt t.place i).size=n-1;ac_rfl,decide_eq_true (by show (SetTable.eraseAt t.place i).size+(SetTable.insertAt t.dummies (SetTable.below t.dummies (t.place[i]'hp)) (t.place[i]'hp)).size<=t.mask;ac_rfl)⟩
theorem zqG {l:List Int} {i:Nat} {k:Int} (nd:l.Nodup) (h:l[i]?=some k):(l.eraseIdx i).Nodup/\∀ m,m∈l.eraseIdx i↔m∈l/\m≠k:=by
 have hi:=(yac.mp h).1
 have ek:l[i]=k:=(yac.mp h).2
 have pm:=zf7 l i hi
 have nd2:=pm.nodup_iff.mpr nd
 rw[ek,ybm] at nd2
 rw[ek] at pm
 refine ⟨nd2.2,fun m=>?_⟩
 rw[<-pm.mem_iff,yal]
 constructor
 ·exact fun q=>⟨.inr q,fun z=>nd2.1 (z ▸ q)⟩
 ·rintro ⟨q | q,z⟩
  ·exact absurd q z
  ·exact q
theorem discard {k:Int} {x:Value} {Q:Bool->Shared->Prop} (hk:Value.isInt k x=true) (hx:x.scannable=true) (R:zc5 prog w s.heap a ms)
  (hQ:∀ b h' ms',Heap.SameBut a s.heap h'->zc5 prog w h' a ms'->(∀ m,m∈ms'↔m∈ms/\m≠k)->ms'.length<=ms.length->Q b { s with heap:=h' }):wpAny (model prog w) A (setDiscardHashed a x ((intKind prog w).hash k)) Q E s:=by
 obtain ⟨⟨o,es,ep,t,⟨ho,hex,hd⟩,⟨hel,hb,hf⟩,rfl⟩,nd⟩:=id R
 unfold setDiscardHashed
 refine wpAny_bind (zr0 hk hx ho hd hf hel (ydg hb (by decide)) ?_)
 cases q:es.toList.findIdx? (fun e=>Value.isInt k e.2) with
 | none =>
  refine wpAny_pure (hQ false s.heap _ (Heap.SameBut.refl a s.heap) R (fun m=>⟨fun z=>⟨z,fun e=>?_⟩,fun z=>z.1⟩) (ydc _))
  subst e
  obtain ⟨e,he,q2⟩:=(ziS hel m).mpr z
  rw[ycn.mp q e he] at q2
  cases q2
 | some j =>
  obtain ⟨hj,hp,_⟩:=yca.mp q
  rw[yel] at hj
  have ej:(es.toList.map fun e=>intOf e.2)[j]?=some k:=by
   rw[yaj,yaa (by simpa using hj)]
   exact congrArg some (zlQ hp)
  obtain ⟨nd2,mm⟩:=zqG nd ej
  refine wpAny_bind (wpAny_setState_of ho hd hf ?_)
  dsimp only
  refine wpAny_bind (wpAny_storeSet_of ho hd (wpAny_bind (wpAny_point (wpAny_pure ?_))) (by rw[zgb _ hj,sizeLine_eq];ac_rfl))
  refine hQ true _ ((es.toList.map fun e=>intOf e.2).eraseIdx j) (Heap.SameBut.update _ a _) ⟨⟨_,SetTable.eraseAt es j,ep+1,t.drop j,⟨zmc ho hd _ _,hex,rfl⟩,⟨?_,?_,?_⟩,?_⟩,nd2⟩ mm (List.length_eraseIdx_le _ _)
  ·rw[zjm]
   exact fun e he=>hel e (List.mem_of_mem_eraseIdx he)
  ·rw[zgb _ hj];ac_rfl
  ·rw[zgb _ hj];exact zt0 hf hj
  ·rw[zjm,ycd,ycd,yan,List.map_take,List.map_drop]
theorem zth {Q:Unit->Shared->Prop} {wanted:Nat} (R:zc5 prog w s.heap a ms) (hw:wanted<128) (hm:ms.length<=wanted)
  (hQ:∀ h' ms',Heap.SameBut a s.heap h'->zc5 prog w h' a ms'->ms'.Perm ms->Q () { s with heap:=h' }):wpAny (model prog w) A (setRelay a wanted) Q E s:=by
 obtain ⟨⟨o,es,ep,t,⟨ho,hex,hd⟩,⟨hel,hb,hf⟩,rfl⟩,nd⟩:=R
 rw[yab,yel] at hm
 obtain ⟨sz,lt⟩:=zlH hw
 obtain ⟨t',order,e1,e2,e3,_⟩:=zkh (finger:=t.finger) (moves:=t.movedTo (SetTable.sizeAbove wanted-1)) (led:=t.led) (plain:=t.plain) sz (es.map (·.1)) (by rw[yer];ac_rfl)
 rw[yer] at e2 e3
 have pm:=zjt e2
 have zz:(order.filterMap (es[·]?)).size=es.size:=by have:=pm.length_eq;rwa [yel,yel] at this
 unfold setRelay
 refine wpAny_bind (wpAny_setState_of ho hd hf ?_)
 dsimp only
 refine zaY (by rcases sz with e | e | e | e | e <;> rw[e,sizeLine_eq] <;> decide) (wpAny_bind ?_)
 unfold SetTable.relaid
 rw[e1]
 change wpAny _ _ (ite _ _ _) _ _ _
 refine zaY (by rw[zz];simp) (wpAny_pure ?_)
 refine wpAny_storeSet_of ho hd ?_ (by rw[zz,sizeLine_eq];ac_rfl)
 have q2:=pm.map fun e=>intOf e.2
 exact hQ _ _ (Heap.SameBut.update _ a _) ⟨⟨_,_,ep+1,t',⟨zmc ho hd _ _,hex,rfl⟩,⟨hel.perm pm,by rw[zz];exact hb,by rw[zz];exact e3⟩,rfl⟩,q2.nodup_iff.mpr nd⟩ q2
theorem zuc {Q:Unit->Shared->Prop} (R:zc5 prog w s.heap a ms) (hm:ms.length<32) (hQ:∀ h' ms',Heap.SameBut a s.heap h'->zc5 prog w h' a ms'->ms'.Perm ms->Q () { s with heap:=h' }):wpAny (model prog w) A (setTidy a) Q E s:=by
 obtain ⟨⟨o,es,ep,t,⟨ho,hex,hd⟩,⟨hel,hb,hf⟩,e⟩,nd⟩:=id R
 have le:es.size=ms.length:=by rw[<-e,yab,yel]
 unfold setTidy
 refine wpAny_bind (wpAny_setState_of ho hd hf ?_)
 dsimp only
 have g:SetTable.grown es.size=es.size*4:=if_neg (by ac_rfl)
 split
 ·exact zth R (by rw[g];ac_rfl) (by rw[g];ac_rfl) hQ
 ·exact wpAny_pure (hQ s.heap ms (Heap.SameBut.refl a s.heap) R (.refl _))
theorem zmX {M:Model} {α:Type} {f:α->PUnit->Sem (ForInStep PUnit)} {Q:PUnit->Shared->Prop} (I:List α->Shared->Prop) (turn:∀ x l s,I (x::l) s->wpAny M A (f x ⟨⟩) (fun r s'=>r=.yield ⟨⟩/\I l s') E s) (fin:∀ s,I [] s->Q ⟨⟩ s):∀ (l:List α) (s:Shared),I l s->wpAny M A (forIn l PUnit.unit f) Q E s
 | [],s,h=>by
  rw[List.forIn_nil]
  exact wpAny_pure (fin s h)
 | x::l,s,h=>by
  rw[ycc]
  refine wpAny_bind (wpAny_mono (turn x l s h) (fun r s' q=>?_) fun _ _ z=>z)
  obtain ⟨rfl,q⟩:=q
  exact zmX I turn fin l s' q
theorem zdP {es:Array (Int × Value)} (hel:ElemsOf (intKind prog w) es.toList):∀ e∈es.toList,∃ h k t,e=(h,Value.int k t):=fun e he=>by
 obtain ⟨⟨k,hk,_⟩,_⟩:=hel e he
 obtain ⟨t,q⟩:=Value.isInt_shape (show Value.isInt k e.2=true from hk)
 exact ⟨e.1,k,t,by rw[<-q]⟩
theorem zuX {Q:Array (Int × Value)->Shared->Prop} {o:Obj} {es:Array (Int × Value)} {ep:Nat} {t:SetTable} (S:zaH prog w s.heap a ms) (C:zaH prog w s.heap c ns) (ho:s.heap.get? b=some o) (hd:o.data=.set es ep t) (hf:t.fits es.size=true) (hel:ElemsOf (intKind prog w) es.toList) (T:Tab (w.params.followText "set-order") t)
  (hQ:∀ es' h' d,es'.toList.Perm es.toList->Heap.SameBut a s.heap h'->zaH prog w h' a ms->Q es' { s with heap:=h',drawn:=d }):wpAny (model prog w) A (setWalkUnseen b [c,a] (some a)) Q E s:=by
 unfold setWalkUnseen
 refine wpAny_bind (wpAny_setState_of ho hd hf ?_)
 unfold setsByText
 refine wpAny_bind (wpAny_bind (wpAny_askSetting (wpAny_pure ?_)))
 dsimp only
 split
 ·exact zo8 ho hd hf T fun es' d pm=>hQ es' s.heap d pm (Heap.SameBut.refl a s.heap) S
 ·obtain ⟨⟨o1,es1,ep1,t1,⟨ho1,hex1,hd1⟩,⟨hel1,hb1,hf1⟩,T1,rfl⟩,nd1⟩:=id S
  obtain ⟨⟨o2,es2,ep2,t2,⟨ho2,hex2,hd2⟩,⟨hel2,hb2,hf2⟩,T2,rfl⟩,nd2⟩:=id C
  unfold setsQuiet
  refine wpAny_bind (wpAny_bind ?_)
  rw[ycc]
  refine wpAny_bind (wpAny_bind (wpAny_setEntries_of ho hd hf (wpAny_bind ?_)))
  rw[<-yeo]
  refine ziD (fun e he=>?_) ?_
  ·obtain ⟨h,k,t,rfl⟩:=zdP hel e he
   rfl
  refine wpAny_pure ?_
  dsimp only
  rw[ycc]
  refine wpAny_bind (wpAny_bind (wpAny_setEntries_of ho2 hd2 hf2 (wpAny_bind ?_)))
  rw[<-yeo]
  refine ziD (fun e he=>?_) ?_
  ·obtain ⟨h,k,t,rfl⟩:=zdP hel2 e he
   rfl
  refine wpAny_pure ?_
  dsimp only
  rw[ycc]
  refine wpAny_bind (wpAny_bind (wpAny_setEntries_of ho1 hd1 hf1 (wpAny_bind ?_)))
  rw[<-yeo]
  refine ziD (fun e he=>?_) ?_
  ·obtain ⟨h,k,t,rfl⟩:=zdP hel1 e he
   rfl
  refine wpAny_pure (wpAny_pure (wpAny_pure ?_))
  refine zaY (by simp) (wpAny_bind (wpAny_rule (wpAny_bind (wpAny_setState_of ho1 hd1 hf1 ?_))))
  dsimp only
  split
  ·refine wpAny_bind (wpAny_storeSet_of ho1 hd1 (wpAny_pure ?_) (fits_of_scanBound hb1))
   refine hQ es _ s.drawn (.refl _) (Heap.SameBut.update _ a _) (zlK ho1 hex1 hd1 hel1 hb1 hf1 ⟨?_,T1.dum,fun z=>T1.up ?_⟩ nd1)
   ·show (t1.led && t.led)=_
    rw[T1.led,T.led,Bool.and_self]
   ·have:(t1.plain && t.plain)=true:=z
    simp only[Bool.and_eq_true] at this
    exact this.1
  ·exact wpAny_pure (hQ es s.heap s.drawn (.refl _) (Heap.SameBut.refl a s.heap) S)
theorem zuQ {Q:Array (Int × Value)->Shared->Prop} {o:Obj} {es:Array (Int × Value)} {ep:Nat} {t:SetTable} (R:zc5 prog w s.heap a ms) (ho:s.heap.get? b=some o) (hd:o.data=.set es ep t) (hf:t.fits es.size=true) (hel:ElemsOf (intKind prog w) es.toList) (T:Tab (w.params.followText "set-order") t)
  (hQ:∀ es' d,es'.toList.Perm es.toList->Q es' { s with drawn:=d }):wpAny (model prog w) A (setWalkUnseen b [a] none) Q E s:=by
 unfold setWalkUnseen
 refine wpAny_bind (wpAny_setState_of ho hd hf ?_)
 unfold setsByText
 refine wpAny_bind (wpAny_bind (wpAny_askSetting (wpAny_pure ?_)))
 dsimp only
 split
 ·exact zo8 ho hd hf T fun es' d pm=>hQ es' d pm
 ·obtain ⟨⟨o1,es1,ep1,t1,⟨ho1,hex1,hd1⟩,⟨hel1,hb1,hf1⟩,rfl⟩,nd1⟩:=id R
  unfold setsQuiet
  refine wpAny_bind (wpAny_bind ?_)
  rw[ycc]
  refine wpAny_bind (wpAny_bind (wpAny_setEntries_of ho hd hf (wpAny_bind ?_)))
  rw[<-yeo]
  refine ziD (fun e he=>?_) ?_
  ·obtain ⟨h,k,t,rfl⟩:=zdP hel e he
   rfl
  refine wpAny_pure ?_
  dsimp only
  rw[ycc]
  refine wpAny_bind (wpAny_bind (wpAny_setEntries_of ho1 hd1 hf1 (wpAny_bind ?_)))
  rw[<-yeo]
  refine ziD (fun e he=>?_) ?_
  ·obtain ⟨h,k,t,rfl⟩:=zdP hel1 e he
   rfl
  refine wpAny_pure (wpAny_pure (wpAny_pure ?_))
  refine zaY (by simp) (wpAny_bind (wpAny_rule ?_))
  exact wpAny_pure (hQ es s.drawn (.refl _))
theorem zjC {id0:String} {o:Obj} {es:Array (Int × Value)} {ep:Nat} {t:SetTable} {Q:Unit->Shared->Prop} (ho:s.heap.get? b=some o) (hd:o.data=.set es ep t) (hf:t.fits es.size=true) (q:Q () s):wpAny (model prog w) A (Builtin.Frozenset.unchanged id0 b ep) Q E s:=by
 unfold Builtin.Frozenset.unchanged
 refine wpAny_bind (wpAny_setEpoch_of ho hd hf ?_)
 exact zaY (by simp) (wpAny_pure q)
theorem zlc {o:Obj} {es:Array (Int × Value)} {ep:Nat} {t:SetTable} {Q:Nat->Shared->Prop} (ho:s.heap.get? b=some o) (hd:o.data=.set es ep t) (hf:t.fits es.size=true) (q:Q es.size s):wpAny (model prog w) A (Builtin.Frozenset.sizeOf b) Q E s:=by
 unfold Builtin.Frozenset.sizeOf
 exact wpAny_bind (wpAny_setEntries_of ho hd hf (wpAny_pure q))
theorem zwT:entryFor table "set.__sub__" = some Builtin.«frozenset.__sub__»:=entryFor_alias (id' := "frozenset.__sub__") (by rw[fastTable_eq_tree];kernel_rfl) rfl (by rw[PySem.W.S.canonicalS_eq];kernel_rfl) (by rw[fastTable_eq_tree];kernel_rfl)
theorem zvH {Q:Value->Shared->Prop} (S:zaH prog w s.heap a ms) (B:zaH prog w s.heap b ns) (hm:ms.length<32) (hn:ns.length<32)
  (hQ:∀ h' d ms',(∀ c o,s.heap.get? c=some o->h'.get? c=some o)->zc5 prog w h' s.heap.objs.size ms'->(∀ m,m∈ms'↔m∈ms/\m ∉ ns)->Q (.ref s.heap.objs.size) { s with heap:=h',drawn:=d }):wpAny (model prog w) A (binaryOp .Sub (.ref a) (.ref b)) Q E s:=by
 refine wpAny_binaryOp_same (op:=.Sub) (T:="set") S.ty B.ty PySem.F.fills_set_sub PySem.F.slot_set_sub (wpAny_call_entry PySem.F.slot_set_sub S.ty zwT ?_ (PySem.F.args_set_sub_2 _ _))
 unfold Builtin.«frozenset.__sub__»
 obtain ⟨⟨oa,ea,pa,ta,⟨hoa,hxa,hda⟩,⟨hla,hba,hfa⟩,Ta,ema⟩,nda⟩:=id S
 obtain ⟨⟨ob,eb,pb,tb,⟨hob,hxb,hdb⟩,⟨hlb,hbb,hfb⟩,Tb,emb⟩,ndb⟩:=id B
 have lta:=ydu hoa
 have ltb:=ydu hob
 have sa:ea.size=ms.length:=by rw[<-ema,yab,yel]
 have sb:eb.size=ns.length:=by rw[<-emb,yab,yel]
 change wpAny _ _ (Builtin.Frozenset.slot1 "__sub__" _ >>= _) _ _ _
 refine wpAny_bind (wpAny_of_eq (show Builtin.Frozenset.slot1 "__sub__" { pos:=[Value.ref a,Value.ref b] }=pure (.ref a,.ref b) from rfl) ?_)
 change wpAny _ _ ((_ <&&> _) >>= _) _ _ _
 refine wpAny_bind (wpAny_bind (zlf S.ty (zlf B.ty ?_)))
 refine zaY (by simp) (wpAny_bind (wpAny_pure (wpAny_bind ?_)))
 change wpAny _ _ (Builtin.Frozenset.difference _ a (.ref b)) _ _ _
 unfold Builtin.Frozenset.difference
 dsimp only
 refine wpAny_bind (zlf B.ty ?_)
 refine zaY (by simp) (wpAny_bind (wpAny_pure ?_))
 refine zaY (by simp) (zeV rfl (wpAny_bind (zlc hob hdb hfb (wpAny_bind (zlc hoa hda hfa ?_)))))
 have kp0:∀ c o,s.heap.get? c=some o->(s.heap.push (empty w)).get? c=some o:=fun c o e=>ydt _ e
 split
 ·rename_i big
  refine wpAny_bind (wpAny_rule (wpAny_bind (zu7 S (by ac_rfl) fun h1 ms1 kp1 S1 pm1 _=>?_)))
  have nb:s.heap.objs.size≠b:=ydl ltb
  have B1:zaH prog w h1 b ns:=B.keep fun o e=>kp1 b o e
  have R1:=S1.raw (by rw[pm1.length_eq];ac_rfl)
  obtain ⟨⟨o1,e1,p1,t1,⟨ho1,hx1,hd1⟩,⟨hl1,hb1,hf1⟩,em1⟩,nd1⟩:=id R1
  have sz1:e1.size=ms.length:=by rw[<-pm1.length_eq,<-em1,yab,yel]
  refine wpAny_bind (wpAny_pure (wpAny_bind (wpAny_holding ?_)))
  unfold Builtin.Frozenset.differenceUpdate
  refine zaY (by simpa using nb.symm) ?_
  refine wpAny_bind (zlf (s:={ s with heap:=h1 }) B1.ty (zeV rfl (wpAny_bind (wpAny_pure (wpAny_bind (zlc (s:={ s with heap:=h1 }) (kp1 b ob hob) hdb hfb (wpAny_bind (zlc (s:={ s with heap:=h1 }) ho1 hd1 hf1 ?_))))))))
  refine zaY (by ac_rfl) ?_
  dsimp only
  refine wpAny_bind (wpAny_setEpoch_of (s:={ s with heap:=h1 }) (kp1 b ob hob) hdb hfb (wpAny_bind (wpAny_holding ?_)))
  refine wpAny_bind (zuQ (s:={ s with heap:=h1 }) R1 (kp1 b ob hob) hdb hfb hlb Tb fun es' d pm=>?_)
  rw[<-yeo]
  refine wpAny_bind (zmX (fun rest s'=>∃ h2 ms2 done,s'={ s with heap:=h2,drawn:=d }/\Heap.SameBut s.heap.objs.size h1 h2/\zc5 prog w h2 s.heap.objs.size ms2/\ElemsOf (intKind prog w) rest/\(∀ m,m∈ms2↔m∈ms/\m ∉ done)/\(done++rest.map fun e=>intOf e.2).Perm ns/\ms2.length<=ms.length) ?_ ?_ es'.toList _ ⟨h1,ms1,[],rfl,Heap.SameBut.refl _ h1,R1,hlb.perm pm,fun m=>by rw[pm1.mem_iff];simp,by rw[<-emb];exact pm.map _,Nat.le_of_eq pm1.length_eq⟩)
  ·rintro ⟨eh,ev⟩ l s' ⟨h2,ms2,done,rfl,sb2,R2,hl,mm,pm2,len⟩
   obtain ⟨⟨k,hk,hh⟩,hsc⟩:=hl.head
   obtain ⟨tk,q⟩:=Value.isInt_shape (show Value.isInt k ev=true from hk)
   dsimp only at q hh hk hsc
   subst q
   subst hh
   dsimp only
   refine wpAny_bind (wpAny_holding (discard (s:={ s with heap:=h2,drawn:=d }) hk hsc R2 fun _ h3 ms3 sb3 R3 mm3 l3=>?_))
   have hb3:h3.get? b=some ob:=by rw[sb3.2 b nb.symm,sb2.2 b nb.symm];exact kp1 b ob hob
   refine wpAny_bind (zjC (s:={ s with heap:=h3,drawn:=d }) hb3 hdb hfb (wpAny_pure ⟨rfl,h3,ms3,done++[k],rfl,sb2.trans sb3,R3,hl.tail,fun m=>?_,by rw[ycb];exact pm2,by ac_rfl⟩))
   rw[mm3,mm,yag,yba,not_or,and_assoc]
  ·rintro s' ⟨h2,ms2,done,rfl,sb2,R2,hl,mm,pm2,len⟩
   rw[List.map_nil,ybl] at pm2
   refine wpAny_pure (zuc (s:={ s with heap:=h2,drawn:=d }) R2 (by ac_rfl) fun h3 ms3 sb3 R3 pm3=>wpAny_pure (wpAny_pure ⟨_,rfl,by simp,?_⟩))
   exact hQ h3 d ms3 (fun c o e=>by rw[sb3.2 c (ydd (ydu e)),sb2.2 c (ydd (ydu e))];exact kp1 c o e) R3 (fun m=>by rw[pm3.mem_iff,mm,pm2.mem_iff])
 ·unfold Builtin.Frozenset.baseOf
  refine wpAny_bind (wpAny_bind (wpAny_isInstance (b:=true) S.ty sub_set_self (wpAny_pure ?_)))
  refine wpAny_bind (znH fun F=>?_)
  have B0:zaH prog w (s.heap.push (empty w)) b ns:=B.keep fun o e=>kp0 b o e
  show wpAny _ _ (pure s.heap.objs.size >>= _) _ _ _
  refine wpAny_bind (wpAny_pure (wpAny_bind (wpAny_setEpoch_of (s:={ s with heap:=s.heap.push (empty w) }) (kp0 a oa hoa) hda hfa (wpAny_bind (wpAny_holding ?_)))))
  have na:s.heap.objs.size≠a:=ydl lta
  have nb:s.heap.objs.size≠b:=ydl ltb
  refine wpAny_bind (zeV (x:=setWalkUnseen a [b,s.heap.objs.size] (some s.heap.objs.size)) (y:=setWalk a) (c:=true=true) rfl (zuX (s:={ s with heap:=s.heap.push (empty w) }) F.zuW B0 (kp0 a oa hoa) hda hfa hla Ta fun es' h1 d pm sb1 S1=>?_))
  rw[<-yeo]
  refine wpAny_bind (zmX (fun rest s'=>∃ h2 ms2 done,s'={ s with heap:=h2,drawn:=d }/\Heap.SameBut s.heap.objs.size (s.heap.push (empty w)) h2/\zaH prog w h2 s.heap.objs.size ms2/\ElemsOf (intKind prog w) rest/\(∀ m,m∈ms2↔m∈done/\m ∉ ns)/\(done++rest.map fun e=>intOf e.2).Perm ms/\ms2.length<=done.length) ?_ ?_ es'.toList _ ⟨h1,[],[],rfl,sb1,S1,hla.perm pm,fun m=>by simp,by rw[<-ema];exact pm.map _,ydc _⟩)
  ·rintro ⟨eh,ev⟩ l s' ⟨h2,ms2,done,rfl,sb2,S2,hl,mm,pm2,len⟩
   obtain ⟨⟨k,hk,hh⟩,hsc⟩:=hl.head
   obtain ⟨tk,q⟩:=Value.isInt_shape (show Value.isInt k ev=true from hk)
   dsimp only at q hh hk hsc
   subst q
   subst hh
   have pl:=pm2.length_eq
   rw[yad,ybb,yax] at pl
   have hb2:h2.get? b=some ob:=by rw[sb2.2 b nb.symm];exact kp0 b ob hob
   have ha2:h2.get? a=some oa:=by rw[sb2.2 a na.symm];exact kp0 a oa hoa
   have ik:intOf (Value.int k tk)=k:=rfl
   have pm3:((done++[k])++l.map fun e=>intOf e.2).Perm ms:=by rw[ycb];exact pm2
   have kn:(eb.toList.findIdx? fun e=>Value.isInt k e.2).isSome=true↔k∈ns:=by
    rw[<-emb,<-ziS hlb k]
    constructor
    ·intro z
     obtain ⟨j,hj⟩:=Option.isSome_iff_exists.mp z
     obtain ⟨h1,h2,_⟩:=yca.mp hj
     exact ⟨_,ycj h1,h2⟩
    ·rintro ⟨e,he,z⟩
     cases q:eb.toList.findIdx? (fun e=>Value.isInt k e.2) with
     | some j=>rfl
     | none=>rw[ycn.mp q e he] at z;cases z
   refine wpAny_bind (wpAny_holding (zeV rfl (wpAny_bind (zr0 (s:={ s with heap:=h2,drawn:=d }) hk hsc hb2 hdb hfb hlb hbb (wpAny_bind (wpAny_pure ?_))))))
   by_cases z:k∈ns
   ·refine zaY (by rw[kn.mpr z];simp) (wpAny_pure (wpAny_bind (zjC (s:={ s with heap:=h2,drawn:=d }) ha2 hda hfa (wpAny_pure ⟨rfl,h2,ms2,done++[k],rfl,sb2,S2,hl.tail,fun m=>?_,pm3,by rw[yad];exact Nat.le_add_right_of_le len⟩))))
    rw[mm,yag,yba]
    constructor
    ·exact fun q=>⟨.inl q.1,q.2⟩
    ·rintro ⟨q | q,n⟩
     ·exact ⟨q,n⟩
     ·exact absurd (q ▸ z) n
   ·refine zeV (by rw[Bool.eq_false_iff.mpr (fun q=>z (kn.mp q))];rfl) (wpAny_bind (xadd (s:={ s with heap:=h2,drawn:=d }) (ms:=ms2) (k:=k) S2 (by show _<4096;ac_rfl) fun _ h3 ms3 sb3 S3 mm3 l3=>wpAny_pure ?_))
    have ha3:h3.get? a=some oa:=by rw[sb3.2 a na.symm];exact ha2
    refine wpAny_bind (zjC (s:={ s with heap:=h3,drawn:=d }) ha3 hda hfa (wpAny_pure ⟨rfl,h3,ms3,done++[k],rfl,sb2.trans sb3,S3,hl.tail,fun m=>?_,pm3,by rw[yad,ybv];ac_rfl⟩))
    rw[mm3,mm,yag,yba]
    constructor
    ·rintro (q | q)
     ·exact ⟨.inl q.1,q.2⟩
     ·exact ⟨.inr q,q ▸ z⟩
    ·rintro ⟨q | q,n⟩
     ·exact .inl ⟨q,n⟩
     ·exact .inr q
  ·rintro s' ⟨h2,ms2,done,rfl,sb2,S2,hl,mm,pm2,len⟩
   rw[List.map_nil,ybl] at pm2
   have pl:=pm2.length_eq
   refine wpAny_pure (wpAny_pure (wpAny_pure ⟨_,rfl,by simp,?_⟩))
   exact hQ h2 d ms2 (fun c o e=>by rw[sb2.2 c (ydd (ydu e))];exact kp0 c o e) (S2.raw (by ac_rfl)) (fun m=>by rw[mm,pm2.mem_iff])
end
end zat
noncomputable def zua (P:Program) (w:World) (a:Addr) (ms:List Int):HO:=.ext fun h=>zat.zc5 P w h a ms
def zv7 (P:Program) (w:World):R2:=fun x y H Q=>∃ a b ms ns,x=.ref a/\y=.ref b/\H a=some (zmS P w a ms)/\H b=some (zmS P w b ns)/\ms.length<32/\ns.length<32 /\
 ∀ (p:Addr) (H':Hp) (ls:List Int),H p=none->Same H H'->H' p=some (zua P w p ls)->(∀ m,m∈ls↔m∈ms/\m ∉ ns)->Q (.ref p) H'
section
variable {X:Cx}
theorem ztV:OpR X (binaryOp .Sub) (zv7 X.prog X.w):=by
 intro pins s σ H x y v u Q I rx ry h
 obtain ⟨a,b,ms,ns,rfl,rfl,ha,hb,hm,hn,q⟩:=h
 cases rx
 cases ry
 have S:=(I.hok a _ ha).1
 have B:=(I.hok b _ hb).1
 refine zat.zvH S B hm hn fun h' d ls kp R mm=>?_
 have I1:=I.laid (o:=zua X.prog X.w s.heap.objs.size ls) (t':=s.toks) kp (ydc _) ⟨R,R.obj,fun h1 h2 p e=>p.keep e⟩
 exact ⟨.ref s.heap.objs.size,_,I1.drew d,rfl,q _ _ ls (I.hok.fresh (ydc _)) (zc (I.hok.fresh (ydc _)) _) zf mm⟩
theorem zro:zbC X (.builtin "len") (fun xs H Q=>∃ (p:Addr) (ms:List Int),xs=[.ref p]/\H p=some (zua X.prog X.w p ms)/\Q (.int ms.length) H):=by
 intro pins s σ H xs us Q I r h
 obtain ⟨p,ms,rfl,hp,q⟩:=h
 obtain ⟨u,rfl,rx⟩:=vals1 r
 cases rx
 obtain ⟨⟨o,es,ep,t,⟨ho,hex,hd⟩,⟨hel,hb,hf⟩,rfl⟩,nd⟩:=(I.hok p _ hp).1
 rw[yab,yel] at q
 exact call_len_set ho hex hd hf (by ac_rfl) ⟨.int es.size,H,I.tok _,⟨_,rfl⟩,q⟩
end
end L2
namespace Sums
theorem fold_same {d m:Int}:∀ (t:Tab) (st:Int × Int),(∀ s∈t,s.1<=d↔s.1<=m)->t.foldl (vstep d) st=t.foldl (vstep m) st
 | [],_,_=>rfl
 | s::t,st,h=>by
  rw[ybh,ybh]
  have e:vstep d st s=vstep m st s:=by
   unfold vstep
   have:=h s yam
   by_cases q:st.1<=s.1/\s.1<=d
   ·rw[if_pos q,if_pos ⟨q.1,this.mp q.2⟩]
   ·rw[if_neg q,if_neg fun z=>q ⟨z.1,this.mpr z.2⟩]
  rw[e]
  exact fold_same t _ fun x hx=>h x (yak _ hx)
theorem zeK {t:Tab} {d m:Int} (h:∀ s∈t,s.1<=d↔s.1<=m):valOf t d=valOf t m:=by
 unfold valOf
 rw[fold_same t _ h]
theorem zjf {t:Tab} {d:Int} (h0:∀ s∈t,0<=s.1) (h:∀ s∈t,d<s.1):valOf t d=0:=by
 rcases zb6 h0 d with ⟨e,_⟩ | ⟨i,b,e,le,_⟩
 ·exact e
 ·have:=h _ (yah e)
  exact absurd this (by show ¬ d<b;ac_rfl)
theorem zo7:∀ l:List Int,l≠[]->∃ m∈l,∀ x∈l,x<=m
 | [],h=>absurd rfl h
 | [a],_=>⟨a,yam,fun x hx=>by rw[yba.mp hx];exact yea _⟩
 | a::b::l,_=>by
  obtain ⟨m,hm,h⟩:=zo7 (b::l) (by simp)
  by_cases q:a<=m
  ·refine ⟨m,yak _ hm,fun x hx=>?_⟩
   rcases yal.mp hx with rfl | hx
   ·exact q
   ·exact h x hx
  ·refine ⟨a,yam,fun x hx=>?_⟩
   rcases yal.mp hx with rfl | hx
   ·exact yea _
   ·have:=h x hx
    ac_rfl
theorem zue {ks:List Int} {f:Int->Int} {d m:Int} (k0:∀ k∈ks,0<=k) (hm:m∈ks) (md:m<=d) (top:∀ k∈ks,k<=d->k<=m):valOf (ks.map fun k=>(k,f k)) d=f m:=by
 rcases zb6 (t:=ks.map fun k=>(k,f k)) (fun s hs=>by obtain ⟨k,hk,rfl⟩:=yaf.mp hs;exact k0 k hk) d with ⟨_,h⟩ | ⟨i,b,e,le,h⟩
 ·have:d<m:=h (m,f m) (yaf.mpr ⟨m,hm,rfl⟩)
  ac_rfl
 ·obtain ⟨k,hk,ek⟩:=yaf.mp (yah e)
  have e1:k=b:=congrArg Prod.fst ek
  have e2:f k=valOf (ks.map fun k=>(k,f k)) d:=congrArg Prod.snd ek
  obtain ⟨j,hj⟩:=ybj.mp hm
  have q:=h j (m,f m) (by rw[yaj,hj];rfl) md
  have q2:=top k hk (by ac_rfl)
  have:k=m:=by rcases q with q | q <;> ac_rfl
  rw[<-e2,this]
end Sums
namespace L2
open PySem Sums
def nab (t u:List (Int × Int)):Bool:=(((t++u).filter fun s=>decide (s.1<=999999)).map fun s=>decide (valOf t s.1<=valOf u s.1)).all id
theorem zvI {t u:List (Int × Int)} (t0:∀ s∈t,0<=s.1) (u0:∀ s∈u,0<=s.1):nab t u=true↔∀ d:Int,0<=d->d<=999999->valOf t d<=valOf u d:=by
 unfold nab
 rw[List.all_map,ycy]
 constructor
 ·intro h d d0 d1
  by_cases q:(((t++u).map (·.1)).filter fun x=>decide (x<=d))=[]
  ·have no:∀ s∈t++u,d<s.1:=fun s hs=>by
    have:=yci.mp q s.1 (yay hs)
    simpa using this
   rw[zjf t0 fun s hs=>no s (ybg _ hs),zjf u0 fun s hs=>no s (yai _ hs)]
   exact yea _
  ·obtain ⟨m,hm,top⟩:=zo7 _ q
   obtain ⟨hm1,hm2⟩:=yap.mp hm
   have md:m<=d:=by simpa using hm2
   obtain ⟨r,hr,rfl⟩:=yaf.mp hm1
   have key:∀ s∈t++u,s.1<=d↔s.1<=r.1:=fun s hs=>⟨fun z=>top s.1 (yap.mpr ⟨yay hs,by simpa using z⟩),fun z=>by ac_rfl⟩
   have:=h r (yap.mpr ⟨hr,by simp;ac_rfl⟩)
   rw[zeK fun s hs=>key s (ybg _ hs),zeK fun s hs=>key s (yai _ hs)]
   simpa using this
 ·intro h s hs
  obtain ⟨h1,h2⟩:=yap.mp hs
  have s0:0<=s.1:=(yag.mp h1).elim (t0 s) (u0 s)
  have:=h s.1 s0 (by simpa using h2)
  simpa using this
noncomputable def chv (t l:List (Int × Int)) (d:Int):Int:=if Spans.isIn l d=true then 0 else valOf t d
theorem zsZ {l:List (Int × Int)} {d m:Int} (h:∀ s∈l,(s.1<=d↔s.1<=m)/\(s.2<=d↔s.2<=m)):Spans.isIn l d=Spans.isIn l m:=by
 unfold Spans.isIn
 rw[Bool.eq_iff_iff,ybp,ybp]
 constructor
 ·rintro ⟨s,hs,q⟩
  refine ⟨s,hs,?_⟩
  have:=h s hs
  simp only[Bool.and_eq_true,decide_eq_true_eq] at q ⊢
  ac_rfl
 ·rintro ⟨s,hs,q⟩
  refine ⟨s,hs,?_⟩
  have:=h s hs
  simp only[Bool.and_eq_true,decide_eq_true_eq] at q ⊢
  ac_rfl
theorem zv5 {t l:List (Int × Int)} {ns:List Int} (hd:∀ d,d∈ns↔(0<d/\d<1000000)/\((∃ s∈t,d=s.1)\/∃ s∈l,d=s.1\/d=s.2)) {d:Int} (d0:0<=d) (d1:d<=999999) :
  valOf (((0:Int)::ns).map fun k=>(k,chv t l k)) d=chv t l d:=by
 obtain ⟨m,hm,top⟩:=zo7 ((0::ns).filter fun k=>decide (k<=d)) (by
  intro z
  have:=yci.mp z 0 yam
  simp at this
  ac_rfl)
 obtain ⟨hm1,hm2⟩:=yap.mp hm
 have md:m<=d:=by simpa using hm2
 have top':∀ k∈(0:Int)::ns,k<=d->k<=m:=fun k hk z=>top k (yap.mpr ⟨hk,by simpa using z⟩)
 have k0:∀ k∈(0:Int)::ns,0<=k:=fun k hk=>by
  rcases yal.mp hk with rfl | hk
  ·exact yea _
  ·have:=((hd k).mp hk).1
   ac_rfl
 have m0:=k0 m hm1
 rw[zue k0 hm1 md top']
 have key:∀ x:Int,((∃ s∈t,x=s.1)\/∃ s∈l,x=s.1\/x=s.2)->(x<=d↔x<=m):=fun x hx=>⟨fun z=>by
  by_cases x0:0<x
  ·exact top' x (yak _ ((hd x).mpr ⟨⟨x0,by ac_rfl⟩,hx⟩)) z
  ·ac_rfl,fun z=>by ac_rfl⟩
 unfold chv
 rw[zsZ (d:=d) (m:=m) fun s hs=>⟨key s.1 (.inr ⟨s,hs,.inl rfl⟩),key s.2 (.inr ⟨s,hs,.inr rfl⟩)⟩,zeK (d:=d) (m:=m) fun s hs=>key s.1 (.inl ⟨s,hs,rfl⟩)]
noncomputable def kdN (n:Int):Kd:=(fun c:Int=>if c=0 then .plain else if c=1 then .bank else if c=2 then .thirty else .exact) (n % 4)
structure Kinder (b c:BkT):Prop where
 kd:b.kd=c.kd
 outs:b.outs=c.outs
 turns:∀ d∈b.turns,d∈c.turns
 pays:∀ d:Int,0<=d->d<=999999->upto c.pays d<=upto b.pays d
 fees:∀ d:Int,0<=d->d<=999999->upto b.fees d<=upto c.fees d
 dues:∀ d:Int,0<=d->d<=999999->upto b.dues (d-b.g)<=upto c.dues (d-c.g)
 rates:∀ d:Int,0<=d->d<=999999->chv b.rates b.spans d<=chv c.rates c.spans d
 lates:∀ d:Int,0<=d->d<=999999->chv b.lates b.spans d<=chv c.lates c.spans d
theorem znD:∀ l r:List (Int × Int),PyData.eqvAll (l.map zil) (r.map zil)=decide (l=r)
 | [],[]=>rfl
 | [],_::_=>rfl
 | _::_,[]=>rfl
 | s::l,u::r=>by
  rw[ybb,ybb]
  unfold PyData.eqvAll
  rw[znD l r]
  obtain ⟨a,b⟩:=s
  obtain ⟨c,d⟩:=u
  show (PyData.eqv (.tuple [.int a,.int b]) (.tuple [.int c,.int d]) && decide (l=r))=_
  rw[Bool.eq_iff_iff]
  simp[PyData.eqv,PyData.eqvAll]
theorem ztg (l r:List (Int × Int)):PyData.eqv (.list (l.map zil)) (.list (r.map zil))=decide (l=r):=by
 show PyData.eqvAll _ _=_
 exact znD l r
end L2
namespace L2
open PySem Sums
noncomputable def tb {α:Type} (f:Nat->α):List α:=(yar 130).map f
def Th (n b:Int) (k:Ek) (d x:Int):Prop:=match k with
 | .out=>1<=x
 | .pay=>1<=x
 | .due=>1<=x
 | .rate=>0<=x/\x<=1000000
 | .late=>0<=x/\x<=1000000
 | .still=>d<x/\x<=b+79+n/\x<=1000000
 | .fee=>True
 | .turn=>True
 | .base=>False
noncomputable def zhY (g:Int) (es:List Er):List (Int × Int):=shf g (mvp (mvd (prs "still" es)) (prs "due" es))
theorem zuE (w:Str) (es:List Er) (e:Er):prs w (es++[e])=prs w es++if isW w e=true then [e.2] else []:=by
 unfold prs
 rw[ybc,yan]
 by_cases c:isW w e=true
 ·rw[yat c,if_pos c];rfl
 ·rw[yau c,if_neg c];rfl
theorem zhd:∀ k c:Ek,V.str k.word=V.str c.word->k=c:=by
 intro k c
 cases k <;> cases c <;> first | exact fun _=>rfl | (intro h;exact absurd h (by decide))
theorem zcw {k:Ek} {e:Er} (h:isW k.word e=true):e.1=k:=zhd _ _ (of_decide_eq_true h)
theorem LL.zvs {α:Type} {R:V->α->Prop} {vs:List V} {es:List α} (h:LL R vs es):∀ n,LL R (vs.drop n) (es.drop n):=by
 induction h with
 | nil=>intro n;rw[List.drop_nil,List.drop_nil];exact .nil
 | cons h k ih =>
  intro n
  cases n with
  | zero=>exact .cons h k
  | succ n=>exact ih n
theorem znA {lo:Int} {n:Nat} {ix:List Nat} {tt:TT} {te:TE} {σ:St} {l:Addr} {H:Hp} {R:Hp->Prop} (hl:H l=none) (hz:n<=sizeLine) (f:Nat->Bool)
  (ht:∀ (i:Nat) H' Q',i<n->Same H H'->Q' (f i) H'->tt (some (.int (lo+i))::capts σ ix) H' Q')
  (he:∀ (i:Nat) H' Q',i<n->f i=true->Same H H'->Q' (.int (lo+i)) H'->te (some (.int (lo+i))::capts σ ix) H' Q')
  (fin:R (upd H l (.lst (((yar n).filter f).map fun i:Nat=>V.int (lo+i))))) :
  ∃ W:Nat->Nat->List V->Hp->Prop,(∃ m,W 0 m [] (upd H l (.lst [])))/\zgm ix tt te σ (Itr lo n) l R W:=by
 refine ⟨fun i m ys H'=>m=n-i/\i<=n/\ys=((yar i).filter f).map (fun i:Nat=>V.int (lo+i))/\H'=upd H l (.lst ys),⟨n,by simp,ydf _,rfl,rfl⟩,?_⟩
 rintro i m ys H' ⟨rfl,hi,hy,rfl⟩
 refine ⟨zf,?_⟩
 by_cases hlt:i<n
 ·have yl:ys.length<=i:=by
   rw[hy,yab]
   exact ydh (yav _ _) (by rw[ycg];exact ydc _)
  refine .inr ⟨hlt,by ac_rfl,fun x H2 y=>?_⟩
  obtain ⟨rfl,rfl⟩:=y
  have sH:=zc hl (.lst ys)
  refine ht i _ _ hlt sH ?_
  cases b:f i with
  | true =>
   rw[if_pos rfl]
   refine he i _ _ hlt b sH ⟨zf,n-(i+1),by ac_rfl,rfl,hlt,?_,by rw[zX]⟩
   rw[hy,yda,ybc,yan,yat b]
   rfl
  | false =>
   rw[if_neg Bool.false_ne_true]
   refine ⟨n-(i+1),by ac_rfl,rfl,hlt,?_,rfl⟩
   rw[hy,yda,ybc,yan,yau (by rw[b];decide)]
   simp
 ·obtain rfl:i=n:=by ac_rfl
  exact .inl ⟨by show i<=i;ac_rfl,by rw[hy];exact fin⟩
theorem znX:∀ a b:List Int,PyData.eqvAll (a.map PyData.int) (b.map PyData.int)=decide (a=b)
 | [],[]=>rfl
 | [],_::_=>rfl
 | _::_,[]=>rfl
 | x::a,y::b=>by
  rw[ybb,ybb]
  unfold PyData.eqvAll
  rw[znX a b,Bool.eq_iff_iff]
  simp[PyData.eqv]
theorem zpi (a b:List Int):PyData.eqv (.list (a.map PyData.int)) (.list (b.map PyData.int))=decide (a=b):=by
 show PyData.eqvAll _ _=_
 exact znX a b
end L2
namespace L2
open PySem Sums
theorem ziU {c:BkT} (I:zbb c) {w:Str} {t:List (Int × Int)} (T:Stills.TabOf (prs w c.es) t) (d:Int):chv t c.spans d=chv (prs w c.es) (prs "still" c.es) d:=by
 have e:Spans.isIn c.spans d=Spans.isIn (prs "still" c.es) d:=by
  rw[Bool.eq_iff_iff,Spans.za7,Spans.za7]
  exact I.spans.2 d
 unfold chv
 rw[e,T.val]
end L2
namespace L2
open PySem Sums
theorem zo1 (l r:List (Int × Int)) (d:Int):upto (l++r) d=upto l d+upto r d:=by
 unfold upto
 rw[ybc,yan,List.sum_append]
theorem zbl (w:Str) (es fs:List Er):prs w (es++fs)=prs w es++prs w fs:=by
 unfold prs
 rw[ybc,yan]
theorem zjh (w:Str) (e:Er) (es:List Er):prs w (e::es)=(if isW w e=true then [e.2] else [])++prs w es:=by
 unfold prs
 by_cases c:isW w e=true
 ·rw[yat c,if_pos c];rfl
 ·rw[yau c,if_neg c];rfl
theorem zvL (w:Str) (es fs:List Er):dys w (es++fs)=dys w es++dys w fs:=by
 unfold dys
 rw[ybc,yan]
structure za1 (g:Int) (es es':List Er):Prop where
 outs:prs "out" es=prs "out" es'
 turns:∀ d∈dys "turn" es,d∈dys "turn" es'
 pays:∀ d,upto (prs "pay" es') d<=upto (prs "pay" es) d
 fees:∀ d,upto (prs "fee" es) d<=upto (prs "fee" es') d
 dues:∀ d,upto (zhY g es) d<=upto (zhY g es') d
 rates:∀ d,chv (prs "rate" es) (prs "still" es) d<=chv (prs "rate" es') (prs "still" es') d
 lates:∀ d,chv (prs "late" es) (prs "still" es) d<=chv (prs "late" es') (prs "still" es') d
theorem za1.refl (g:Int) (es:List Er):za1 g es es:=⟨rfl,fun _ h=>h,fun _=>yea _,fun _=>yea _,fun _=>yea _,fun _=>yea _,fun _=>yea _⟩
theorem za1.trans {g:Int} {a b c:List Er} (h:za1 g a b) (k:za1 g b c):za1 g a c :=
 ⟨h.outs.trans k.outs,fun d hd=>k.turns d (h.turns d hd),fun d=>yee (k.pays d) (h.pays d),fun d=>yee (h.fees d) (k.fees d),fun d=>yee (h.dues d) (k.dues d),fun d=>yee (h.rates d) (k.rates d),fun d=>yee (h.lates d) (k.lates d)⟩
theorem zvz {r r' l:List (Int × Int)} (T:Sby.Tab r l) (T':Sby.Tab r' l):r=r':=by
 have kk:r.map (·.1)=r'.map (·.1):=Sby.zwK T.up T'.up fun d=>by rw[T.mem,T'.mem]
 have rr:∀ {r l:List (Int × Int)},Sby.Tab r l->r=(r.map (·.1)).map fun d=>(d,Sby.sm l d):=fun {r l} T=>by
  rw[ybn]
  conv=>lhs;rw[<-List.map_id r]
  exact ybu fun s hs=>by
   show s=(s.1,Sby.sm l s.1)
   rw[<-T.val s hs]
 rw[rr T,rr T',kk]
theorem zw2 {k:Ek} {w:Ek} {d x:Int} (h:k≠w):isW w.word (k,d,x)=false:=by
 cases e:isW w.word (k,d,x) with
 | false=>rfl
 | true=>exact absurd (zcw e) h
theorem zdc {A B:List Er} {k w:Ek} {d x:Int} (h:k≠w):prs w.word (A++(k,d,x)::B)=prs w.word (A++B):=by
 rw[zbl,zbl,zjh,if_neg (by rw[zw2 h];decide)]
 rfl
theorem zbz {A B:List Er} {k:Ek} {d x:Int}:prs k.word (A++(k,d,x)::B)=prs k.word A++(d,x)::prs k.word B:=by
 rw[zbl,zjh,if_pos (show isW k.word (k,d,x)=true from decide_eq_true rfl)]
 rfl
theorem zdU (l r:List (Int × Int)) (z x d:Int):upto (l++(z,x)::r) d=upto (l++r) d+if z<=d then x else 0:=by
 rw[zo1,zcx,zo1]
 show upto l d+((if z<=d then x else 0)+upto r d)=_
 ac_rfl
theorem zpF {l r:List (Int × Int)} (h:∀ d,Spans.Cov l d->Spans.Cov r d) {d e:Int} (de:d<=e):mvd l d<=mvd r e:=by
 have a:=zkL l d
 have b:=zkL r e
 rcases Int.lt_or_le (mvd r e) (mvd l d) with q | q
 ·exact absurd (h _ (a.all _ (yee de b.from_) q)) b.out
 ·exact q
theorem zpj {f f':Int->Int} (h:∀ d,f d<=f' d):∀ {l:List (Int × Int)},(∀ s∈l,0<=s.2)->∀ d,upto (l.map fun s=>(f' s.1,s.2)) d<=upto (l.map fun s=>(f s.1,s.2)) d
 | [],_,d=>yea _
 | s::l,p,d=>by
  have ih:=zpj h (l:=l) (fun x hx=>p x (yak _ hx)) d
  have p0:=p s yam
  have hs:=h s.1
  rw[ybb,ybb,zcx,zcx]
  show (if f' s.1<=d then s.2 else 0)+_<=(if f s.1<=d then s.2 else 0)+_
  by_cases c:f' s.1<=d
  ·rw[if_pos c,if_pos (by ac_rfl)];ac_rfl
  ·rw[if_neg c]
   split <;> ac_rfl
theorem zci (g:Int) (es:List Er):zhY g es=(prs "due" es).map fun s=>(mvd (prs "still" es) s.1+g,s.2):=by
 unfold zhY shf mvp
 rw[ybn]
 rfl
theorem zqg {d:Int}:∀ (t:List (Int × Int)) (s s':Int × Int),s.1=s'.1->s.2<=s'.2->(t.foldl (vstep d) s).2<=(t.foldl (vstep d) s').2
 | [],_,_,_,h=>h
 | r::t,s,s',e,h=>by
  rw[ybh,ybh]
  unfold vstep
  rw[<-e]
  by_cases c:s.1<=r.1/\r.1<=d
  ·rw[if_pos c,if_pos c]
   exact yea _
  ·rw[if_neg c,if_neg c]
   exact zqg t s s' e h
theorem zvc (A B:List (Int × Int)) {z x y:Int} (h:x<=y) (d:Int):valOf (A++(z,x)::B) d<=valOf (A++(z,y)::B) d:=by
 unfold valOf
 rw[ych,ych,ybh,ybh]
 generalize A.foldl (vstep d) (-1,0)=s
 refine zqg B _ _ ?_ ?_
 ·unfold vstep
  dsimp only
  split <;> rfl
 ·unfold vstep
  dsimp only
  split
  ·exact h
  ·exact yea _
theorem zwi {t:List (Int × Int)} (p:∀ s∈t,0<=s.2) (d:Int):0<=valOf t d:=by
 unfold valOf
 suffices h:∀ (t:List (Int × Int)) (s:Int × Int),(∀ s∈t,0<=s.2)->0<=s.2->0<=(t.foldl (vstep d) s).2 from h t _ p (yea _)
 intro t
 induction t with
 | nil=>intro s _ h;exact h
 | cons r t ih =>
  intro s p h
  rw[ybh]
  refine ih _ (fun x hx=>p x (yak _ hx)) ?_
  unfold vstep
  split
  ·exact p r yam
  ·exact h
theorem ziA (w:Str) (es:List Er):dys w es=(prs w es).map (·.1):=by
 unfold dys prs
 rw[ybn]
 rfl
theorem zcS {g:Int} {es es':List Er} (w0:Ek) (hs:∀ w:Ek,w≠w0->prs w.word es=prs w.word es') (ho:w0≠.out)
  (ht:w0=.turn->∀ d∈dys "turn" es,d∈dys "turn" es') (hp:w0=.pay->∀ d,upto (prs "pay" es') d<=upto (prs "pay" es) d) (hf:w0=.fee->∀ d,upto (prs "fee" es) d<=upto (prs "fee" es') d)
  (hd:w0=.due\/w0=.still->∀ d,upto (zhY g es) d<=upto (zhY g es') d) (hr:∀ w:Ek,(w=.rate\/w=.late)->(w0=w\/w0=.still)->∀ d,chv (prs w.word es) (prs "still" es) d<=chv (prs w.word es') (prs "still" es') d):za1 g es es' where
 outs:=hs .out (fun z=>ho z.symm)
 turns:=by
  by_cases c:w0=.turn
  ·exact ht c
  ·rw[ziA,ziA,show prs "turn" es=prs "turn" es' from hs .turn fun z=>c z.symm]
   exact fun _ h=>h
 pays:=by
  by_cases c:w0=.pay
  ·exact hp c
  ·intro d
   rw[show prs "pay" es=prs "pay" es' from hs .pay fun z=>c z.symm]
   exact yea _
 fees:=by
  by_cases c:w0=.fee
  ·exact hf c
  ·intro d
   rw[show prs "fee" es=prs "fee" es' from hs .fee fun z=>c z.symm]
   exact yea _
 dues:=by
  by_cases c:w0=.due\/w0=.still
  ·exact hd c
  ·intro d
   rw[zci,zci,show prs "due" es=prs "due" es' from hs .due fun z=>c (.inl z.symm),show prs "still" es=prs "still" es' from hs .still fun z=>c (.inr z.symm)]
   exact yea _
 rates:=by
  by_cases c:w0=.rate\/w0=.still
  ·exact hr .rate (.inl rfl) c
  ·intro d
   rw[show prs "rate" es=prs "rate" es' from hs .rate fun z=>c (.inl z.symm),show prs "still" es=prs "still" es' from hs .still fun z=>c (.inr z.symm)]
   exact yea _
 lates:=by
  by_cases c:w0=.late\/w0=.still
  ·exact hr .late (.inr rfl) c
  ·intro d
   rw[show prs "late" es=prs "late" es' from hs .late fun z=>c (.inl z.symm),show prs "still" es=prs "still" es' from hs .still fun z=>c (.inr z.symm)]
   exact yea _
section
variable {g:Int} {A B:List Er} {z z' x x':Int}
theorem zeE {k:Ek} (w:Ek) (h:w≠k):prs w.word (A++(k,z',x')::B)=prs w.word (A++(k,z,x)::B):=by rw[zdc fun y=>h y.symm,zdc fun y=>h y.symm]
theorem zv0 (hz:z'<=z) (hx:x<=x') (h0:0<=x'):za1 g (A++(.pay,z',x')::B) (A++(.pay,z,x)::B):=by
 refine zcS .pay zeE (by intro y;cases y) (fun y=>by cases y) (fun _ d=>?_) (fun y=>by cases y) (fun y=>by rcases y with y | y <;> cases y) (fun w hw y=>by rcases y with rfl | y;(rcases hw with y | y <;> cases y);cases y)
 rw[show ("pay" : Str)=Ek.pay.word from rfl,zbz,zbz,zdU,zdU]
 by_cases c:z<=d
 ·rw[if_pos c,if_pos (by ac_rfl)];ac_rfl
 ·rw[if_neg c]
  split <;> ac_rfl
theorem zux (h0:0<=x'):za1 g (A++(.pay,z',x')::B) (A++B):=by
 refine zcS .pay (fun w hw=>zdc fun y=>hw y.symm) (by intro y;cases y) (fun y=>by cases y) (fun _ d=>?_) (fun y=>by cases y) (fun y=>by rcases y with y | y <;> cases y) (fun w hw y=>by rcases y with rfl | y;(rcases hw with y | y <;> cases y);cases y)
 rw[show ("pay" : Str)=Ek.pay.word from rfl,zbz,zbl,zdU]
 split <;> ac_rfl
theorem zvY (hx:x'<=x):za1 g (A++(.fee,z,x')::B) (A++(.fee,z,x)::B):=by
 refine zcS .fee zeE (by intro y;cases y) (fun y=>by cases y) (fun y=>by cases y) (fun _ d=>?_) (fun y=>by rcases y with y | y <;> cases y) (fun w hw y=>by rcases y with rfl | y;(rcases hw with y | y <;> cases y);cases y)
 rw[show ("fee" : Str)=Ek.fee.word from rfl,zbz,zbz,zdU,zdU]
 split <;> ac_rfl
theorem zuL (hx:x'<=0):za1 g (A++(.fee,z,x')::B) (A++B):=by
 refine zcS .fee (fun w hw=>zdc fun y=>hw y.symm) (by intro y;cases y) (fun y=>by cases y) (fun y=>by cases y) (fun _ d=>?_) (fun y=>by rcases y with y | y <;> cases y) (fun w hw y=>by rcases y with rfl | y;(rcases hw with y | y <;> cases y);cases y)
 rw[show ("fee" : Str)=Ek.fee.word from rfl,zbz,zbl,zdU]
 split <;> ac_rfl
theorem zuH:za1 g (A++B) (A++(.turn,z,x)::B):=by
 refine zcS .turn (fun w hw=>(zdc fun y=>hw y.symm).symm) (by intro y;cases y) (fun _ d hd=>?_) (fun y=>by cases y) (fun y=>by cases y) (fun y=>by rcases y with y | y <;> cases y) (fun w hw y=>by rcases y with rfl | y;(rcases hw with y | y <;> cases y);cases y)
 rw[zvL] at hd ⊢
 rcases yag.mp hd with h | h
 ·exact ybg _ h
 ·refine yai _ ?_
  rw[ziA] at h ⊢
  rw[zjh,yan]
  exact yai _ h
theorem zuJ {k:Ek} (hk:k=.rate\/k=.late) (hx:x'<=x):za1 g (A++(k,z,x')::B) (A++(k,z,x)::B):=by
 refine zcS k zeE (by rcases hk with rfl | rfl <;> (intro y;cases y)) (fun y=>by rcases hk with rfl | rfl <;> cases y) (fun y=>by rcases hk with rfl | rfl <;> cases y) (fun y=>by rcases hk with rfl | rfl <;> cases y) (fun y=>by rcases hk with rfl | rfl <;> (rcases y with y | y <;> cases y)) (fun w _ y d=>?_)
 have kw:k=w:=by
  rcases y with y | y
  ·exact y
  ·rcases hk with rfl | rfl <;> cases y
 subst kw
 have st:prs "still" (A++(k,z,x')::B)=prs "still" (A++(k,z,x)::B):=zeE .still (by rcases hk with rfl | rfl <;> (intro y;cases y))
 unfold chv
 rw[st,zbz,zbz]
 split
 ·exact yea _
 ·exact zvc _ _ hx d
theorem zv9 (hz:z<=z') (hx:x'<=x) (h0:0<=x):za1 g (A++(.due,z',x')::B) (A++(.due,z,x)::B):=by
 refine zcS .due zeE (by intro y;cases y) (fun y=>by cases y) (fun y=>by cases y) (fun y=>by cases y) (fun _ d=>?_) (fun w hw y=>by rcases y with rfl | y;(rcases hw with y | y <;> cases y);cases y)
 have st:prs "still" (A++(.due,z',x')::B)=prs "still" (A++(.due,z,x)::B):=zeE .still (by intro y;cases y)
 rw[zci,zci,st,show ("due" : Str)=Ek.due.word from rfl,zbz,zbz,yan,yan,ybb,ybb,zdU,zdU]
 have m:=zpF (l:=prs "still" (A++(.due,z,x)::B)) (r:=prs "still" (A++(.due,z,x)::B)) (fun _ h=>h) hz
 dsimp only
 by_cases c:mvd (prs "still" (A++(.due,z,x)::B)) z'+g<=d
 ·rw[if_pos c,if_pos (by ac_rfl)];ac_rfl
 ·rw[if_neg c]
  split <;> ac_rfl
theorem zvd (h0:0<=x):za1 g (A++B) (A++(.due,z,x)::B):=by
 refine zcS .due (fun w hw=>(zdc fun y=>hw y.symm).symm) (by intro y;cases y) (fun y=>by cases y) (fun y=>by cases y) (fun y=>by cases y) (fun _ d=>?_) (fun w hw y=>by rcases y with rfl | y;(rcases hw with y | y <;> cases y);cases y)
 have st:prs "still" (A++(.due,z,x)::B)=prs "still" (A++B):=zdc (w:=.still) (by intro y;cases y)
 rw[zci,zci,st,show ("due" : Str)=Ek.due.word from rfl,zbz,zbl Ek.due.word A B,yan,yan,ybb,zdU]
 split <;> ac_rfl
theorem ztW {es:List Er} (hd:∀ s∈prs "due" es,0<=s.2) (hr:∀ w:Ek,(w=.rate\/w=.late)->∀ s∈prs w.word es,0<=s.2):za1 g ((.still,z,x)::es) es:=by
 have cv:∀ d,Spans.Cov (prs "still" es) d->Spans.Cov (prs "still" ((.still,z,x)::es)) d:=fun d ⟨s,hs,h⟩=>⟨s,by rw[zjh];exact yai _ hs,h⟩
 have no:∀ w:Ek,w≠.still->prs w.word ((.still,z,x)::es)=prs w.word es:=fun w hw=>zdc (A:=[]) fun y=>hw y.symm
 refine zcS .still no (by intro y;cases y) (fun y=>by cases y) (fun y=>by cases y) (fun y=>by cases y) (fun _ d=>?_) (fun w hw y d=>?_)
 ·rw[zci,zci,show prs "due" ((.still,z,x)::es)=prs "due" es from no .due (by intro y;cases y)]
  exact zpj (f:=fun t=>mvd (prs "still" es) t+g) (f':=fun t=>mvd (prs "still" ((.still,z,x)::es)) t+g) (fun t=>by have:=zpF cv (yea t);ac_rfl) hd d
 ·unfold chv
  rw[no w (by rcases hw with rfl | rfl <;> (intro y;cases y))]
  by_cases c:Spans.isIn (prs "still" es) d=true
  ·rw[if_pos c,if_pos (Spans.za7.mpr (cv d (Spans.za7.mp c)))]
   exact yea _
  ·rw[if_neg c]
   split
   ·exact zwi (hr w hw) d
   ·exact yea _
end
structure Sg (n b:Int) (e:Er):Prop where
 lo:b<=e.2.1
 hi:e.2.1<=b+59+8*n
 th:Th 0 b e.1 e.2.1 e.2.2
def Sgs (n b:Int) (es:List Er):Prop:=∀ e∈es,Sg n b e
theorem Sg.more {n m b:Int} {e:Er} (h:Sg n b e) (l:n<=m):Sg m b e:=⟨h.lo,by have:=h.hi;ac_rfl,h.th⟩
theorem Sg.nb {n b:Int} {e:Er} (h:Sg n b e):e.1≠.base:=fun z=>by
 have:=h.th
 rw[z] at this
 exact this
theorem Sgs.more {n m b:Int} {es:List Er} (h:Sgs n b es) (l:n<=m):Sgs m b es:=fun e he=>(h e he).more l
theorem Sgs.app {n b:Int} {es fs:List Er} (h:Sgs n b es) (k:Sgs n b fs):Sgs n b (es++fs):=fun e he=>(yag.mp he).elim (h e) (k e)
theorem Sgs.take {n b:Int} {es:List Er} (h:Sgs n b es) (m:Nat):Sgs n b (es.take m):=fun e he=>h e (List.mem_of_mem_take he)
theorem Sgs.drop {n b:Int} {es:List Er} (h:Sgs n b es) (m:Nat):Sgs n b (es.drop m):=fun e he=>h e (List.mem_of_mem_drop he)
theorem Sgs.one {n b:Int} {e:Er} (h:Sg n b e):Sgs n b [e]:=fun x hx=>by rw[yba.mp hx];exact h
theorem Sgs.due {n b:Int} {es:List Er} (h:Sgs n b es):∀ s∈prs "due" es,0<=s.2:=fun s hs=>by
 obtain ⟨e,he,rfl⟩:=yaf.mp hs
 obtain ⟨x1,x2⟩:=yap.mp he
 have:=(h e x1).th
 rw[zcw (k:=.due) x2] at this
 have:1<=e.2.2:=this
 ac_rfl
theorem Sgs.rate {n b:Int} {es:List Er} (h:Sgs n b es):∀ w:Ek,(w=.rate\/w=.late)->∀ s∈prs w.word es,0<=s.2/\s.2<=1000000:=fun w hw s hs=>by
 obtain ⟨e,he,rfl⟩:=yaf.mp hs
 obtain ⟨x1,x2⟩:=yap.mp he
 have:=(h e x1).th
 rw[zcw x2] at this
 rcases hw with rfl | rfl <;> exact this
end L2
namespace L2
open PySem Sums
structure zm0 (es es':List Er):Prop where
 same:∀ w:Ek,w≠.out->prs w.word es'=prs w.word es
 keys:∀ k,k∈(prs "out" es').map (·.1)↔k∈(prs "out" es).map (·.1)
 sums:∀ k,Sby.sm (prs "out" es') k=Sby.sm (prs "out" es) k
theorem zm0.refl (es:List Er):zm0 es es:=⟨fun _ _=>rfl,fun _=>Iff.rfl,fun _=>rfl⟩
theorem zt1 {A B:List Er} {z x p:Int}:zm0 (A++(.out,z,x)::B) (A++[(.out,z,p)]++B++[(.out,z,x-p)]):=by
 have e1:prs "out" (A++(.out,z,x)::B)=prs "out" A++(z,x)::prs "out" B:=zbz (k:=.out)
 have e2:prs "out" (A++[(.out,z,p)]++B++[(.out,z,x-p)])=prs "out" A++(z,p)::prs "out" B++[(z,x-p)]:=by
  rw[zbl,zbl,zbl]
  show prs "out" A++[(z,p)]++prs "out" B++[(z,x-p)]=_
  rw[ycb (prs "out" A) [(z,p)]]
  rfl
 refine ⟨fun w hw=>?_,fun k=>?_,fun k=>?_⟩
 ·have n:∀ y,prs w.word [(.out,z,y)]=[]:=fun y=>zdc (A:=[]) (B:=[]) fun q=>hw q.symm
  rw[zdc (A:=A) (B:=B) (fun q=>hw q.symm),zbl,zbl,zbl,n,n,zbl w.word A B,ybl,ybl]
 ·rw[e1,e2]
  simp only[yan,ybb,List.map_nil,yag,yal,ybx,or_false]
  constructor
  ·rintro ((h | h | h) | h)
   ·exact .inl h
   ·exact .inr (.inl h)
   ·exact .inr (.inr h)
   ·exact .inr (.inl h)
  ·rintro (h | h | h)
   ·exact .inl (.inl h)
   ·exact .inl (.inr (.inl h))
   ·exact .inl (.inr (.inr h))
 ·rw[e1,e2,zqf,zqf,zqf,zck,zck,zck]
  have:Sby.sm [] k=0:=rfl
  rw[this]
  dsimp only
  split <;> ac_rfl
structure zgP (g g':Int) (es es':List Er):Prop where
 keys:∀ k,k∈(prs "out" es).map (·.1)↔k∈(prs "out" es').map (·.1)
 sums:∀ k,Sby.sm (prs "out" es) k=Sby.sm (prs "out" es') k
 turns:∀ d∈dys "turn" es,d∈dys "turn" es'
 pays:∀ d,upto (prs "pay" es') d<=upto (prs "pay" es) d
 fees:∀ d,upto (prs "fee" es) d<=upto (prs "fee" es') d
 dues:∀ d,upto (zhY g es) d<=upto (zhY g' es') d
 rates:∀ d,chv (prs "rate" es) (prs "still" es) d<=chv (prs "rate" es') (prs "still" es') d
 lates:∀ d,chv (prs "late" es) (prs "still" es) d<=chv (prs "late" es') (prs "still" es') d
theorem zgP.of {g g1:Int} {es es0 es':List Er} (h:za1 g es0 es') (o:zm0 es0 es) (gg:g<=g1) (nn:∀ s∈prs "due" es0,0<=s.2):zgP g1 g es es':=by
 have st:prs "still" es=prs "still" es0:=o.same .still (by intro z;cases z)
 have du:prs "due" es=prs "due" es0:=o.same .due (by intro z;cases z)
 have pa:prs "pay" es=prs "pay" es0:=o.same .pay (by intro z;cases z)
 have fe:prs "fee" es=prs "fee" es0:=o.same .fee (by intro z;cases z)
 have ra:prs "rate" es=prs "rate" es0:=o.same .rate (by intro z;cases z)
 have la:prs "late" es=prs "late" es0:=o.same .late (by intro z;cases z)
 have tu:prs "turn" es=prs "turn" es0:=o.same .turn (by intro z;cases z)
 refine ⟨fun k=>by rw[o.keys,h.outs],fun k=>by rw[o.sums,h.outs],fun d hd=>?_,fun d=>by rw[pa];exact h.pays d,fun d=>by rw[fe];exact h.fees d,fun d=>?_,fun d=>by rw[ra,st];exact h.rates d,fun d=>by rw[la,st];exact h.lates d⟩
 ·rw[ziA,tu,<-ziA] at hd
  exact h.turns d hd
 ·refine yee ?_ (h.dues d)
  rw[zci,zci,st,du]
  exact zpj (f:=fun t=>mvd (prs "still" es0) t+g) (f':=fun t=>mvd (prs "still" es0) t+g1) (fun t=>by ac_rfl) nn d
theorem zvP {r r' l l':List (Int × Int)} (T:Sby.Tab r l) (T':Sby.Tab r' l') (hk:∀ k,k∈l.map (·.1)↔k∈l'.map (·.1)) (hs:∀ k,Sby.sm l k=Sby.sm l' k):r=r' :=
 zvz T ⟨T'.up,fun k=>(T'.mem k).trans (hk k).symm,fun p hp=>(T'.val p hp).trans (hs p.1).symm⟩
theorem zgP.kinder {c c':BkT} (I:zbb c) (I':zbb c') (ek:c.kd=c'.kd) (h:zgP c.g c'.g c.es c'.es):Kinder c c' where
 kd:=ek
 outs:=zvP I.outs I'.outs h.keys h.sums
 turns:=fun d hd=>(I'.turns.mem d).mpr (h.turns d ((I.turns.mem d).mp hd))
 pays:=fun d _ _=>by rw[zaI I.pays,zaI I'.pays];exact h.pays d
 fees:=fun d _ _=>by rw[zaI I.fees,zaI I'.fees];exact h.fees d
 dues:=fun d _ _=>by
  have:=h.dues d
  unfold zhY at this
  rwa [zb7,zb7,<-zaI I.dues,<-zaI I'.dues] at this
 rates:=fun d _ _=>by rw[ziU I I.rates.1,ziU I' I'.rates.1];exact h.rates d
 lates:=fun d _ _=>by rw[ziU I I.lates.1,ziU I' I'.lates.1];exact h.lates d
theorem zgP.kin {g g' f:Int} {es es':List Er} (h:zgP g g' es es') (f0:0<=f) (o:∀ e∈es,OkA f e) (o':∀ e∈es',OkA f e):Kin g g' es es':=by
 refine ⟨fun d=>h.sums d,fun d=>zvQ o d,fun d=>by have:=h.fees d;ac_rfl,fun d=>by have:=h.pays d;ac_rfl,fun d=>h.turns d,fun e he=>by have:=(o e he).day;ac_rfl,fun e he=>by have:=(o' e he).day;ac_rfl,fun P1 P2 d q0 q1=>⟨zxD f0 o q0 d,?_⟩⟩
 obtain ⟨r0,l0⟩:=rt0 f0 o d
 have r1:rtE es d<=rtE es' d:=h.rates d
 have l1:ltE es d<=ltE es' d:=h.lates d
 have k0:∀ (g:Int) (es:List Er),0<=lkE g es d:=fun g es=>by
  unfold lkE p0
  split
  ·exact yea _
  ·split <;> ac_rfl
 have k2:=k0 g' es'
 have m2:0<=mn P2 (lkE g' es' d):=by unfold mn;split <;> ac_rfl
 unfold zgW
 have a:=Int.mul_le_mul r1 q1 q0 (yee r0 r1)
 by_cases z:ltE es d=0
 ·rw[z,Int.zero_mul]
  have:=yed (yee l0 l1) m2
  ac_rfl
 ·have n1:Spans.isIn (prs "still" es) d=false:=by
   rw[Bool.eq_false_iff]
   intro q
   exact z (by unfold ltE;rw[if_pos q])
  have n2:Spans.isIn (prs "still" es') d=false:=by
   rw[Bool.eq_false_iff]
   intro q
   have:ltE es' d=0:=by unfold ltE;rw[if_pos q]
   ac_rfl
  have lk:lkE g es d<=lkE g' es' d:=by
   unfold lkE
   rw[n1,n2]
   have p:=h.pays d
   have u:=h.dues d
   unfold zhY at u
   rw[zb7,zb7] at u
   show p0 _<=p0 _
   unfold p0
   split <;> split <;> ac_rfl
  have m:mn P1 (lkE g es d)<=mn P2 (lkE g' es' d):=by
   unfold mn
   split <;> split <;> ac_rfl
  have m1:0<=mn P1 (lkE g es d):=by
   have:=k0 g es
   unfold mn
   split <;> ac_rfl
  have b:=Int.mul_le_mul l1 m m1 (yee l0 l1)
  ac_rfl
noncomputable def gE (es es':List Er) (d:Int):Int:=upto (prs "pay" es) d-upto (prs "pay" es') d+(upto (prs "fee" es') d-upto (prs "fee" es) d)
theorem zgP.owes {U:Int->Int} {u g g' f:Int} {es es':List Er} (h:zgP g g' es es') (hu:0<u) (up:∀ d:Nat,U d<=U (d+1)) (f0:0<=f) (o:∀ e∈es,OkA f e) (o':∀ e∈es',OkA f e) (k:Nat) :
  0<=gE es es' k/\(saE U u g es k).1<=(saE U u g' es' k).1/\(saE U u g es k).2<=(saE U u g' es' k).2-gE es es' k*u/\(saE U u g es k).2 / u<=(saE U u g' es' k).2 / u-gE es es' k:=by
 have T:=zvK (U:=U) hu up (h.kin f0 o o') k
 refine ⟨?_,T.m,?_,T.owed hu⟩
 ·have:=T.a0
  have:=T.a1
  unfold gE
  ac_rfl
 ·have:=T.n
  rwa [Int.mul_comm] at this
theorem Sg.okA {n b:Int} {e:Er} (h:Sg n b e):OkA b e:=by
 have t:=h.th
 refine ⟨h.lo,fun z=>?_,fun z=>?_,fun z=>?_⟩
 ·rw[zcw (k:=.rate) z] at t
  exact t
 ·rw[zcw (k:=.late) z] at t
  exact t
 ·rw[zcw (k:=.out) z] at t
  have:1<=e.2.2:=t
  ac_rfl
end L2
namespace Cal
def leap (y:Int):Bool:=decide (y % 4=0) && (!decide (y % 100=0) || decide (y % 400=0))
noncomputable def lp (y:Int):Int:=if leap y=true then 1 else 0
noncomputable def mlen (y m:Int):Int:=if m=2 then 28+lp y else 31-(m-1) % 7 % 2
noncomputable def ny (y:Int):Int:=365*(y-2000)+(y-2000+3) / 4-(y-2000+99) / 100+(y-2000+399) / 400
noncomputable def cum (y m:Int):Int :=
 if m=1 then 0 else if m=2 then 31 else
 lp y+(if m=3 then 59 else if m=4 then 90 else if m=5 then 120 else if m=6 then 151 else if m=7 then 181 else if m=8 then 212
  else if m=9 then 243 else if m=10 then 273 else if m=11 then 304 else 334)
noncomputable def num (y m d:Int):Int:=ny y+cum y m+d-1
structure zcE (y m d:Int):Prop where
 m1:1<=m
 m2:m<=12
 d1:1<=d
 d2:d<=mlen y m
theorem zw5 (y:Int):(lp y=1/\y % 4=0/\(y % 100≠0\/y % 400=0))\/(lp y=0/\(y % 4≠0\/(y % 100=0/\y % 400≠0))):=by
 unfold lp leap
 by_cases h1:y % 4=0 <;> by_cases h2:y % 100=0 <;> by_cases h3:y % 400=0 <;> simp[h1,h2,h3]
theorem zsC (y:Int):0<=lp y/\lp y<=1:=by
 rcases zw5 y with h | h <;> ac_rfl
theorem st4 (y:Int):(y+1-2000+3) / 4=(y-2000+3) / 4+(if y % 4=0 then 1 else 0):=by split <;> ac_rfl
theorem zxi (y:Int):(y+1-2000+99) / 100=(y-2000+99) / 100+(if y % 100=0 then 1 else 0):=by split <;> ac_rfl
theorem zxq (y:Int):(y+1-2000+399) / 400=(y-2000+399) / 400+(if y % 400=0 then 1 else 0):=by split <;> ac_rfl
theorem zw4 {y b d f p q r:Int}:365*(y+1-2000)+(b+p)-(d+q)+(f+r)=365*(y-2000)+b-d+f+365+(p-q+r):=by ac_rfl
theorem zw9 (y:Int):lp y=(if y % 4=0 then 1 else 0)-(if y % 100=0 then 1 else 0)+(if y % 400=0 then 1 else 0):=by
 have h1:y % 100=0->y % 4=0:=by ac_rfl
 have h2:y % 400=0->y % 100=0:=by ac_rfl
 unfold lp leap
 by_cases a:y % 4=0
 ·by_cases b:y % 100=0
  ·by_cases c:y % 400=0
   ·rw[if_pos a,if_pos b,if_pos c,decide_eq_true a,decide_eq_true b,decide_eq_true c];rfl
   ·rw[if_pos a,if_pos b,if_neg c,decide_eq_true a,decide_eq_true b,decide_eq_false c];rfl
  ·rw[if_pos a,if_neg b,if_neg (fun c=>b (h2 c)),decide_eq_true a,decide_eq_false b];rfl
 ·rw[if_neg a,if_neg (fun b=>a (h1 b)),if_neg (fun c=>a (h1 (h2 c))),decide_eq_false a];rfl
theorem zcL (y:Int):ny (y+1)=ny y+365+lp y:=by
 unfold ny
 rw[st4,zxi,zxq,zw9]
 exact zw4
noncomputable def znf (l m:Int):Int :=
 if m=1 then 0 else if m=2 then 31 else
 l+(if m=3 then 59 else if m=4 then 90 else if m=5 then 120 else if m=6 then 151 else if m=7 then 181 else if m=8 then 212
  else if m=9 then 243 else if m=10 then 273 else if m=11 then 304 else 334)
noncomputable def zk6 (l m:Int):Int:=if m=2 then 28+l else 31-(m-1) % 7 % 2
theorem zsT:∀ l:Bool,∀ k:Fin 12,(28<=zk6 l.toInt (k.val+1)/\zk6 l.toInt (k.val+1)<=31) /\
  (0<=znf l.toInt (k.val+1)/\znf l.toInt (k.val+1)+zk6 l.toInt (k.val+1)<=365+l.toInt) /\
  (k.val<11->znf l.toInt (k.val+1+1)=znf l.toInt (k.val+1)+zk6 l.toInt (k.val+1))/\znf l.toInt 12+zk6 l.toInt 12=365+l.toInt:=by decide
theorem lpB (y:Int):lp y=(leap y).toInt:=by unfold lp;cases leap y <;> rfl
theorem zuq {m:Int} (h1:1<=m) (h2:m<=12):∃ k:Fin 12,m=k.val+1:=⟨⟨(m-1).toNat,by ac_rfl⟩,by show m=((m-1).toNat:Int)+1;ac_rfl⟩
theorem zsR (y m:Int):cum y m=znf (leap y).toInt m:=by rw[<-lpB];rfl
theorem zoI (y m:Int):mlen y m=zk6 (leap y).toInt m:=by rw[<-lpB];rfl
theorem zl1 {y m:Int} (h1:1<=m) (h2:m<=11):cum y (m+1)=cum y m+mlen y m:=by
 obtain ⟨k,rfl⟩:=zuq h1 (yee h2 (by decide))
 rw[zsR,zsR,zoI]
 exact (zsT (leap y) k).2.2.1 (by ac_rfl)
theorem zk4 {y m:Int} (h1:1<=m) (h2:m<=12):28<=mlen y m/\mlen y m<=31:=by
 obtain ⟨k,rfl⟩:=zuq h1 h2
 rw[zoI]
 exact (zsT (leap y) k).1
theorem zma {y m:Int} (h1:1<=m) (h2:m<=12):0<=cum y m/\cum y m+mlen y m<=365+lp y:=by
 obtain ⟨k,rfl⟩:=zuq h1 h2
 rw[zsR,zoI,lpB]
 exact (zsT (leap y) k).2.1
theorem zpQ (y:Int):cum y 12+mlen y 12=365+lp y:=by
 rw[zsR,zoI,lpB]
 exact (zsT (leap y) 0).2.2.2
noncomputable def ms (M:Int):Int:=ny (M / 12)+cum (M / 12) (M % 12+1)
noncomputable def ml (M:Int):Int:=mlen (M / 12) (M % 12+1)
theorem zoN (M:Int):28<=ml M/\ml M<=31:=zk4 (by ac_rfl) (by ac_rfl)
theorem zrG (M:Int):ms (M+1)=ms M+ml M:=by
 unfold ms ml
 by_cases h:M % 12=11
 ·have e1:(M+1) / 12=M / 12+1:=by ac_rfl
  have e2:(M+1) % 12=0:=by ac_rfl
  rw[e1,e2,h,zcL]
  have:=zpQ (M / 12)
  simp only[show (11:Int)+1=12 by rfl]
  have e3:cum (M / 12+1) (0+1)=0:=by simp[cum]
  ac_rfl
 ·have e1:(M+1) / 12=M / 12:=by ac_rfl
  have e2:(M+1) % 12=M % 12+1:=by ac_rfl
  rw[e1,e2,zl1 (by ac_rfl) (by ac_rfl)]
  ac_rfl
theorem ztD (M:Int):∀ k:Nat,ms M+k<=ms (M+k)
 | 0=>by simp
 | k+1=>by
  have h:=ztD M k
  have h2:=zrG (M+k)
  have h3:=zoN (M+k)
  have e:M+((k+1:Nat):Int)=M+k+1:=by ac_rfl
  rw[e,h2];ac_rfl
theorem zwk {M N:Int} (h:M<=N):ms M+(N-M)<=ms N:=by
 have:=ztD M (N-M).toNat
 have e:M+((N-M).toNat:Int)=N:=by ac_rfl
 rw[e] at this;ac_rfl
theorem zkY {M N:Int} (h:M<N):ms M+ml M<=ms N:=by
 have:=zwk (show M+1<=N by ac_rfl)
 rw[zrG] at this;ac_rfl
theorem zg5 {y m d:Int} (h1:1<=m) (h2:m<=12):num y m d=ms (12*y+m-1)+d-1:=by
 unfold num ms
 rw[show (12*y+m-1) / 12=y by ac_rfl,show (12*y+m-1) % 12+1=m by ac_rfl]
theorem znp {y m:Int} (h1:1<=m) (h2:m<=12):ml (12*y+m-1)=mlen y m:=by
 unfold ml
 rw[show (12*y+m-1) / 12=y by ac_rfl,show (12*y+m-1) % 12+1=m by ac_rfl]
theorem zu6 {y m d y' m' d':Int} (h:zcE y m d) (h':zcE y' m' d') (e:num y m d=num y' m' d'):y=y'/\m=m'/\d=d':=by
 obtain ⟨a,b,c,f⟩:=h
 obtain ⟨a',b',c',f'⟩:=h'
 rw[zg5 a b,zg5 a' b'] at e
 rw[<-znp a b] at f
 rw[<-znp a' b'] at f'
 have h1:¬ (12*y+m-1<12*y'+m'-1):=fun q=>by have:=zkY q;ac_rfl
 have h2:¬ (12*y'+m'-1<12*y+m-1):=fun q=>by have:=zkY q;ac_rfl
 have h3:12*y+m-1=12*y'+m'-1:=by ac_rfl
 rw[h3] at e
 ac_rfl
theorem ztn (y:Int):∀ k:Nat,ny y+365*k<=ny (y+k)
 | 0=>by simp
 | k+1=>by
  have h:=ztn y k
  have h2:=zcL (y+k)
  have h3:=zsC (y+k)
  have e:y+((k+1:Nat):Int)=y+k+1:=by ac_rfl
  rw[e,h2];ac_rfl
theorem ziw {y z:Int} (h:y<=z):ny y+365*(z-y)<=ny z:=by
 have:=ztn y (z-y).toNat
 have e:y+((z-y).toNat:Int)=z:=by ac_rfl
 rw[e] at this;ac_rfl
theorem zwt:ny 2000=0:=by decide
theorem zmb {y m d:Int} (h:zcE y m d) (h0:0<=num y m d):2000<=y:=by
 have hc:=@zma y m h.m1 h.m2
 have:=h.d2
 have h1:=zcL y
 have h2:=zwt
 by_cases q:2000<=y
 ·exact q
 ·have:=ziw (show y+1<=2000 by ac_rfl)
  unfold num at h0
  ac_rfl
theorem zsf {d:Int}:ny (2000+d*400 / 146097-1)<=d:=by
 unfold ny;ac_rfl
theorem between {y1 m1 d1 y2 m2 d2 k:Int} (h1:zcE y1 m1 d1) (h2:zcE y2 m2 d2) (le:num y1 m1 d1<=num y2 m2 d2)
  (hk:k=if (if mlen y2 m2<d1 then mlen y2 m2 else d1) > d2 then 12*(y2-y1)+m2-m1-1 else 12*(y2-y1)+m2-m1) :
  0<=k/\∀ (P P' L L':Int),P=12*y1+m1-1+k->P'=P+1->(L=if ml P<d1 then ml P else d1)->(L'=if ml P'<d1 then ml P' else d1) ->
   ms P+L-1<=num y2 m2 d2/\num y2 m2 d2<ms P'+L'-1:=by
 obtain ⟨a1,b1,c1,e1⟩:=h1
 obtain ⟨a2,b2,c2,e2⟩:=h2
 rw[zg5 a1 b1,zg5 a2 b2] at le
 rw[zg5 a2 b2]
 rw[<-znp a1 b1] at e1
 rw[<-znp a2 b2] at e2 hk
 generalize hM1:12*y1+m1-1=M1 at *
 generalize hM2:12*y2+m2-1=M2 at *
 have hk':k=if (if ml M2<d1 then ml M2 else d1) > d2 then M2-M1-1 else M2-M1:=by
  rw[hk];split <;> ac_rfl
 have hle:M1<=M2:=by
  by_cases q:M1<=M2
  ·exact q
  ·have:=zkY (show M2<M1 by ac_rfl);ac_rfl
 have g:M1<M2\/M1=M2:=by ac_rfl
 have b2':=zoN M2
 constructor
 ·rcases g with g | g
  ·rw[hk'];split <;> ac_rfl
  ·subst g
   rw[hk',if_neg]
   ·ac_rfl
   ·split <;> ac_rfl
 ·intro P P' L L' hP hP' hL hL'
  have bP:=zoN P
  have bP':=zoN P'
  have hL1:1<=L/\L<=ml P:=by rw[hL];split <;> ac_rfl
  have hL1':1<=L'/\L'<=ml P':=by rw[hL'];split <;> ac_rfl
  by_cases q:(if ml M2<d1 then ml M2 else d1) > d2
  ·rw[if_pos q] at hk'
   have eP:P=M2-1:=by ac_rfl
   have eP':P'=M2:=by ac_rfl
   have:=zkY (show P<M2 by ac_rfl)
   rw[eP'] at hL' ⊢
   constructor
   ·ac_rfl
   ·rw[hL'];ac_rfl
  ·rw[if_neg q] at hk'
   have eP:P=M2:=by ac_rfl
   have eP':P'=M2+1:=by ac_rfl
   have:=zkY (show M2<P' by ac_rfl)
   rw[eP] at hL ⊢
   constructor
   ·rw[hL];ac_rfl
   ·ac_rfl
theorem zto {y m r:Int} (D:zcE y m r):∃ y' m' r',zcE y' m' r'/\num y' m' r'=num y m r+1:=by
 obtain ⟨a,b,c,d⟩:=D
 have l1:=@zk4 (y+1) 1 (by decide) (by decide)
 by_cases h:r<mlen y m
 ·exact ⟨y,m,r+1,⟨a,b,by ac_rfl,by ac_rfl⟩,by unfold num;ac_rfl⟩
 ·by_cases h2:m<=11
  ·have cs:=@zl1 y m a h2
   have l2:=@zk4 y (m+1) (by ac_rfl) (by ac_rfl)
   exact ⟨y,m+1,1,⟨by ac_rfl,by ac_rfl,by ac_rfl,by ac_rfl⟩,by unfold num;ac_rfl⟩
  ·have e:m=12:=by ac_rfl
   subst e
   have c12:=zpQ y
   have n1:=zcL y
   have c1:cum (y+1) 1=0:=by simp[cum]
   exact ⟨y+1,1,1,⟨by ac_rfl,by ac_rfl,by ac_rfl,by ac_rfl⟩,by unfold num;ac_rfl⟩
theorem zpO:∀ n:Nat,∃ y m r,zcE y m r/\num y m r=n
 | 0=>⟨2000,1,1,⟨by decide,by decide,by decide,by decide⟩,by decide⟩
 | n+1=>by
  obtain ⟨y,m,r,D,e⟩:=zpO n
  obtain ⟨y',m',r',D',e'⟩:=zto D
  exact ⟨y',m',r',D',by ac_rfl⟩
theorem zkZ {d:Int} (h:0<=d):∃ y m r,zcE y m r/\num y m r=d:=by
 obtain ⟨y,m,r,D,e⟩:=zpO d.toNat
 exact ⟨y,m,r,D,by ac_rfl⟩
end Cal
namespace Cnt
open Cal
def zlF (d u:Int):Prop:=∃ y m r,zcE y m r/\num y m r=d/\u=30*(12*(y-2000)+m-1)+(if 30<r then 30 else r)-1
noncomputable def each (y:Int):Int:=if leap y=true then 365 else 366
def zl4 (d u:Int):Prop:=∃ y,ny y<=d/\d<ny (y+1)/\u=365*366*(y-2000)+each y*(d-ny y)
theorem zlF.one {d u v:Int} (a:zlF d u) (b:zlF d v):u=v:=by
 obtain ⟨y,m,r,D,e,rfl⟩:=a
 obtain ⟨y',m',r',D',e',rfl⟩:=b
 obtain ⟨rfl,rfl,rfl⟩:=zu6 D D' (e.trans e'.symm)
 rfl
theorem zu2 {d y z:Int} (h1:ny y<=d) (h2:d<ny (y+1)) (h3:ny z<=d) (h4:d<ny (z+1)):y=z:=by
 rcases yei y z with h | h | h
 ·have:=ziw (show y+1<=z by ac_rfl)
  ac_rfl
 ·exact h
 ·have:=ziw (show z+1<=y by ac_rfl)
  ac_rfl
theorem zl4.one {d u v:Int} (a:zl4 d u) (b:zl4 d v):u=v:=by
 obtain ⟨y,h1,h2,rfl⟩:=a
 obtain ⟨z,h3,h4,rfl⟩:=b
 obtain rfl:=zu2 h1 h2 h3 h4
 rfl
noncomputable def UT (d:Int):Int:=Classical.epsilon fun u=>zlF d u
noncomputable def UE (d:Int):Int:=Classical.epsilon fun u=>zl4 d u
theorem zoL {d u:Int} (h:zlF d u):UT d=u:=zlF.one (Classical.epsilon_spec (p:=fun u=>zlF d u) ⟨u,h⟩) h
theorem zoH {d u:Int} (h:zl4 d u):UE d=u:=zl4.one (Classical.epsilon_spec (p:=fun u=>zl4 d u) ⟨u,h⟩) h
theorem zm3 {d:Int} (h:0<=d):∃ y,2000<=y/\ny y<=d/\d<ny (y+1):=by
 obtain ⟨y,m,r,D,e⟩:=zkZ h
 have c:=zma (y:=y) D.m1 D.m2
 have s:=zcL y
 have r1:=D.d1
 have r2:=D.d2
 refine ⟨y,zmb D (by ac_rfl),?_,?_⟩
 ·unfold num at e;ac_rfl
 ·unfold num at e;ac_rfl
theorem zwd {a b:Int} (h0:0<=a) (ab:a<=b):UT a<=UT b:=by
 obtain ⟨y,m,r,D,e⟩:=zkZ h0
 obtain ⟨y',m',r',D',e'⟩:=zkZ (show 0<=b by ac_rfl)
 rw[zoL ⟨y,m,r,D,e,rfl⟩,zoL ⟨y',m',r',D',e',rfl⟩]
 rw[zg5 D.m1 D.m2] at e
 rw[zg5 D'.m1 D'.m2] at e'
 have l:=znp (y:=y) D.m1 D.m2
 have l':=znp (y:=y') D'.m1 D'.m2
 have d1:=D.d1
 have d2:=D.d2
 have d1':=D'.d1
 have d2':=D'.d2
 rcases yei (12*y+m-1) (12*y'+m'-1) with h | h | h
 ·split <;> split <;> ac_rfl
 ·rw[h] at e
  split <;> split <;> ac_rfl
 ·have:=zkY h
  ac_rfl
theorem zkR (y:Int):(each y=365/\lp y=1)\/(each y=366/\lp y=0):=by
 unfold each lp
 split
 ·exact .inl ⟨rfl,rfl⟩
 ·exact .inr ⟨rfl,rfl⟩
theorem zwl {a b:Int} (h0:0<=a) (ab:a<=b):UE a<=UE b:=by
 obtain ⟨y,y0,h1,h2⟩:=zm3 h0
 obtain ⟨z,z0,h3,h4⟩:=zm3 (show 0<=b by ac_rfl)
 rw[zoH ⟨y,h1,h2,rfl⟩,zoH ⟨z,h3,h4,rfl⟩]
 have s:=zcL y
 rcases yei y z with h | h | h
 ·rcases zkR y with ⟨e,l⟩ | ⟨e,l⟩ <;> rcases zkR z with ⟨e',l'⟩ | ⟨e',l'⟩ <;> rw[e,e'] <;> ac_rfl
 ·subst h
  rcases zkR y with ⟨e,l⟩ | ⟨e,l⟩ <;> rw[e] <;> ac_rfl
 ·have:=ziw (show z+1<=y by ac_rfl)
  ac_rfl
end Cnt
namespace Cnt
open Cal
theorem zr2 {d y:Int} (h1:d<=1000000) (h2:ny y<=d):y<=4740:=by
 by_cases c:y<=4740
 ·exact c
 ·have:=ziw (show (2000:Int)<=y by ac_rfl)
  rw[zwt] at this
  ac_rfl
theorem zw8 {d:Int} (h0:0<=d) (h1:d<=1000000):-1<=UT d/\UT d<=1000000000:=by
 obtain ⟨y,m,r,D,e⟩:=zkZ h0
 have y0:=zmb D (by ac_rfl)
 have m1:=D.m1
 have m2:=D.m2
 have d1:=D.d1
 have c:=zma (y:=y) m1 m2
 have y1:y<=4740:=zr2 h1 (by unfold num at e;ac_rfl)
 rw[zoL ⟨y,m,r,D,e,rfl⟩]
 split <;> ac_rfl
theorem zxB {d:Int} (h0:0<=d) (h1:d<=1000000):-1<=UE d/\UE d<=1000000000:=by
 obtain ⟨y,y0,q1,q2⟩:=zm3 h0
 have y1:=zr2 h1 q1
 have s:=zcL y
 have l:=zsC y
 rw[zoH ⟨y,q1,q2,rfl⟩]
 rcases zkR y with ⟨e,_⟩ | ⟨e,_⟩ <;> rw[e] <;> ac_rfl
end Cnt
namespace Cnt
open Cal
end Cnt
namespace Cnt
open Cal
end Cnt
namespace Cnt
open Cal
end Cnt
theorem L2.us1 {α:Type} {P:List α->Prop} (h:∀ a,P [a]):∀ us:List α,us.length=1->P us
 | [a],_=>h a
theorem L2.us2 {α:Type} {P:List α->Prop} (h:∀ a b,P [a,b]):∀ us:List α,us.length=2->P us
 | [a,b],_=>h a b
theorem L2.us3 {α:Type} {P:List α->Prop} (h:∀ a b c,P [a,b,c]):∀ us:List α,us.length=3->P us
 | [a,b,c],_=>h a b c
theorem L2.us4 {α:Type} {P:List α->Prop} (h:∀ a b c d,P [a,b,c,d]):∀ us:List α,us.length=4->P us
 | [a,b,c,d],_=>h a b c d
theorem L2.us5 {α:Type} {P:List α->Prop} (h:∀ a b c d e,P [a,b,c,d,e]):∀ us:List α,us.length=5->P us
 | [a,b,c,d,e],_=>h a b c d e
theorem L2.qb {Q:L2.VK} {H:L2.Hp} {a b:Bool} (h:Q (.bl a) H) (e:a=b):Q (.bl b) H:=e ▸ h
theorem L2.qi {Q:L2.VK} {H:L2.Hp} {a b:Int} (h:Q (.int a) H) (e:a=b):Q (.int b) H:=e ▸ h
local macro_rules | `(tactic| walk_at "cap")=>`(tactic| repeat (first | exact trivial | refine ⟨⟨by first | exact Or.inl rfl | exact Or.inr rfl,by first | exact Or.inl rfl | exact Or.inr rfl,rfl⟩,?_⟩))
local macro_rules | `(tactic| walk_at "sub")=>`(tactic| repeat (first | exact trivial | refine ⟨rfl,?_⟩))
local macro_rules | `(tactic| walk_at "has")=>`(tactic| repeat (first | exact trivial | refine ⟨fun _=>⟨_,rfl⟩,?_⟩ | refine ⟨(fun z=>by (rcases z with z | z <;> first | cases (show PySem.NameKind.local=PySem.NameKind.cell from z) | cases (show PySem.NameKind.local=PySem.NameKind.free from z) | cases (show PySem.NameKind.globalImplicit=PySem.NameKind.cell from z) | cases (show PySem.NameKind.globalImplicit=PySem.NameKind.free from z))),?_⟩))
local macro_rules | `(tactic| walk_at "rd1")=>`(tactic| first
 | with_reducible refine L2.zxS ?_
 | with_reducible refine L2.zww ?_
 | refine ⟨_,rfl,?_⟩
 | refine ⟨_,_,rfl,rfl,?_⟩
 | refine ⟨_,_,rfl,?_⟩
 | refine ⟨_,_,_,rfl,?_⟩
 | refine ⟨rfl,?_⟩
 | refine ⟨(⟨by decide,by decide⟩:L2.CDiv _ _),?_⟩
 | refine ⟨(show (0:Int)<_ by first | decide | walk_at "o"),?_⟩
 | refine ⟨(⟨by decide,by decide,by decide⟩:L2.CPow _ _),?_⟩
 | refine ⟨(Or.inl ⟨by first | decide | walk_at "o",by first | decide | walk_at "o"⟩:L2.CMul _ _),?_⟩
 | refine ⟨(Or.inr ⟨by first | decide | walk_at "o",by first | decide | walk_at "o"⟩:L2.CMul _ _),?_⟩
 | refine ⟨_,_,rfl,.inl (by assumption),?_⟩
 | refine ⟨_,_,_,_,rfl,rfl,L2.SqT.of (by assumption),rfl,?_⟩
 | (refine ⟨_,_,_,_,rfl,(by assumption),(by first | walk_at "o" | decide),(by first | walk_at "o" | decide),(by first | walk_at "o" | decide),?_⟩;intro r' r0' r1')
 | (refine ⟨_,_,_,rfl,(by assumption),(by walk_at "o"),(by walk_at "o"),?_⟩;intro r' r0' r1')
 | refine And.intro (by walk_at "o") ?_
 | refine And.intro (Nat.le_of_ble_eq_true rfl) ?_
 | with_reducible refine L2.iteNF ?_
 | with_reducible refine L2.zxx ?_
 | with_reducible refine L2.ifI (fun _=>?_) (fun _=>?_)
 | with_reducible refine L2.zxI (fun _=>?_) (fun _=>?_)
 | with_reducible refine L2.ifD (fun _=>?_) (fun _=>?_)
 | with_reducible refine L2.zyf (fun _=>?_) (fun _=>?_))
local macro_rules | `(tactic| walk_at "rd")=>`(tactic| repeat' walk_at "rd1")
seal L2.PSs L2.PS L2.PE L2.PT L2.PA L2.PI L2.PG L2.PGs L2.PW L2.PC L2.PO
local macro_rules | `(tactic| walk_at "rd1")=>`(tactic| first
 | with_reducible refine L2.zya ?_
 | with_reducible refine L2.zx3 (by decide) ?_
 | with_reducible refine L2.ifSNT ?_
 | with_reducible refine L2.ifSNF (by decide) ?_
 | ((with_reducible refine And.intro (a:=L2.zvf _ _) ?_ ?_);(exact ⟨by first | decide | walk_at "o",by first | decide | walk_at "o"⟩))
 | fail)
local macro_rules | `(tactic| walk_at "rd1")=>`(tactic| ((with_reducible refine L2.sqG ?_);(first | (with_reducible refine L2.zxl ?_) | (with_reducible refine L2.zx2 ?_) | (with_reducible refine L2.zxV ?_) | (with_reducible refine L2.zx5 ?_) | (with_reducible refine L2.zx6 ?_) | (with_reducible refine L2.zx8 ?_) | (with_reducible refine L2.zx9 ?_) | (with_reducible refine L2.zyd ?_) | (with_reducible refine L2.zxU ?_));intros))
local macro_rules | `(tactic| walk_at "s1")=>`(tactic| first | exact L2.us1 fun _=>rfl | exact L2.us2 fun _ _=>rfl | exact L2.us3 fun _ _ _=>rfl | exact L2.us4 fun _ _ _ _=>rfl | exact L2.us5 fun _ _ _ _ _=>rfl | k_is | rfl)
local macro_rules | `(tactic| walk_at "lc")=>`(tactic| first | exact Or.inl rfl | exact Or.inr rfl)
local macro_rules | `(tactic| walk_at "sp")=>`(tactic| exact ⟨rfl,rfl,rfl,by decide +kernel,rfl,by decide +kernel,by decide +kernel⟩)
local macro_rules | `(tactic| nofun)=>`(tactic| walk_at "rd")
abbrev qaa:List PySem.Str:=["self"]
abbrev qab:List PySem.Str:=["self","day"]
abbrev qac:List PySem.Str:=["self","amount"]
abbrev qad:List PySem.Str:=["one","other"]
abbrev qae:List PySem.Str:=["book","day"]
abbrev qaf:List PySem.Str:=["entries","word"]
abbrev qag:List PySem.Str:=["book"]
abbrev qah:List PySem.Str:=["rows","day"]
abbrev qai:List PySem.Str:=["year"]
abbrev qaj:List PySem.Str:=["self","day","amount"]
abbrev qak:List PySem.Str:=["spans","day"]
abbrev qal:List PySem.Str:=["pairs"]
abbrev qam:List PySem.Str:=["self","a","b"]
abbrev qan:List PySem.Str:=["day"]
abbrev qao:List PySem.Str:=["book","days"]
abbrev qap:List PySem.Str:=["self","day","rate"]
abbrev qaq:List PySem.Str:=["self","unit"]
abbrev qar:List PySem.Str:=["table","day"]
abbrev qas:List PySem.Str:=["_law_script","_law_k"]
abbrev qat:List PySem.Str:=["self","units"]
abbrev qau:List PySem.Str:=["_law_found"]
abbrev qav:List PySem.Str:=["_law_cell_here"]
abbrev qaw:List PySem.Str:=["_law_specs_here","_law_words"]
abbrev qax:List PySem.Str:=["year","month"]
abbrev qay:List PySem.Str:=["self","day","until"]
abbrev qaz:List PySem.Str:=["thing","least","most"]
abbrev qba:List PySem.Str:=["count","grace"]
abbrev qbb:List PySem.Str:=["entries","spans"]
abbrev qbc:List PySem.Str:=["debt","deeds"]
abbrev qbd:List PySem.Str:=["self","count","grace","entries"]
abbrev qbe:List PySem.Str:=["_law_specs_here","_law_cell_here","_law_grace"]
abbrev qbf:List PySem.Str:=["table","spans","a","b"]
abbrev qbg:List PySem.Str:=["_law_script","_law_k","_law_many"]
abbrev qbh:List PySem.Str:=["_law_cell_here","_law_base"]
abbrev qbi:List PySem.Str:=["_law_specs_here","_law_cell_here"]
abbrev qbj:List PySem.Str:=["_law_specs_here","_law_others","_law_day"]
abbrev qbk:List PySem.Str:=["entries"]
abbrev qbl:List PySem.Str:=["_law_specs_here","_law_cell_here","_law_base"]
abbrev qbm:List PySem.Str:=["one","other","day"]
abbrev qbn:List PySem.Str:=["_law_script","_law_start","_law_most","_law_base"]
abbrev qbo:List PySem.Str:=["table","spans"]
abbrev qbp:List PySem.Str:=["_law_spec_here"]
abbrev qbq:List PySem.Str:=["count","rows","principal","a","b"]
abbrev qbr:List PySem.Str:=["book","rows"]
abbrev qbs:List PySem.Str:=["_law_one","_law_other","_law_day","_law_gap_here"]
abbrev qbt:List PySem.Str:=["_law_script"]
namespace My
open PySem L2
local macro_rules | `(tactic| exists $a:term,$b:term,$z:term)=>do
 let [v,H,Q,E,h,f,c,A,o,s,r]:=[`vs,`H,`Q,`E,`h,`f,`cdv,`A,`outer,`s,`hr].map Lean.mkIdent | unreachable!
 `(tactic| refine $a $b (fun $v $H $Q $E $h=>?_) (fun $f $c $A $o $s $H $v $Q $E $r $h=>?_))
noncomputable def top (i:Nat):Stmt:=PySem.Challenge.pw_loanroll_k72_whole_the_kinder_owes_less.main.body.getD i (.Pass ⟨0,0,0,0⟩)
structure Txt (K:W.Frag) (mg:Str->Option Value):Prop where
 zsI:mg "all" = none
 zky:mg "bool" = none
 zfw:mg "dict" = none
 zoM:mg "int" = none
 zbc:mg "isinstance" = none
 zbD:mg "len" = none
 zcg:mg "list" = none
 zd8:mg "max" = none
 zjF:mg "min" = none
 zdF:mg "range" = none
 zge:mg "set" = none
 zbJ:mg "sorted" = none
 zsv:mg "sum" = none
 cls:∀ kd:Kd,Cls K (cA K kd.cls)
 mk0:∀ kd:Kd,Mk0 K (cA K kd.cls)
 ikK:∀ kd:Kd,zu9 K (cA K kd.cls)
 kitK0:∀ k:Kd,PySem.W.kitOne K (.ref (cA K k.cls)) (.ref (cA K (Kd.cls .plain)))=some (zwO k .plain)
 kitS:∀ k:Kd,PySem.W.kitOne K (.ref (cA K k.cls)) (.type "str")=some false
 zpV:mg "Bank" = some (.ref (cA K "Bank"))
 zqv:mg "Book" = some (.ref (cA K "Book"))
 zkW:mg "Count" = some (.ref (cA K "Count"))
 zmh:mg "Debt" = some (.ref (cA K "Debt"))
 zsb:mg "Due" = some (.ref (cA K "Due"))
 ziJ:mg "Entry" = some (.ref (cA K "Entry"))
 zm7:mg "Exact" = some (.ref (cA K "Exact"))
 zsB:mg "Fee" = some (.ref (cA K "Fee"))
 zqo:mg "Late" = some (.ref (cA K "Late"))
 zsN:mg "Out" = some (.ref (cA K "Out"))
 zsO:mg "Pay" = some (.ref (cA K "Pay"))
 zp6:mg "Rate" = some (.ref (cA K "Rate"))
 zmI:mg "Still" = some (.ref (cA K "Still"))
 zlS:mg "Thirty" = some (.ref (cA K "Thirty"))
 zpK:mg "Turn" = some (.ref (cA K "Turn"))
 zu:Cls K (cA K "Book")
 zmW:MkI K (cA K "Book")
 zH:Cls K (cA K "Debt")
 zk8:MkI K (cA K "Debt")
 clE:∀ k:Ek,Cls K (cA K k.cls)
 zeq:∀ k:Ek,zW K (cA K k.cls) "amount"
 zbk:∀ k:Ek,zW K (cA K k.cls) "day"
 zlL:∀ k:Ek,zW K (cA K k.cls) "rate"
 zkm:∀ k:Ek,zW K (cA K k.cls) "until"
 zpf:MkI K (cA K "Due")
 zp5:MkI K (cA K "Fee")
 zm6:MkI K (cA K "Late")
 zo5:MkI K (cA K "Out")
 zpn:MkI K (cA K "Pay")
 zmP:MkI K (cA K "Rate")
 zlO:MkI K (cA K "Still")
 znd:MkI K (cA K "Turn")
 zb8:zW K (cA K "Book") "due_sums"
 zbp:zW K (cA K "Book") "fee_sums"
 zbP:zW K (cA K "Book") "late_rows"
 zbm:zW K (cA K "Book") "out_sums"
 zbM:zW K (cA K "Book") "own_count"
 zcn:zW K (cA K "Book") "own_entries"
 zbO:zW K (cA K "Book") "own_grace"
 zbs:zW K (cA K "Book") "pay_sums"
 zbQ:zW K (cA K "Book") "rate_rows"
 zch:zW K (cA K "Book") "spans"
 zbe:zW K (cA K "Book") "turn_days"
 zaU:zW K (cA K "Debt") "cent_units"
 zT:zW K (cA K "Debt") "owed_units"
 zK:zW K (cA K "Debt") "principal_cents"
 zbU:∃ t,mg "FIRST_YEAR" = some (.int 2000 t)
 zgf:∃ t,mg "LAST_DAY" = some (.int 999999 t)
 zkC:∃ a,mg "LENGTHS" = some (.ref a)/\∀ H,SqT K H a [.int 31,.int 28,.int 31,.int 30,.int 31,.int 30,.int 31,.int 31,.int 30,.int 31,.int 30,.int 31]
 zet:∃ t,mg "MOST_ENTRIES" = some (.int 500 t)
 zhi:∃ t,mg "MOST_GRACE" = some (.int 366 t)
 zhn:∃ t,mg "RATE_PARTS" = some (.int 10000 t)
 zgV:∃ t,mg "ROUND_DAYS" = some (.int 146097 t)
 zfD:∃ t,mg "ROUND_YEARS" = some (.int 400 t)
noncomputable abbrev zgg:Stmt:=top 2
noncomputable abbrev zla:Stmt:=top 3
noncomputable abbrev zf4:Stmt:=top 6
noncomputable abbrev zcQ:Stmt:=top 8
noncomputable abbrev ziT:Stmt:=top 11
noncomputable abbrev zjs:Stmt:=top 15
noncomputable abbrev zgd:Stmt:=top 26
noncomputable abbrev zhp:Stmt:=top 27
noncomputable abbrev zf8:Stmt:=top 29
noncomputable abbrev ze6:Stmt:=inClass (top 40) 11
noncomputable abbrev zfe:Stmt:=inClass (top 40) 0
noncomputable abbrev zfj:Stmt:=inClass (top 40) 3
noncomputable abbrev zce:Stmt:=inClass (top 40) 1
noncomputable abbrev zdS:Stmt:=inClass (top 40) 2
noncomputable abbrev zd0:Stmt:=inClass (top 53) 0
noncomputable abbrev zep:Stmt:=inClass (top 53) 1
noncomputable abbrev ze0:Stmt:=inClass (top 54) 0
noncomputable abbrev zeZ:Stmt:=inClass (top 54) 1
noncomputable abbrev zdj:Stmt:=inClass (top 55) 0
noncomputable abbrev zdh:Stmt:=inClass (top 55) 1
noncomputable abbrev zdN:Stmt:=inClass (top 56) 0
noncomputable abbrev zef:Stmt:=inClass (top 56) 1
noncomputable abbrev zbv:Stmt:=inClass (top 58) 0
noncomputable abbrev zeg:Stmt:=inClass (top 58) 1
noncomputable abbrev zgl:Stmt:=inClass (top 61) 0
noncomputable abbrev zgi:Stmt:=inClass (top 62) 0
noncomputable abbrev zgk:Stmt:=inClass (top 63) 0
noncomputable abbrev zga:Stmt:=inClass (top 64) 0
noncomputable abbrev zfc:Stmt:=inClass (top 65) 0
noncomputable abbrev zeW:Stmt:=inClass (top 66) 0
noncomputable abbrev zfk:Stmt:=inClass (top 67) 0
noncomputable abbrev zel:Stmt:=inClass (top 68) 1
noncomputable abbrev zjH:Stmt:=top 70
noncomputable abbrev zei:Stmt:=inClass (top 80) 1
noncomputable abbrev zb3:Stmt:=inClass (top 80) 12
noncomputable abbrev ze1:Stmt:=inClass (top 80) 11
noncomputable abbrev zfa:Stmt:=inClass (top 80) 5
noncomputable abbrev zeo:Stmt:=inClass (top 80) 2
noncomputable abbrev zeh:Stmt:=inClass (top 80) 9
noncomputable abbrev zfm:Stmt:=inClass (top 80) 4
noncomputable abbrev zfb:Stmt:=inClass (top 80) 6
noncomputable abbrev zd6:Stmt:=inClass (top 80) 8
noncomputable abbrev zdk:Stmt:=inClass (top 80) 10
noncomputable abbrev zee:Stmt:=inClass (top 80) 7
noncomputable abbrev zdQ:Stmt:=top 82
noncomputable abbrev zfp:Stmt:=top 83
noncomputable abbrev ze7:Stmt:=top 85
noncomputable abbrev zem:Stmt:=top 88
noncomputable abbrev zdq:Stmt:=top 90
noncomputable abbrev zdd:Stmt:=top 92
noncomputable abbrev zgj:Stmt:=top 93
noncomputable abbrev zf3:Stmt:=top 4
noncomputable abbrev zjq:Stmt:=top 7
noncomputable abbrev ze3:Stmt:=top 9
noncomputable abbrev zkT:Stmt:=top 12
noncomputable abbrev zdR:Stmt:=top 28
noncomputable abbrev zhF:Stmt:=top 30
noncomputable abbrev zb2:Stmt:=inClass (top 40) 13
noncomputable abbrev zeX:Stmt:=inClass (top 40) 9
noncomputable abbrev zcH:Stmt:=top 42
noncomputable abbrev zej:Stmt:=top 45
noncomputable abbrev zaN:Stmt:=inClass (top 53) 2
noncomputable abbrev zaa:Stmt:=inClass (top 59) 0
noncomputable abbrev za5:Stmt:=inClass (top 60) 0
noncomputable abbrev zek:Stmt:=inClass (top 68) 0
noncomputable abbrev zfn:Stmt:=top 69
noncomputable abbrev zjB:Stmt:=top 71
noncomputable abbrev zhq:Stmt:=top 72
noncomputable abbrev zd7:Stmt:=top 77
noncomputable abbrev zdf:Stmt:=top 78
noncomputable abbrev ze5:Stmt:=top 84
noncomputable abbrev zdX:Stmt:=top 91
noncomputable abbrev zjr:Stmt:=top 13
noncomputable abbrev zhs:Stmt:=top 31
noncomputable abbrev zb5:Stmt:=top 33
noncomputable abbrev ziV:Stmt:=top 38
noncomputable abbrev ze9:Stmt:=inClass (top 40) 12
noncomputable abbrev zf6:Stmt:=inClass (top 40) 8
noncomputable abbrev zfo:Stmt:=inClass (top 40) 7
noncomputable abbrev zfh:Stmt:=inClass (top 40) 10
noncomputable abbrev zdl:Stmt:=top 76
noncomputable abbrev zdr:Stmt:=top 79
noncomputable abbrev zec:Stmt:=top 86
noncomputable abbrev zgh:Stmt:=top 34
noncomputable abbrev zbG:Stmt:=top 36
noncomputable abbrev zhw:Stmt:=top 43
noncomputable abbrev zf5:Stmt:=top 46
noncomputable abbrev zbS:Stmt:=inClass (top 53) 3
noncomputable abbrev zde:Stmt:=inClass (top 55) 2
noncomputable abbrev zd5:Stmt:=inClass (top 56) 2
noncomputable abbrev zeY:Stmt:=inClass (top 80) 0
noncomputable abbrev zdY:Stmt:=top 87
noncomputable abbrev zbh:Stmt:=top 35
noncomputable abbrev zaA:Stmt:=inClass (top 53) 4
noncomputable abbrev ze8:Stmt:=top 37
noncomputable abbrev zd1:Stmt:=top 44
noncomputable abbrev zfl:Stmt:=top 89
noncomputable abbrev zcJ:Stmt:=top 47
noncomputable abbrev zdi:Stmt:=top 48
noncomputable abbrev zhA:Stmt:=top 49
noncomputable abbrev zmE:Stmt:=top 50
noncomputable abbrev zeb:Stmt:=top 94
noncomputable abbrev zmy:Stmt:=top 95
section
variable {P:Program} {w:World} {K:W.Frag} {mg:Str->Option Value} {base:Heap}
def zlt (K:W.Frag):Sp:=fun vs H Q _=>∃ (p:Addr) (xs:List V) (t:List (Int × Int)),vs=[.ref p]/\H p=some (.lst xs)/\zy K H xs t/\t.length<64/\(∀ s∈t,0<=s.1)/\∀ q H' ws (r:List (Int × Int)),H q=none->Same H H'->H' q=some (.lst ws)->zy K H' ws r->Stills.TabOf t r->r=(r.map (·.1)).map (fun d=>(d,Sums.valOf t d))->r.length<=t.length->Q (.ref q) H'
theorem zqL:zj qal qal (zi zgg):=by walk_at "sp"
theorem zsx (S:Src K mg "table_of" zgg qal) (T:Txt K mg)  : Def P w K mg base 1 "table_of" qal (zlt K):=by
 exists S.ok,zqL,0
 all_goals obtain ⟨p,xs,t,rfl,hp,hR,hl,t0,h⟩:=h
 ·rfl
 refine ⟨_,(zg (zk (zE (zkd rfl) rfl T.zbJ PyProof.Rows.boot_sorted (za (zpZ (zU (zed rfl) rfl T.zfw PyProof.Rows.boot_dict (za (pv 0) zb))) zb)))),?_⟩
 nofun
 refine ⟨p,xs,t,rfl,hp,hR,hl,?_⟩
 intro d H1 nd s1 e1
 nofun
 refine ⟨d,_,rfl,e1,?_⟩
 intro v H2 nv s2 e2
 nofun
 have dl:=zq7 t
 refine ⟨v,d,_,rfl,e2,s2 _ _ e1,by ac_rfl,?_⟩
 intro q H3 ws r nq s3 e3 hr' pm o
 obtain ⟨T1,e⟩:=Dct.tab t0 pm o
 exact h q H3 ws r (zD (s1.trans s2) nq) (s1.trans (s2.trans s3)) e3 hr' T1 e (by rw[pm.length_eq];exact dl)
def zi1 (K:W.Frag):Sp:=fun vs H Q _=>L2.Ee4 fun a xs (l:List Int) d=>L2.Aa5 (vs=[.ref a,.int d]) (SqL K H a xs) (RF H xs l) ((l.Pairwise (·<·))) (∀ n:Nat,znw l d n->Q (.int n) H)
theorem zeD:zj ["rows", "day", "low", "high", "middle"] qah (zi zla):=by walk_at "sp"
theorem zvD (S:Src K mg "begun" zla qah) (T:Txt K mg)  : Def P w K mg base 1 "begun" qah (zi1 K):=by
 exists S.ok,zeD,0
 all_goals obtain ⟨a,xs,l,d,rfl,hS,hR,up,h⟩:=h
 ·rfl
 refine ⟨_,(zd (zo (i:=2) zeD.nd rfl (by walk_at "lc") ze)
  (zd (zo (i:=3) zeD.nd rfl (by walk_at "lc") (zE zam rfl T.zbD PySem.boot_len (za (pv 0) zb)))
  (zd (zju PassesOwn.never (zw ze4 (pv 2) (pv 3) (nomark _))
  (zd (zo (i:=4) zeD.nd rfl (by walk_at "lc") (zh zS (zh zF (pv 2) (pv 3)) ze))
  (zg (zP (zw zds (zB zap (zB zag (pv 0) (pv 4) (fun _ _=>rfl)) ze (fun _ _=>rfl)) (pv 1) (nomark _))
  (zg (zo (i:=2) zeD.nd rfl (by walk_at "lc") (zh zF (pv 4) ze)))
  (zg (zo (i:=3) zeD.nd rfl (by walk_at "lc") (pv 4)))))))
  (zg (zk (pv 2)))))),?_⟩
 have xl:=hR.length
 nofun
 refine ⟨fun n σ H'=>H=H'/\∃ (lo hi:Nat) (z:Option V),σ=[some (.ref a),some (.int d),some (.int lo),some (.int hi),z]/\lo<=hi/\hi<=l.length/\(∀ i s,i<lo->l[i]?=some s->s<=d)/\(∀ i s,hi<=i->l[i]?=some s->d<s)/\n=hi-lo,⟨_,rfl,0,xs.length,_,rfl,ydf _,by ac_rfl,fun i s hi=>absurd hi (ydq _),fun i s hi e=>?_,rfl⟩,?_⟩
 ·have:=(yac.mp e).1
  ac_rfl
 rintro n σ H' ⟨rfl,lo,hi,z,rfl,lh,hl,below,above,rfl⟩
 nofun
 ·rename_i q
  refine ⟨_,fun σ' H' z=>z,?_⟩
  have em:((lo:Int)+hi) / 2=(((lo+hi) / 2:Nat):Int):=by ac_rfl
  have m1:lo<=(lo+hi) / 2:=by ac_rfl
  have m2:(lo+hi) / 2<hi:=by ac_rfl
  nofun
  generalize (lo+hi) / 2=m at m1 m2 em
  obtain ⟨s,es,p,ws,ex,hp⟩:=hR.get (yaa (by ac_rfl:m<xs.length))
  have at_:atI xs (((lo:Int)+hi) / 2)=some (.ref p):=em ▸ za4 (by rw[yaa (by ac_rfl:m<xs.length),ex])
  refine ⟨a,_,_,_,rfl,rfl,hS,at_,?_⟩
  have at0:atI (V.int s::ws) (0:Int)=some (.int s):=(za4 (by rfl):atI (V.int s::ws) ((0:Nat):Int)=some (.int s))
  nofun
  refine ⟨p,_,_,_,rfl,rfl,SqT.of hp,at0,?_⟩
  nofun
  ·rename_i q2
   refine ⟨hi-(m+1),by ac_rfl,rfl,m+1,hi,some (.int m),(by show [some (V.ref a),some (V.int d),some (V.int (((lo:Int)+hi) / 2+1)),some (V.int hi),some (V.int (((lo:Int)+hi) / 2))]=_;rw[em];rfl),by ac_rfl,hl,fun i t hi e=>?_,above,rfl⟩
   rcases Nat.lt_or_ge i m with c | c
   ·have:=zcU up e es c
    ac_rfl
   ·have:i=m:=by ac_rfl
    subst this
    rw[es] at e
    cases e
    exact q2
  ·rename_i q2
   refine ⟨m-lo,by ac_rfl,rfl,lo,m,some (.int m),(by show [some (V.ref a),some (V.int d),some (V.int lo),some (V.int (((lo:Int)+hi) / 2)),some (V.int (((lo:Int)+hi) / 2))]=_;rw[em]),by ac_rfl,by ac_rfl,below,fun i t hi e=>?_,rfl⟩
   rcases Nat.lt_or_ge m i with c | c
   ·have:=zcU up es e c
    ac_rfl
   ·have:i=m:=by ac_rfl
    subst this
    rw[es] at e
    cases e
    ac_rfl
 ·rename_i q
  have:lo=hi:=by ac_rfl
  subst this
  exact h lo ⟨hl,below,above⟩
def zif (K:W.Frag):Sp:=fun vs H Q _=>L2.Ee4 fun a xs (l:List (Int × Int)) d=>L2.Aa5 (vs=[.ref a,.int d]) (SqL K H a xs) (zy K H xs l) (l.length<=1000) (Q (.int (upto l d)) H)
theorem zrs:zj qah qah (zi zf4):=by walk_at "sp"
theorem zsn (S:Src K mg "sum_upto" zf4 qah) (T:Txt K mg)  : Def P w K mg base 1 "sum_upto" qah (zif K):=by
 exists S.okF,zrs,0
 all_goals obtain ⟨a,xs,l,d,rfl,hS,hR,hl,h⟩:=h
 ·rfl
 refine ⟨_,(zg (zk (zE (ztR rfl) rfl T.zsv PyProof.Rows.boot_sum (za (zbZ (ix:=[1]) ⟨rfl,by decide +kernel,rfl,by decide +kernel,rfl,(show (["row", "day"]:List Str).Nodup by decide +kernel),by walk_at "cap", by walk_at "sub", by walk_at "has"⟩ (zQ (pv 0)) (fun b=>(zw zds (zB (zaK K) (pv 0) ze (fun _ _=>rfl)) (pv 1) (nomark _))) (fun b=>(zB (zaK K) (pv 0) ze (fun _ _=>rfl)))) zb)))),?_⟩
 have sz:=sizeLine_eq
 have xl:=hR.length
 nofun
 refine ⟨⟨_,hS⟩,fun l1 n1=>?_⟩
 refine zdu (zaw hS) n1 (by ac_rfl) l xl.symm (fun s=>decide (s.1<=d)) (fun H' v s=>v=.int s.2) (fun v e H1 H2 s e1=>e1) (fun v e H1 ys zs hL e1=>e1) ?_ ?_ ?_
 ·rintro i x s H' Q' hx hs sH hq
  obtain ⟨q,s',rfl,e,ht⟩:=hR.get hx
  obtain rfl:s'=s:=Option.some.inj (e.symm.trans hs)
  have ht':=sH _ _ ht
  nofun
  exact hq
 ·rintro i x s H' Q' hx hs fe sH hq
  obtain ⟨q,s',rfl,e,ht⟩:=hR.get hx
  obtain rfl:s'=s:=Option.some.inj (e.symm.trans hs)
  have ht':=sH _ _ ht
  nofun
  exact hq _ _ (Same.refl _) rfl
 ·rintro ys H' sH eL hL
  have ey:=hL.eqm
  nofun
  have h':Q (.int (((l.filter fun s=>decide (s.1<=d)).map (·.2)).sum)) H:=h
  refine ⟨l1,_,rfl,?_,sH,h'⟩
  rw[ybn]
  exact SqL.of (ey ▸ eL)
def zcp (K:W.Frag):Sp:=fun vs H Q _=>∃ (q:Addr) (xs:List V) (l:List (Int × Int)),vs=[.ref q]/\H q=some (.lst xs)/\zy K H xs l/\l.length<=1000 /\
 ∀ p ws H',H p=none->Same H H'->H' p=some (.lst ws)->zy K H' ws (runs 0 l)->Q (.ref p) H'
theorem zbF:zj ["rows", "told", "total", "row"] ["rows"] (zi zcQ):=by walk_at "sp"
theorem zng (S:Src K mg "running_sums" zcQ ["rows"]) (T:Txt K mg)  : Def P w K mg base 1 "running_sums" ["rows"] (zcp K):=by
 exists S.ok,zbF,0
 all_goals obtain ⟨q,xs,l,rfl,hq,hR,hl,h⟩:=h
 ·rfl
 refine ⟨_,(zd (zo (i:=1) zbF.nd rfl (by walk_at "lc") (zaj zb))
  (zd (zo (i:=2) zbF.nd rfl (by walk_at "lc") ze)
  (zd (zcq PassesOwn.never rfl (zQ (pv 0)) (zac (i:=3) zbF.nd rfl (by walk_at "lc"))
  (zd (zo (i:=2) zbF.nd rfl (by walk_at "lc") (zh zF (pv 2) (zB zap (pv 3) ze (fun _ _=>rfl))))
  (zg (zao (zer PySem.F.plainAttrs_list PySem.F.slot_list_append PySem.F.type_list_append zbY (pv 1) (za (zO (za (zB zap (pv 3) ze (fun _ _=>rfl)) (za (pv 2) zb))) zb))))))
  (zg (zk (pv 1)))))),?_⟩
 have sz:=sizeLine_eq
 have xl:=hR.length
 nofun
 intro p np
 have s1:=zc np (.lst [])
 have eP:=zq (.lst []) np
 generalize upd H p (.lst [])=H1 at s1 eP ⊢
 nofun
 refine ⟨⟨_,SqL.of (s1 _ _ hq)⟩,zcr (xs:=xs) (fun i σ H'=>∃ (ws:List V) (z1:Option V),(Same H H'/\H' p=some (.lst ws))/\zy K H' ws (runs 0 (l.take i))/\σ=[some (.ref q),some (.ref p),some (.int (sum2 (l.take i))),z1])
  ⟨[],_,⟨s1,eP⟩,.nil,rfl⟩ ?_ ?_ ?_⟩
 ·rintro i σ H' _ ⟨ws,z1,⟨sH,_⟩,_⟩
  exact SqL.of (sH _ _ hq)
 ·rintro i x σ H' hx ⟨ws,z1,⟨sH,eP'⟩,hW,rfl⟩
  obtain ⟨u,s,rfl,hs,hu⟩:=(hR.same sH).get hx
  have il:i<l.length:=(yac.mp hs).1
  have wl:=hW.length
  rw[zdE,yaq] at wl
  have tk:l.take (i+1)=l.take i++[s]:=by rw[ybe,hs];rfl
  rw[tk,znV,ztU,yeg]
  generalize sum2 (l.take i)=t at *
  nofun
  refine ⟨.inl ⟨rfl,_,SqL.of eP'⟩,?_⟩
  nofun
  intro v nv
  have s5:=zc nv (.tup [.int s.1,.int (t+s.2)])
  have ev:=zq (.tup [.int s.1,.int (t+s.2)]) nv
  have eP5:=s5 _ _ eP'
  refine ⟨p,_,_,rfl,rfl,eP5,by ac_rfl,?_⟩
  have ev6:(upd (upd H' v (.tup [.int s.1,.int (t+s.2)])) p (.lst (ws++[.ref v]))) v=some (.tup [.int s.1,.int (t+s.2)]):=by
   rw[zx (zaW ev eP5 (by intro z;cases z))]
   exact ev
  exact ⟨ws++[.ref v],_,⟨zN (sH.trans s5) np,zf⟩,((hW.same s5).put eP5).push (s:=(s.1,t+s.2)) ev6,rfl⟩
 ·rintro σ H' ⟨ws,z1,⟨sH,eP'⟩,hW,rfl⟩
  rw[xl,yck] at hW
  nofun
  exact h p ws H' np sH eP' hW
def znW (K:W.Frag):Sp:=fun vs H Q _=>∃ (a:Addr) (xs:List V) (l:List (Int × Int)),vs=[.ref a]/\SqL K H a xs/\zy K H xs l/\l.length<64/\(∀ s∈l,s.1<s.2) /\
 ∀ p ys r H',Same H H'->H p=none->H' p=some (.lst ys)->zy K H' ys r->Spans.Joined r->(∀ d,Spans.Cov r d↔Spans.Cov l d)->r.length<=l.length->Q (.ref p) H'
theorem zsV {K:W.Frag} {H:Hp} {ys:List V} {acc:List (Int × Int)} (r:zy K H ys acc) (h:0<ys.length):∃ ys' b acc' t,ys=ys'++[.ref b]/\acc=acc'++[t]/\H b=some (.tup [.int t.1,.int t.2])/\zy K H ys' acc':=by
 induction r with
 | nil=>simp at h
 | @cons p s xs l hp rr ih =>
  cases rr with
  | nil=>exact ⟨[],p,[],s,rfl,rfl,hp,.nil⟩
  | cons h2 rr2 =>
   obtain ⟨ys',b,acc',t,e1,e2,e3,e4⟩:=ih (by simp)
   exact ⟨.ref p::ys',b,s::acc',t,by rw[e1];rfl,by rw[e2];rfl,e3,.cons hp e4⟩
theorem zj3:zj ["spans", "told", "span"] ["spans"] (zi ziT):=by walk_at "sp"
theorem zuF (S:Src K mg "joined" ziT ["spans"]) (T:Txt K mg)  : Def P w K mg base 1 "joined" ["spans"] (znW K):=by
 exists S.ok,zj3,0
 all_goals obtain ⟨a,xs,l,rfl,hS,hR,hl,ok,h⟩:=h
 ·rfl
 refine ⟨_,(zd (zo (i:=1) zj3.nd rfl (by walk_at "lc") (zaj zb))
  (zd (zcq PassesOwn.never rfl (zQ (zE zpk rfl T.zbJ PyProof.Rows.boot_sorted (za (pv 0) zb))) (zac (i:=2) zj3.nd rfl (by walk_at "lc"))
  (zg (zP (PW.pt (zc9 (zw zfd (zE zam rfl T.zbD PySem.boot_len (za (pv 1) zb)) ze (nomark _)) (zdI (zw zds (zB zap (pv 2) ze (fun _ _=>rfl)) (zB zap (zB zag (pv 1) (zjb zgx ze) (fun _ _=>rfl)) ze (fun _ _=>rfl)) (nomark _)))))
  (zg (zmF (zO (za (zB zap (zB zag (pv 1) (zjb zgx ze) (fun _ _=>rfl)) ze (fun _ _=>rfl)) (za (zE (zbB rfl) rfl T.zd8 PyProof.Rows.boot_max (za (zB zap (zB zag (pv 1) (zjb zgx ze) (fun _ _=>rfl)) ze (fun _ _=>rfl)) (za (zB zap (pv 2) ze (fun _ _=>rfl)) zb))) zb))) (zwU (pv 1) (zjb zgx ze) set_list)))
  (zg (zao (zer PySem.F.plainAttrs_list PySem.F.slot_list_append PySem.F.type_list_append zbY (pv 1) (za (pv 2) zb)))))))
  (zg (zk (pv 1))))),?_⟩
 have sz:=sizeLine_eq
 have xl:=hR.length
 nofun
 intro p np
 have sp:=zc np (.lst [])
 nofun
 refine ⟨a,xs,l,rfl,sp.seq hS,hR.same sp,hl,?_⟩
 intro q H2 ws r nq sq eq rR pm srt
 have wl:=rR.length
 have rl:=pm.length_eq
 have s2:=sp.trans sq
 have eP2:=sq _ _ (zf (H:=H) (a:=p) (o:=.lst []))
 have npq:q≠p:=(zZ (zf (H:=H) (a:=p) (o:=.lst [])) nq).symm
 refine ⟨q,rfl,⟨_,SqL.of eq⟩,zcr (xs:=ws) (fun i σ H'=>∃ (ys:List V) (acc:List (Int × Int)) (z:Option V),(Same H H'/\H' q=some (.lst ws)/\H' p=some (.lst ys))/\(zy K H' ys acc/\zy K H' ws r)/\Stills.JInv (r.take i) acc/\acc.length<=i/\σ=[some (.ref a),some (.ref p),z])
  ⟨[],[],_,⟨s2,eq,eP2⟩,⟨.nil,rR⟩,Stills.JInv.nil,ydc _,rfl⟩ ?_ ?_ ?_⟩
 ·rintro i σ H' _ ⟨ys,acc,z,⟨_,e,_⟩,_⟩
  exact SqL.of e
 ·rintro i x σ H' hx ⟨ys,acc,z,⟨sH,eQ,eP⟩,⟨rA,rW⟩,J,al,rfl⟩
  obtain ⟨u,s,rfl,hs,ht⟩:=rW.get hx
  have il:i<r.length:=(yac.mp hs).1
  have yl:=rA.length
  have up:=ok s (pm.mem_iff.mp (yah hs))
  have tk:r.take (i+1)=r.take i++[s]:=by rw[ybe,hs];rfl
  have hP:SqL K H' p ys:=SqL.of eP
  rw[tk]
  have t1':∀ t∈acc,t.1<=s.1:=fun t htt=>by
   obtain ⟨s',hs',e⟩:=J.f t htt
   obtain ⟨j,hj,ej⟩:=yaz.mp hs'
   rw[yaq] at hj
   rw[List.getElem_take] at ej
   have:=ybd.mp srt j i (by ac_rfl) il (by ac_rfl)
   rw[ej] at this
   have es:r[i]=s:=by
    have:=yaa il
    rw[hs] at this
    exact (Option.some.inj this).symm
   rw[es] at this
   ac_rfl
  nofun
  ·rename_i pos
   obtain ⟨ys',b,acc',t,e1,e2,hb,rA'⟩:=zsV rA (by ac_rfl)
   subst e1 e2
   have yl':=rA'.length
   have atl:atI (ys'++[.ref b]) (-1)=some (.ref b):=zv3 (by simp) (by simp)
   have le1:=t1' t (by simp)
   refine ⟨p,_,_,_,rfl,rfl,hP,atl,?_⟩
   nofun
   ·rename_i le2
    refine ⟨p,_,_,_,rfl,rfl,hP,atl,?_⟩
    nofun
    refine ⟨p,_,_,_,rfl,rfl,hP,atl,?_⟩
    nofun
    intro u2 nu2
    obtain ⟨m,hm⟩:∃ m:Int,m=if s.2 > t.2 then s.2 else t.2:=⟨_,rfl⟩
    rw[<-hm]
    have s5:=zc nu2 (.tup [.int t.1,.int m])
    have eP':=s5 _ _ eP
    have eQ':=s5 _ _ eQ
    nofun
    have ixe:ixN (ys'++[V.ref b]).length (-1)=some (ys'.length):=by
     unfold ixN
     rw[if_neg (by decide),if_pos (by rw[yad,ybv];ac_rfl),yad]
     show some ((-1:Int)+((ys'.length+1:Nat):Int)).toNat=_
     rw[show ((-1:Int)+((ys'.length+1:Nat):Int)).toNat=ys'.length by ac_rfl]
    refine ⟨p,_,_,_,rfl,rfl,eP',ixe,?_⟩
    have es:(ys'++[V.ref b]).set ys'.length (.ref u2)=ys'++[.ref u2]:=by
     rw[List.set_append_right _ _ (ydc _),ydr]
     rfl
    rw[es]
    have st2:(upd (upd H' u2 (.tup [.int t.1,.int m])) p (.lst (ys'++[.ref u2]))) u2=some (.tup [.int t.1,.int m]):=by
     rw[zx (zZ eP nu2).symm]
     exact zf
    exact ⟨ys'++[.ref u2],acc'++[(t.1,m)],_,⟨zN (sH.trans s5) np,by rw[zx npq];exact eQ',zf⟩,⟨((rA'.same s5).put eP').push (s:=(t.1,m)) st2,(rW.same s5).put eP'⟩,J.grow up le1 le2 hm,by rw[yad] at al ⊢;exact Nat.le_succ_of_le al,rfl⟩
   ·rename_i gt
    refine ⟨.inl ⟨rfl,_,SqL.of eP⟩,?_⟩
    nofun
    refine ⟨p,_,_,rfl,rfl,eP,by ac_rfl,?_⟩
    have st2:(upd H' p (.lst (ys'++[.ref b]++[.ref u]))) u=some (.tup [.int s.1,.int s.2]):=by
     rw[zx (zaW ht eP (by intro z;cases z))]
     exact ht
    exact ⟨ys'++[.ref b]++[.ref u],acc'++[t]++[s],_,⟨zN sH np,by rw[zx npq];exact eQ,zf⟩,⟨(rA.put eP).push (s:=s) st2,rW.put eP⟩,J.add up (by ac_rfl),by rw[yad];exact Nat.succ_le_succ al,rfl⟩
  ·rename_i no
   have y0:ys=[]:=by cases ys with | nil=>rfl | cons _ _=>exact absurd (by simp) no
   subst y0
   have a0:acc=[]:=by cases acc with | nil=>rfl | cons _ _=>simp at yl
   subst a0
   refine ⟨.inl ⟨rfl,_,SqL.of eP⟩,?_⟩
   nofun
   refine ⟨p,_,_,rfl,rfl,eP,by simp;ac_rfl,?_⟩
   have st2:(upd H' p (.lst ([]++[.ref u]))) u=some (.tup [.int s.1,.int s.2]):=by
    rw[zx (zaW ht eP (by intro z;cases z))]
    exact ht
   exact ⟨[]++[.ref u],[]++[s],_,⟨zN sH np,by rw[zx npq];exact eQ,zf⟩,⟨(zy.put .nil eP).push (s:=s) st2,rW.put eP⟩,J.begin_ up,by simp,rfl⟩
 ·rintro σ H' ⟨ys,acc,z,⟨sH,eQ,eP⟩,⟨rA,rW⟩,J,al,rfl⟩
  rw[wl,yaw (ydc _)] at J
  nofun
  refine h p ys acc H' sH np eP rA J.j (fun d=>?_) (by ac_rfl)
  rw[J.c]
  exact Stills.zv6 (fun s=>pm.mem_iff) d
def znU (K:W.Frag):Sp:=fun vs H Q _=>L2.Ee8 fun pt ps xs ys (t l:List (Int × Int)) a b=>L2.Aa7 (vs=[.ref pt,.ref ps,.int a,.int b]) (SqL K H pt xs) (zy K H xs t) (SqL K H ps ys) (zy K H ys l) (t.length+2*l.length<64) (∀ (p:Addr) (ns:List Int) H',Same H H'->H p=none->H' p=some (.lst (ns.map V.int))->ns.length<64->ns.Pairwise (·<·)->(∀ d,d∈ns↔(a<d/\d<b)/\((∃ s∈t,d=s.1)\/∃ s∈l,d=s.1\/d=s.2))->Q (.ref p) H')
theorem znL:zj ["table", "spans", "a", "b", "days"] qbf (zi zjs):=by walk_at "sp"
theorem zut (S:Src K mg "breaks" zjs qbf) (T:Txt K mg)  : Def P w K mg base 1 "breaks" qbf (znU K):=by
 exists S.ok,znL,0
 all_goals obtain ⟨pt,ps,xs,ys,t,l,a,b,rfl,hS,hR,hS2,hR2,hl,h⟩:=h
 ·rfl
 refine ⟨_,(zd (zr8 (i:=4) znL.nd rfl rfl (ix:=[]) ⟨rfl,by decide +kernel,rfl,by decide +kernel,rfl,(show (["row"]:List Str).Nodup by decide +kernel),by walk_at "cap", by walk_at "sub", by walk_at "has"⟩ (zQ (pv 0)) (fun b=>(zB (zaK K) (pv 0) ze (fun _ _=>rfl))))
  (zd (zao (zer PySem.F.plainAttrs_list PySem.F.slot_list_extend PySem.F.type_list_extend zhz (pv 4) (za (zbj (ix:=[]) ⟨rfl,by decide +kernel,rfl,by decide +kernel,rfl,(show (["span"]:List Str).Nodup by decide +kernel),by walk_at "cap", by walk_at "sub", by walk_at "has"⟩ (zQ (pv 1)) (fun b=>(zB (zaK K) (pv 0) ze (fun _ _=>rfl)))) zb)))
  (zd (zao (zer PySem.F.plainAttrs_list PySem.F.slot_list_extend PySem.F.type_list_extend zhz (pv 4) (za (zbj (ix:=[]) ⟨rfl,by decide +kernel,rfl,by decide +kernel,rfl,(show (["span"]:List Str).Nodup by decide +kernel),by walk_at "cap", by walk_at "sub", by walk_at "has"⟩ (zQ (pv 1)) (fun b=>(zB (zaK K) (pv 0) ze (fun _ _=>rfl)))) zb)))
  (zg (zk (zE (zcy rfl) rfl T.zbJ PyProof.Rows.boot_sorted (za (zU (zcC rfl) rfl T.zge PyProof.Rows.boot_set (za (zbZ (ix:=[2,3]) ⟨rfl,by decide +kernel,rfl,by decide +kernel,rfl,(show (["day", "a", "b"]:List Str).Nodup by decide +kernel),by walk_at "cap", by walk_at "sub", by walk_at "has"⟩ (zQ (pv 4)) (fun b=>(zvb ze4 ze4 (pv 1) (pv 0) (pv 2))) (fun b=>(pv 0))) zb)) zb))))))),?_⟩
 have sz:=sizeLine_eq
 have xl:=hR.length
 have yl:=hR2.length
 have gd:∀ (u:List (Int × Int)) (f:Int × Int->Int) (i:Nat) (s:Int × Int),u[i]?=some s->(u.map f).getD i 0=f s:=fun u f i s e=>by
  rw[yae,yaj,e];rfl
 nofun
 refine ⟨⟨_,hS⟩,?_⟩
 intro l1 n1
 refine zdK (fun i v=>v=.int ((t.map (·.1)).getD i 0)) hS n1 (by ac_rfl) ?_ ?_
 ·intro i x H' Q' hx sH hq
  obtain ⟨p,s,rfl,e,ht⟩:=hR.get hx
  nofun
  exact ⟨p,_,_,_,rfl,rfl,SqT.of (sH _ _ ht),rfl,hq _ (by rw[gd t _ i s e])⟩
 intro ys1 len1 hp1
 obtain rfl:=zgr (ns:=t.map (·.1)) (by rw[len1,yab,xl]) hp1
 have s1:=zc n1 (.lst ((t.map (·.1)).map V.int))
 have e1:(upd H l1 (.lst ((t.map (·.1)).map V.int))) l1=some (.lst ((t.map (·.1)).map V.int)):=zf
 generalize upd H l1 (.lst ((t.map (·.1)).map V.int))=H1 at s1 e1 ⊢
 nofun
 refine ⟨.inl ⟨rfl,_,SqL.of e1⟩,?_⟩
 nofun
 refine ⟨⟨_,s1.seq hS2⟩,?_⟩
 intro l2 n2
 refine zdK (fun i v=>v=.int ((l.map (·.1)).getD i 0)) (s1.seq hS2) n2 (by ac_rfl) ?_ ?_
 ·intro i x H' Q' hx sH hq
  obtain ⟨p,s,rfl,e,ht⟩:=hR2.get hx
  nofun
  exact ⟨p,_,_,_,rfl,rfl,SqT.of (sH _ _ (s1 _ _ ht)),rfl,hq _ (by rw[gd l _ i s e])⟩
 intro ys2 len2 hp2
 obtain rfl:=zgr (ns:=l.map (·.1)) (by rw[len2,yab,yl]) hp2
 have s2:=zc n2 (.lst ((l.map (·.1)).map V.int))
 refine ⟨l1,l2,_,_,rfl,rfl,s2 _ _ e1,zf,by simp;ac_rfl,?_⟩
 rw[<-yan]
 have s3:Same H (upd (upd H1 l2 (.lst ((l.map (·.1)).map V.int))) l1 (.lst ((t.map (·.1)++l.map (·.1)).map V.int))):=zN (s1.trans s2) n1
 have e3:(upd (upd H1 l2 (.lst ((l.map (·.1)).map V.int))) l1 (.lst ((t.map (·.1)++l.map (·.1)).map V.int))) l1=some (.lst ((t.map (·.1)++l.map (·.1)).map V.int)):=zf
 generalize upd (upd H1 l2 (.lst ((l.map (·.1)).map V.int))) l1 (.lst ((t.map (·.1)++l.map (·.1)).map V.int))=H3 at s3 e3 ⊢
 nofun
 refine ⟨.inl ⟨rfl,_,SqL.of e3⟩,?_⟩
 nofun
 refine ⟨⟨_,s3.seq hS2⟩,?_⟩
 intro l4 n4
 refine zdK (fun i v=>v=.int ((l.map (·.2)).getD i 0)) (s3.seq hS2) n4 (by ac_rfl) ?_ ?_
 ·intro i x H' Q' hx sH hq
  obtain ⟨p,s,rfl,e,ht⟩:=hR2.get hx
  nofun
  exact ⟨p,_,_,_,rfl,rfl,SqT.of (sH _ _ (s3 _ _ ht)),rfl,hq _ (by rw[gd l _ i s e])⟩
 intro ys4 len4 hp4
 obtain rfl:=zgr (ns:=l.map (·.2)) (by rw[len4,yab,yl]) hp4
 have s4:=zc n4 (.lst ((l.map (·.2)).map V.int))
 refine ⟨l1,l4,_,_,rfl,rfl,s4 _ _ e3,zf,by simp;ac_rfl,?_⟩
 rw[<-yan]
 have s5:Same H (upd (upd H3 l4 (.lst ((l.map (·.2)).map V.int))) l1 (.lst ((t.map (·.1)++l.map (·.1)++l.map (·.2)).map V.int))):=zN (s3.trans s4) n1
 have e5:(upd (upd H3 l4 (.lst ((l.map (·.2)).map V.int))) l1 (.lst ((t.map (·.1)++l.map (·.1)++l.map (·.2)).map V.int))) l1=some (.lst ((t.map (·.1)++l.map (·.1)++l.map (·.2)).map V.int)):=zf
 generalize upd (upd H3 l4 (.lst ((l.map (·.2)).map V.int))) l1 (.lst ((t.map (·.1)++l.map (·.1)++l.map (·.2)).map V.int))=H5 at s5 e5 ⊢
 obtain ⟨es,hes⟩:∃ es,es=t.map (·.1)++l.map (·.1)++l.map (·.2):=⟨_,rfl⟩
 have el:es.length=t.length+2*l.length:=by rw[hes];simp;ac_rfl
 rw[<-hes] at e5
 nofun
 refine ⟨⟨_,SqL.of e5⟩,?_⟩
 intro l6 n6
 refine ztB (zaw (SqL.of e5)) n6 (by rw[yab];ac_rfl) (es.map fun d=>(decide (a<d) && decide (d<b),V.int d)) (by simp) ?_ ?_ ?_
 ·intro i x bb v H' Q' hx hpk sH hq
  rw[yaj] at hx hpk
  obtain ⟨d,hd,rfl⟩:=Option.map_eq_some_iff.mp hx
  rw[hd] at hpk
  cases hpk
  nofun
  ·rename_i q1
   rw[decide_eq_true q1,Bool.true_and] at hq
   exact hq
  ·rename_i q1
   rw[decide_eq_false q1,Bool.false_and] at hq
   exact hq
 ·intro i x bb v H' Q' hx hpk sH hq
  rw[yaj] at hx hpk
  obtain ⟨d,hd,rfl⟩:=Option.map_eq_some_iff.mp hx
  rw[hd] at hpk
  cases hpk
  nofun
  exact hq
 rw[zts es (fun d=>decide (a<d) && decide (d<b)) (fun d=>d),List.map_id']
 obtain ⟨fs,hfs⟩:∃ fs,fs=es.filter fun d=>decide (a<d) && decide (d<b):=⟨_,rfl⟩
 have fl:fs.length<=es.length:=by rw[hfs];exact yav _ _
 rw[<-hfs]
 have s6:=zc n6 (.lst (fs.map V.int))
 nofun
 refine ⟨l6,fs,rfl,SqL.of zf,by ac_rfl,?_⟩
 intro ps' Hs ms ps0 ss es' nd mm lm
 refine ⟨ps',ms,rfl,es',by ac_rfl,?_⟩
 intro lq Hq ns lq0 sq eq pm srt
 refine h lq ns Hq (s5.trans (s6.trans (ss.trans sq))) (zD (s5.trans (s6.trans ss)) lq0) eq (by rw[pm.length_eq];ac_rfl) (zht pm nd srt) fun d=>?_
 rw[pm.mem_iff,mm,hfs,yap,hes,yag,yag,yaf,yaf,yaf,Bool.and_eq_true,decide_eq_true_eq,decide_eq_true_eq]
 constructor
 ·rintro ⟨(⟨s,hs,e⟩ | ⟨s,hs,e⟩) | ⟨s,hs,e⟩,q⟩
  ·exact ⟨q,.inl ⟨s,hs,e.symm⟩⟩
  ·exact ⟨q,.inr ⟨s,hs,.inl e.symm⟩⟩
  ·exact ⟨q,.inr ⟨s,hs,.inr e.symm⟩⟩
 ·rintro ⟨q,⟨s,hs,e⟩ | ⟨s,hs,e | e⟩⟩
  ·exact ⟨.inl (.inl ⟨s,hs,e.symm⟩),q⟩
  ·exact ⟨.inl (.inr ⟨s,hs,e.symm⟩),q⟩
  ·exact ⟨.inr ⟨s,hs,e.symm⟩,q⟩
def zlq (K:W.Frag):Sp:=fun vs H Q _=>∃ x T,vs=[x]/\zwv K H x T/\Q (.bl (decide (T = "int"))) H
theorem zq5:zj ["thing"] ["thing"] (zi zgd):=by walk_at "sp"
theorem zsg (S:Src K mg "is_whole" zgd ["thing"]) (T:Txt K mg)  : Def P w K mg base 1 "is_whole" ["thing"] (zlq K):=by
 exists S.ok,zq5,0
 all_goals obtain ⟨x,Tk,rfl,hk,h⟩:=h
 ·rfl
 refine ⟨_,(zg (zk (zfu (zE zc8 rfl T.zbc PyProof.Rows.boot_isinstance (za (pv 0) (za (zix (v:=.ty "int") rfl T.zoM PyProof.Rows.boot_int rfl) zb))) (zfr (zte (zE zc8 rfl T.zbc PyProof.Rows.boot_isinstance (za (pv 0) (za (zix (v:=.ty "bool") rfl T.zky PyProof.Rows.boot_bool rfl) zb)))))))),?_⟩
 nofun
 refine ⟨_,_,_,_,rfl,hk.1,zvW hk.2,?_⟩
 nofun
 ·refine ⟨_,_,_,_,rfl,hk.1,zuf hk.2,?_⟩
  nofun
  rename_i z
  exact qb h (by rcases z with rfl | rfl <;> decide)
 ·rename_i z
  exact qb h (decide_eq_false fun q=>z (.inl q))
def zjz (K:W.Frag):Sp:=fun vs H Q _=>∃ y,vs=[.int y]/\Q (.bl (Cal.leap y)) H
theorem zsj:zj qai qai (zi zhp):=by walk_at "sp"
theorem ztY (S:Src K mg "is_leap" zhp qai) (T:Txt K mg)  : Def P w K mg base 1 "is_leap" qai (zjz K):=by
 exists S.ok,zsj,0
 all_goals obtain ⟨y,rfl,h⟩:=h
 ·rfl
 refine ⟨_,(zg (zk (zfu (zeI zan (zh zI (pv 0) ze) ze (nomark _)) (zfr (zxw (zeI zoK (zh zI (pv 0) ze) ze (nomark _)) (zfr (zeI zan (zh zI (pv 0) ze) ze (nomark _)))))))),?_⟩
 nofun
 all_goals exact qb h (by simp[Cal.leap,dI, *])
def ze2 (K:W.Frag):Sp:=fun vs H Q _=>∃ y,vs=[.int y]/\Q (.int (Cal.ny y)) H
theorem zh9:zj ["year", "years", "leaps"] qai (zi zf8):=by walk_at "sp"
theorem zsU (S:Src K mg "new_year" zf8 qai) (T:Txt K mg)  : Def P w K mg base 1 "new_year" qai (ze2 K):=by
 exists S.ok,zh9,0
 all_goals obtain ⟨y,rfl,h⟩:=h
 ·rfl
 refine ⟨_,(zd (zo (i:=1) zh9.nd rfl (by walk_at "lc") (zh zV (pv 0) (zbT T.zbU)))
  (zd (zo (i:=2) zh9.nd rfl (by walk_at "lc") (zh zF (zh zV (zh zS (zh zF (pv 1) ze) ze) (zh zS (zh zF (pv 1) ze) ze)) (zh zS (zh zF (pv 1) ze) ze)))
  (zg (zk (zh zF (zh zar ze (pv 1)) (pv 2)))))),?_⟩
 nofun
 all_goals exact qi h (by unfold Cal.ny;ac_rfl)
def zki (K:W.Frag):Sp:=fun vs H Q _=>L2.Ee6 fun p dx u m n x=>L2.Aa3 (vs=[.ref p,.int x]) (Deb K H p dx u m n) (Q .non (upd H p (.ins (cA K "Debt") dx (zau u (Dbt.step u .grow x m n).1 (Dbt.step u .grow x m n).2))))
theorem zp0:zj qat qat (zi ze6):=by walk_at "sp"
theorem zrk (S:zp K (cA K "Debt") "grow" "Debt.grow" ze6 qat) (T:Txt K mg)  : zt P w K mg base 1 (cA K "Debt") "grow" qat (zki K):=by
 exists S.ok,zp0,0
 all_goals obtain ⟨p,dx,u,m,n,x,rfl,e,h⟩:=h
 ·rfl
 refine ⟨_,(zg (zaB T.zH T.zT (pv 0) (zh zF (zad T.zH T.zT (pv 0)) (pv 1)))),?_⟩
 nofun
 refine ⟨p,dx,_,_,rfl,e,rfl,?_⟩
 nofun
 refine ⟨p,dx,_,rfl,e,zbH,?_⟩
 rw[zss]
 exact h
def zgt (K:W.Frag):Sp:=fun vs H Q _=>∃ p dx u,vs=[.ref p,.int u]/\H p=some (.ins (cA K "Debt") dx [])/\Q .non (upd H p (.ins (cA K "Debt") dx (zau u 0 0)))
theorem zpb:zj qaq qaq (zi zfe):=by walk_at "sp"
theorem zri (S:zp K (cA K "Debt") "__init__" "Debt.__init__" zfe qaq) (T:Txt K mg)  : zt P w K mg base 1 (cA K "Debt") "__init__" qaq (zgt K):=by
 exists S.ok,zpb,0
 all_goals obtain ⟨p,dx,u,rfl,e,h⟩:=h
 ·rfl
 refine ⟨_,(zd (zaB T.zH T.zaU (pv 0) (pv 1))
  (zd (zaB T.zH T.zK (pv 0) ze)
  (zg (zaB T.zH T.zT (pv 0) ze)))),?_⟩
 nofun
 refine ⟨p,dx,[],rfl,e,by decide,?_⟩
 nofun
 refine ⟨p,dx,_,rfl,zf,yde (ydc 1) (by decide),?_⟩
 nofun
 refine ⟨p,dx,_,rfl,zf,yde (ydc 2) (by decide),?_⟩
 rw[zX,zX]
 exact h
def zcv (K:W.Frag):Sp:=fun vs H Q _=>L2.Ee5 fun p dx u m n=>L2.Aa4 (vs=[.ref p]) (Deb K H p dx u m n) ((0<u/\u<1152921504606846976)) (Q (.int (n / u)) H)
theorem zqm:zj qaa qaa (zi zfj):=by walk_at "sp"
theorem zrq (S:zp K (cA K "Debt") "owed" "Debt.owed" zfj qaa) (T:Txt K mg)  : zt P w K mg base 1 (cA K "Debt") "owed" qaa (zcv K):=by
 exists S.ok,zqm,0
 all_goals obtain ⟨p,dx,u,m,n,rfl,e,⟨u0,u1⟩,h⟩:=h
 ·rfl
 refine ⟨_,(zg (zk (zh zoS (zad T.zH T.zT (pv 0)) (zad T.zH T.zaU (pv 0))))),?_⟩
 nofun
 refine ⟨p,dx,_,_,rfl,e,rfl,?_⟩
 nofun
 refine ⟨p,dx,_,_,rfl,e,rfl,?_⟩
 nofun
 exact h
def zc3 (K:W.Frag):Sp:=fun vs H Q _=>L2.Ee5 fun p dx u m n=>L2.Aa3 (vs=[.ref p]) (Deb K H p dx u m n) (Q (.int m) H)
theorem zli:zj qaa qaa (zi zce):=by walk_at "sp"
theorem zlY (S:zp K (cA K "Debt") "principal" "Debt.principal" zce qaa) (T:Txt K mg)  : zt P w K mg base 1 (cA K "Debt") "principal" qaa (zc3 K):=by
 exists S.ok,zli,0
 all_goals obtain ⟨p,dx,u,m,n,rfl,e,h⟩:=h
 ·rfl
 refine ⟨_,(zg (zk (zad T.zH T.zK (pv 0)))),?_⟩
 nofun
 refine ⟨p,dx,_,_,rfl,e,rfl,?_⟩
 exact h
def zjX (K:W.Frag):Sp:=fun vs H Q _=>L2.Ee5 fun p dx u m n=>L2.Aa3 (vs=[.ref p]) (Deb K H p dx u m n) (Q (.int n) H)
theorem zom:zj qaa qaa (zi zdS):=by walk_at "sp"
theorem zp9 (S:zp K (cA K "Debt") "units" "Debt.units" zdS qaa) (T:Txt K mg)  : zt P w K mg base 1 (cA K "Debt") "units" qaa (zjX K):=by
 exists S.ok,zom,0
 all_goals obtain ⟨p,dx,u,m,n,rfl,e,h⟩:=h
 ·rfl
 refine ⟨_,(zg (zk (zad T.zH T.zT (pv 0)))),?_⟩
 nofun
 refine ⟨p,dx,_,_,rfl,e,rfl,?_⟩
 exact h
noncomputable def nm:Kd->Str
 | .plain => "plain"
 | .bank => "bank"
 | .thirty => "thirty"
 | .exact => "exact"
def zdG (kd:Kd) (K:W.Frag):Sp:=fun vs H Q _=>∃ a,vs=[.ref a]/\Q (.str (nm kd)) H
theorem zn2:zj qaa qaa (zi zd0):=by walk_at "sp"
theorem zpy (kd:Kd) (hk:kd=.plain) (S:zp K (cA K kd.cls) "name" "Count.name" zd0 qaa) (T:Txt K mg)  : zt P w K mg base 1 (cA K kd.cls) "name" qaa (zdG kd K):=by
 subst hk
 exists S.ok,zn2,0
 all_goals obtain ⟨a,rfl,h⟩:=h
 ·rfl
 refine ⟨_,(zg (zk zC)),?_⟩
 nofun
 exact h
noncomputable def yr:Kd->Int
 | .plain=>365
 | .bank=>360
 | .thirty=>360
 | .exact=>133590
def zcD (kd:Kd) (K:W.Frag):Sp:=fun vs H Q _=>∃ a,vs=[.ref a]/\Q (.int (yr kd)) H
theorem zor:zj qaa qaa (zi zep):=by walk_at "sp"
theorem zqa (kd:Kd) (hk:kd=.plain) (S:zp K (cA K kd.cls) "year" "Count.year" zep qaa) (T:Txt K mg)  : zt P w K mg base 1 (cA K kd.cls) "year" qaa (zcD kd K):=by
 subst hk
 exists S.ok,zor,0
 all_goals obtain ⟨a,rfl,h⟩:=h
 ·rfl
 refine ⟨_,(zg (zk ze)),?_⟩
 nofun
 exact h
theorem zql:zj qaa qaa (zi ze0):=by walk_at "sp"
theorem zqZ (kd:Kd) (hk:kd=.bank) (S:zp K (cA K kd.cls) "name" "Bank.name" ze0 qaa) (T:Txt K mg)  : zt P w K mg base 1 (cA K kd.cls) "name" qaa (zdG kd K):=by
 subst hk
 exists S.ok,zql,0
 all_goals obtain ⟨a,rfl,h⟩:=h
 ·rfl
 refine ⟨_,(zg (zk zC)),?_⟩
 nofun
 exact h
theorem zpD:zj qaa qaa (zi zeZ):=by walk_at "sp"
theorem zre (kd:Kd) (hk:kd=.bank) (S:zp K (cA K kd.cls) "year" "Bank.year" zeZ qaa) (T:Txt K mg)  : zt P w K mg base 1 (cA K kd.cls) "year" qaa (zcD kd K):=by
 subst hk
 exists S.ok,zpD,0
 all_goals obtain ⟨a,rfl,h⟩:=h
 ·rfl
 refine ⟨_,(zg (zk ze)),?_⟩
 nofun
 exact h
theorem zmO:zj qaa qaa (zi zdj):=by walk_at "sp"
theorem zos (kd:Kd) (hk:kd=.thirty) (S:zp K (cA K kd.cls) "name" "Thirty.name" zdj qaa) (T:Txt K mg)  : zt P w K mg base 1 (cA K kd.cls) "name" qaa (zdG kd K):=by
 subst hk
 exists S.ok,zmO,0
 all_goals obtain ⟨a,rfl,h⟩:=h
 ·rfl
 refine ⟨_,(zg (zk zC)),?_⟩
 nofun
 exact h
theorem zna:zj qaa qaa (zi zdh):=by walk_at "sp"
theorem zoC (kd:Kd) (hk:kd=.thirty) (S:zp K (cA K kd.cls) "year" "Thirty.year" zdh qaa) (T:Txt K mg)  : zt P w K mg base 1 (cA K kd.cls) "year" qaa (zcD kd K):=by
 subst hk
 exists S.ok,zna,0
 all_goals obtain ⟨a,rfl,h⟩:=h
 ·rfl
 refine ⟨_,(zg (zk ze)),?_⟩
 nofun
 exact h
theorem zoh:zj qaa qaa (zi zdN):=by walk_at "sp"
theorem zpI (kd:Kd) (hk:kd=.exact) (S:zp K (cA K kd.cls) "name" "Exact.name" zdN qaa) (T:Txt K mg)  : zt P w K mg base 1 (cA K kd.cls) "name" qaa (zdG kd K):=by
 subst hk
 exists S.ok,zoh,0
 all_goals obtain ⟨a,rfl,h⟩:=h
 ·rfl
 refine ⟨_,(zg (zk zC)),?_⟩
 nofun
 exact h
theorem zn7:zj qaa qaa (zi zef):=by walk_at "sp"
theorem zpH (kd:Kd) (hk:kd=.exact) (S:zp K (cA K kd.cls) "year" "Exact.year" zef qaa) (T:Txt K mg)  : zt P w K mg base 1 (cA K kd.cls) "year" qaa (zcD kd K):=by
 subst hk
 exists S.ok,zn7,0
 all_goals obtain ⟨a,rfl,h⟩:=h
 ·rfl
 refine ⟨_,(zg (zk (zh zar ze ze))),?_⟩
 nofun
 exact h
def zbx (K:W.Frag):Sp:=fun vs H Q _=>L2.Ee5 fun p C dx (fs:List (Str × V)) d=>L2.Aa6 (vs=[.ref p,.int d]) (H p=some (.ins C dx fs)) (Cls K C) (zW K C "day") (fs.length<1000) (Q .non (upd H p (.ins C dx (zaS "day" (.int d) fs))))
theorem zjR:zj qab qab (zi zbv):=by walk_at "sp"
theorem zoX (x:Str) (S:zp K (cA K x) "__init__" "Entry.__init__" zbv qab) (T:Txt K mg)  : zt P w K mg base 1 (cA K x) "__init__" qab (zbx K):=by
 exists S.ok,zjR,0
 all_goals obtain ⟨p,C,dx,fs,d,rfl,e,hc,hn,hl,h⟩:=h
 ·rfl
 refine ⟨_,(zg (zkz (pv 0) (pv 1) rfl)),?_⟩
 nofun
 refine ⟨p,C,dx,fs,rfl,e,hc,hn,hl,?_⟩
 exact h
theorem zn0 (S:zo9 K (cA K "Entry") "__init__" "Entry.__init__" zbv qab) (T:Txt K mg)  : znm P w K mg base 1 (cA K "Entry") "__init__" qab (zbx K):=by
 exists S.ok,zjR,0
 all_goals obtain ⟨p,C,dx,fs,d,rfl,e,hc,hn,hl,h⟩:=h
 ·rfl
 refine ⟨_,(zg (zkz (pv 0) (pv 1) rfl)),?_⟩
 nofun
 refine ⟨p,C,dx,fs,rfl,e,hc,hn,hl,?_⟩
 exact h
def zaJ (k:Ek) (K:W.Frag):Sp:=fun vs H Q _=>∃ a,vs=[.ref a]/\Q (.str k.word) H
theorem zod:zj qaa qaa (zi zeg):=by walk_at "sp"
theorem zp7 (kd:Ek) (hk:kd=.base) (S:zp K (cA K kd.cls) "word" "Entry.word" zeg qaa) (T:Txt K mg)  : zt P w K mg base 1 (cA K kd.cls) "word" qaa (zaJ kd K):=by
 subst hk
 exists S.ok,zod,0
 all_goals obtain ⟨a,rfl,h⟩:=h
 ·rfl
 refine ⟨_,(zg (zk zC)),?_⟩
 nofun
 exact h
theorem zrj:zj qaa qaa (zi zgl):=by walk_at "sp"
theorem zsP (kd:Ek) (hk:kd=.out) (S:zp K (cA K kd.cls) "word" "Out.word" zgl qaa) (T:Txt K mg)  : zt P w K mg base 1 (cA K kd.cls) "word" qaa (zaJ kd K):=by
 subst hk
 exists S.ok,zrj,0
 all_goals obtain ⟨a,rfl,h⟩:=h
 ·rfl
 refine ⟨_,(zg (zk zC)),?_⟩
 nofun
 exact h
theorem zqK:zj qaa qaa (zi zgi):=by walk_at "sp"
theorem zsX (kd:Ek) (hk:kd=.fee) (S:zp K (cA K kd.cls) "word" "Fee.word" zgi qaa) (T:Txt K mg)  : zt P w K mg base 1 (cA K kd.cls) "word" qaa (zaJ kd K):=by
 subst hk
 exists S.ok,zqK,0
 all_goals obtain ⟨a,rfl,h⟩:=h
 ·rfl
 refine ⟨_,(zg (zk zC)),?_⟩
 nofun
 exact h
theorem zqY:zj qaa qaa (zi zgk):=by walk_at "sp"
theorem zsq (kd:Ek) (hk:kd=.pay) (S:zp K (cA K kd.cls) "word" "Pay.word" zgk qaa) (T:Txt K mg)  : zt P w K mg base 1 (cA K kd.cls) "word" qaa (zaJ kd K):=by
 subst hk
 exists S.ok,zqY,0
 all_goals obtain ⟨a,rfl,h⟩:=h
 ·rfl
 refine ⟨_,(zg (zk zC)),?_⟩
 nofun
 exact h
theorem zq9:zj qaa qaa (zi zga):=by walk_at "sp"
theorem zsu (kd:Ek) (hk:kd=.due) (S:zp K (cA K kd.cls) "word" "Due.word" zga qaa) (T:Txt K mg)  : zt P w K mg base 1 (cA K kd.cls) "word" qaa (zaJ kd K):=by
 subst hk
 exists S.ok,zq9,0
 all_goals obtain ⟨a,rfl,h⟩:=h
 ·rfl
 refine ⟨_,(zg (zk zC)),?_⟩
 nofun
 exact h
theorem zqB:zj qaa qaa (zi zfc):=by walk_at "sp"
theorem zqE (kd:Ek) (hk:kd=.turn) (S:zp K (cA K kd.cls) "word" "Turn.word" zfc qaa) (T:Txt K mg)  : zt P w K mg base 1 (cA K kd.cls) "word" qaa (zaJ kd K):=by
 subst hk
 exists S.ok,zqB,0
 all_goals obtain ⟨a,rfl,h⟩:=h
 ·rfl
 refine ⟨_,(zg (zk zC)),?_⟩
 nofun
 exact h
theorem zqh:zj qaa qaa (zi zeW):=by walk_at "sp"
theorem zq1 (kd:Ek) (hk:kd=.rate) (S:zp K (cA K kd.cls) "word" "Rate.word" zeW qaa) (T:Txt K mg)  : zt P w K mg base 1 (cA K kd.cls) "word" qaa (zaJ kd K):=by
 subst hk
 exists S.ok,zqh,0
 all_goals obtain ⟨a,rfl,h⟩:=h
 ·rfl
 refine ⟨_,(zg (zk zC)),?_⟩
 nofun
 exact h
theorem zpl:zj qaa qaa (zi zfk):=by walk_at "sp"
theorem zrt (kd:Ek) (hk:kd=.late) (S:zp K (cA K kd.cls) "word" "Late.word" zfk qaa) (T:Txt K mg)  : zt P w K mg base 1 (cA K kd.cls) "word" qaa (zaJ kd K):=by
 subst hk
 exists S.ok,zpl,0
 all_goals obtain ⟨a,rfl,h⟩:=h
 ·rfl
 refine ⟨_,(zg (zk zC)),?_⟩
 nofun
 exact h
theorem zn8:zj qaa qaa (zi zel):=by walk_at "sp"
theorem zqq (kd:Ek) (hk:kd=.still) (S:zp K (cA K kd.cls) "word" "Still.word" zel qaa) (T:Txt K mg)  : zt P w K mg base 1 (cA K kd.cls) "word" qaa (zaJ kd K):=by
 subst hk
 exists S.ok,zn8,0
 all_goals obtain ⟨a,rfl,h⟩:=h
 ·rfl
 refine ⟨_,(zg (zk zC)),?_⟩
 nofun
 exact h
theorem zg1:∀ {xs ys:List Int},xs.Nodup->(∀ x∈xs,x∈ys)->xs.length<=ys.length
 | [],_,_,_=>ydf _
 | x::xs,ys,nd,h=>by
  have hx:=h x yam
  obtain ⟨nx,nd'⟩:=ybm.mp nd
  have:=zg1 (ys:=ys.erase x) nd' fun z hz=>(ycv (fun (q:z=x)=>nx (by rw[<-q];exact hz))).mpr (h z (yak _ hz))
  rw[ycq hx] at this
  have:=ycs hx
  rw[yax]
  omega
def zka (K:W.Frag):Sp:=fun vs H Q _=>∃ (p:Addr) (xs:List V) (l:List (Int × Int)),vs=[.ref p]/\H p=some (.lst xs)/\zy K H xs l/\l.length<=61 /\
 ∀ q H' ws r,H q=none->Same H H'->H' q=some (.lst ws)->zy K H' ws r->Sby.Tab r l->Q (.ref q) H'
theorem zj1:zj ["pairs", "sums", "pair"] qal (zi zjH):=by walk_at "sp"
theorem zug (S:Src K mg "summed" zjH qal) (T:Txt K mg)  : Def P w K mg base 1 "summed" qal (zka K):=by
 exists S.ok,zj1,0
 all_goals obtain ⟨p,xs,l,rfl,ep,hR,hl,h⟩:=h
 ·rfl
 refine ⟨_,(zd (zo (i:=1) zj1.nd rfl (by walk_at "lc") zuP)
  (zd (zcq PassesOwn.never rfl (zQ (pv 0)) (zac (i:=2) zj1.nd rfl (by walk_at "lc"))
  (zg (zvS (pv 1) (zB zap (pv 2) ze (fun _ _=>rfl)) (zh zF (zru (pv 1) (zB zap (pv 2) ze (fun _ _=>rfl)) ze) (zB zap (pv 2) ze (fun _ _=>rfl))))))
  (zg (zk (zE (zkd rfl) rfl T.zbJ PyProof.Rows.boot_sorted (za (zpZ (pv 1)) zb)))))),?_⟩
 nofun
 intro d nd
 have sd:=zc nd (zca P w d [])
 have ed:=zq (zca P w d []) nd
 have small:∀ {acc:List (Int × Int)} {n:Nat},Sby.Tot acc (l.take n)->acc.length<=61:=fun {acc n} t=>by
  have:=zg1 t.nd fun k hk=>(t.mem k).mp hk
  rw[yab,yab,yaq] at this
  ac_rfl
 nofun
 refine ⟨⟨_,SqL.of (sd _ _ ep)⟩,zcr (xs:=xs) (fun i σ H'=>∃ (acc:List (Int × Int)) (z:Option V),(Same H H'/\H' d=some (zca P w d acc))/\Sby.Tot acc (l.take i)/\σ=[some (.ref p),some (.ref d),z]) ⟨[],_,⟨sd,ed⟩,by rw[List.take_zero];exact Sby.Tot.nil,rfl⟩ ?_ ?_ ?_⟩
 ·rintro i σ H' _ ⟨acc,z,⟨sH,_⟩,_⟩
  exact SqL.of (sH _ _ ep)
 ·rintro i x σ H' hx ⟨acc,z,⟨sH,eD⟩,tt,rfl⟩
  obtain ⟨t,s,rfl,hs,ht⟩:=(hR.same sH).get hx
  have al:=small tt
  nofun
  refine ⟨d,acc,rfl,eD,?_⟩
  nofun
  refine ⟨eD,?_⟩
  rw[tt.look]
  nofun
  refine ⟨d,acc,s.1,_,rfl,rfl,rfl,eD,ydh al (by decide),?_⟩
  refine ⟨zax acc s.1 (Sby.sm (l.take i) s.1+s.2),_,⟨zN sH nd,zf⟩,?_,rfl⟩
  rw[ybe,hs]
  exact tt.step s.1 s.2
 ·rintro σ H' ⟨acc,z,⟨sH,eD⟩,tt,rfl⟩
  have al:=small tt
  rw[hR.length,yck] at tt
  nofun
  refine ⟨d,acc,rfl,eD,fun v H2 nv s2 ev=>?_⟩
  nofun
  refine ⟨v,d,acc,rfl,ev,s2 _ _ eD,by ac_rfl,fun q H3 ws r nq s3 eq hr' pm up=>?_⟩
  exact h q H3 ws r (zD (sH.trans s2) nq) (sH.trans (s2.trans s3)) eq hr' (tt.tab pm up)
def zdg (K:W.Frag):Sp:=fun vs H Q _=>∃ (a:Addr) (A:BkA) (b:BkT),vs=[.ref a]/\zaD K H a A b/\Q (.ref A.c) H
theorem zox:zj qaa qaa (zi zei):=by walk_at "sp"
theorem zqu (S:zp K (cA K "Book") "count" "Book.count" zei qaa) (T:Txt K mg)  : zt P w K mg base 1 (cA K "Book") "count" qaa (zdg K):=by
 exists S.ok,zox,0
 all_goals obtain ⟨a,A,b,rfl,B,h⟩:=h
 ·rfl
 refine ⟨_,(zg (zk (zad T.zu T.zbM (pv 0)))),?_⟩
 nofun
 refine ⟨a,A.dx,_,_,rfl,B.ins,rfl,?_⟩
 exact h
def zf1 (K:W.Frag):Sp:=fun vs H Q _=>∃ (a:Addr) (A:BkA) (b:BkT),vs=[.ref a]/\zaD K H a A b/\b.outs.length+b.fees.length+b.pays.length+b.turns.length<63 /\
 ∀ p (ns:List Int) H',H p=none->Same H H'->H' p=some (.lst (ns.map V.int))->ns.Pairwise (·<·)->(∀ d,d∈ns↔DDay b d)->ns.length<=b.outs.length+b.fees.length+b.pays.length+b.turns.length->Q (.ref p) H'
theorem zf2:zj ["self", "days"] qaa (zi zb3):=by walk_at "sp"
theorem zl3 (S:zp K (cA K "Book") "deed_days" "Book.deed_days" zb3 qaa) (T:Txt K mg)  : zt P w K mg base 1 (cA K "Book") "deed_days" qaa (zf1 K):=by
 exists S.ok,zf2,0
 all_goals obtain ⟨a,A,b,rfl,B,osz,h⟩:=h
 ·rfl
 refine ⟨_,(zd (zr8 (i:=1) zf2.nd rfl rfl (ix:=[]) ⟨rfl,by decide +kernel,rfl,by decide +kernel,rfl,(show (["row"]:List Str).Nodup by decide +kernel),by walk_at "cap", by walk_at "sub", by walk_at "has"⟩ (zQ (zh zbf (zh zbf (zad T.zu T.zbm (pv 0)) (zad T.zu T.zbp (pv 0))) (zad T.zu T.zbs (pv 0)))) (fun b=>(zB (zaK K) (pv 0) ze (fun _ _=>rfl))))
  (zg (zk (zE (zcy rfl) rfl T.zbJ PyProof.Rows.boot_sorted (za (zU (zcC rfl) rfl T.zge PyProof.Rows.boot_set (za (zh zbf (pv 1) (zad T.zu T.zbe (pv 0))) zb)) zb))))),?_⟩
 have sz:=sizeLine_eq
 obtain ⟨x1,e1,r1,l1⟩:=B.outs
 obtain ⟨x2,e2,r2,l2⟩:=B.fees
 obtain ⟨x3,e3,r3,l3⟩:=B.pays
 have c1:=r1.length
 have c2:=r2.length
 have c3:=r3.length
 nofun
 refine ⟨a,A.dx,_,_,rfl,B.ins,rfl,?_⟩
 nofun
 refine ⟨a,A.dx,_,_,rfl,B.ins,rfl,?_⟩
 nofun
 refine ⟨A.o,A.f,x1,x2,rfl,rfl,e1,e2,by ac_rfl,fun q3 n3=>?_⟩
 have t3:=zc n3 (.lst (x1++x2))
 have f3:=zq (.lst (x1++x2)) n3
 have B3:=B.same t3
 nofun
 refine ⟨a,A.dx,_,_,rfl,B3.ins,rfl,?_⟩
 nofun
 refine ⟨q3,A.p,x1++x2,x3,rfl,rfl,f3,t3 _ _ e3,by rw[yad];ac_rfl,fun q5 n5=>?_⟩
 have t5:=zc n5 (.lst (x1++x2++x3))
 have f5:=zq (.lst (x1++x2++x3)) n5
 have s5:=t3.trans t5
 have rX:zy K _ (x1++x2++x3) (b.outs++b.fees++b.pays):=zjA (zjA (r1.same s5) (r2.same s5)) (r3.same s5)
 have B5:=B.same s5
 generalize upd (upd H q3 (.lst (x1++x2))) q5 (.lst (x1++x2++x3))=H5 at rX s5 f5 B5 ⊢
 have xl:=rX.length
 nofun
 refine ⟨⟨_,SqL.of f5⟩,fun l6 n6=>?_⟩
 have gd:∀ (u:List (Int × Int)) (f:Int × Int->Int) (i:Nat) (s:Int × Int),u[i]?=some s->(u.map f).getD i 0=f s:=fun u f i s e=>by
  rw[yae,yaj,e];rfl
 have xl2:(x1++x2++x3).length<=63:=by rw[yad,yad];ac_rfl
 refine zdK (fun i v=>v=.int (((b.outs++b.fees++b.pays).map (·.1)).getD i 0)) (SqL.of f5) n6 (by ac_rfl) ?_ ?_
 ·intro i x H' Q' hx sH hq
  obtain ⟨p,s,rfl,e,ht⟩:=rX.get hx
  nofun
  exact ⟨p,_,_,_,rfl,rfl,SqT.of (sH _ _ ht),rfl,hq _ (by rw[gd _ _ i s e])⟩
 intro ys1 len1 hp1
 obtain rfl:=zgr (ns:=(b.outs++b.fees++b.pays).map (·.1)) (by rw[len1,yab,xl]) hp1
 have s6:=zc n6 (.lst (((b.outs++b.fees++b.pays).map (·.1)).map V.int))
 have e6:=zq (.lst (((b.outs++b.fees++b.pays).map (·.1)).map V.int)) n6
 have kl:((b.outs++b.fees++b.pays).map (·.1)).length=b.outs.length+b.fees.length+b.pays.length:=by rw[yab,yad,yad]
 have B6:=B5.same s6
 generalize hD1:(b.outs++b.fees++b.pays).map (·.1)=D1 at *
 nofun
 refine ⟨a,A.dx,_,_,rfl,B6.ins,rfl,?_⟩
 nofun
 refine ⟨l6,A.t,_,_,rfl,rfl,e6,B6.turns,by rw[yab,yab];ac_rfl,fun q7 n7=>?_⟩
 have cat:D1.map V.int++b.turns.map V.int=(D1++b.turns).map V.int:=by rw[yan]
 rw[cat]
 have s7:=zc n7 (.lst ((D1++b.turns).map V.int))
 have e7:=zq (.lst ((D1++b.turns).map V.int)) n7
 have s07:=s5.trans (s6.trans s7)
 generalize upd (upd H5 l6 (.lst (D1.map V.int))) q7 (.lst ((D1++b.turns).map V.int))=H7 at s07 e7 ⊢
 have dl:(D1++b.turns).length=b.outs.length+b.fees.length+b.pays.length+b.turns.length:=by rw[yad];ac_rfl
 nofun
 refine ⟨q7,_,rfl,SqL.of e7,by ac_rfl,fun pS HS ms nPS sPS ePS2 nd mm lm=>?_⟩
 nofun
 refine ⟨pS,ms,rfl,ePS2,by ac_rfl,fun pR HR ns nPR sPR ePR pm up=>?_⟩
 refine h pR ns HR (zD (s07.trans sPS) nPR) (s07.trans (sPS.trans sPR)) ePR (zht pm nd up) (fun d=>?_) (by rw[pm.length_eq];ac_rfl)
 rw[pm.mem_iff,mm,yag,<-hD1]
 exact Iff.rfl
def zg6 (K:W.Frag):Sp:=fun vs H Q _=>∃ (a:Addr) (A:BkA) (b:BkT),vs=[.ref a]/\zaD K H a A b/\∀ q xs,H q=none->zy K H xs b.dues->b.dues.length<=1000->Q (.ref q) (upd H q (.lst xs))
theorem zp8:zj qaa qaa (zi ze1):=by walk_at "sp"
theorem zqX (S:zp K (cA K "Book") "dues" "Book.dues" ze1 qaa) (T:Txt K mg)  : zt P w K mg base 1 (cA K "Book") "dues" qaa (zg6 K):=by
 exists S.ok,zp8,0
 all_goals obtain ⟨a,A,b,rfl,B,h⟩:=h
 ·rfl
 refine ⟨_,(zg (zk (zU zaO rfl T.zcg PyProof.Rows.boot_list (za (zad T.zu T.zb8 (pv 0)) zb)))),?_⟩
 obtain ⟨xs,e,hR,hl⟩:=B.dues
 nofun
 refine ⟨a,A.dx,_,_,rfl,B.ins,rfl,?_⟩
 nofun
 exact ⟨A.d,xs,rfl,.inl (SqL.of e),fun q nq=>h q xs nq hR hl⟩
def zdW (K:W.Frag):Sp:=fun vs H Q _=>∃ (a:Addr) (A:BkA) (b:BkT),vs=[.ref a]/\zaD K H a A b/\∀ q xs,H q=none->zy K H xs b.fees->b.fees.length<=1000->Q (.ref q) (upd H q (.lst xs))
theorem zpd:zj qaa qaa (zi zfa):=by walk_at "sp"
theorem zrc (S:zp K (cA K "Book") "fees" "Book.fees" zfa qaa) (T:Txt K mg)  : zt P w K mg base 1 (cA K "Book") "fees" qaa (zdW K):=by
 exists S.ok,zpd,0
 all_goals obtain ⟨a,A,b,rfl,B,h⟩:=h
 ·rfl
 refine ⟨_,(zg (zk (zU zaO rfl T.zcg PyProof.Rows.boot_list (za (zad T.zu T.zbp (pv 0)) zb)))),?_⟩
 obtain ⟨xs,e,hR,hl⟩:=B.fees
 nofun
 refine ⟨a,A.dx,_,_,rfl,B.ins,rfl,?_⟩
 nofun
 exact ⟨A.f,xs,rfl,.inl (SqL.of e),fun q nq=>h q xs nq hR hl⟩
def zfS (K:W.Frag):Sp:=fun vs H Q _=>∃ (a:Addr) (A:BkA) (b:BkT),vs=[.ref a]/\zaD K H a A b/\Q (.int b.g) H
theorem zn1:zj qaa qaa (zi zeo):=by walk_at "sp"
theorem zpU (S:zp K (cA K "Book") "grace" "Book.grace" zeo qaa) (T:Txt K mg)  : zt P w K mg base 1 (cA K "Book") "grace" qaa (zfS K):=by
 exists S.ok,zn1,0
 all_goals obtain ⟨a,A,b,rfl,B,h⟩:=h
 ·rfl
 refine ⟨_,(zg (zk (zad T.zu T.zbO (pv 0)))),?_⟩
 nofun
 refine ⟨a,A.dx,_,_,rfl,B.ins,rfl,?_⟩
 exact h
def zdn (K:W.Frag):Sp:=fun vs H Q _=>∃ (a:Addr) (A:BkA) (b:BkT),vs=[.ref a]/\zaD K H a A b/\∀ q xs,H q=none->zy K H xs b.lates->b.lates.length<=1000->Q (.ref q) (upd H q (.lst xs))
theorem zok:zj qaa qaa (zi zeh):=by walk_at "sp"
theorem zpL (S:zp K (cA K "Book") "lates" "Book.lates" zeh qaa) (T:Txt K mg)  : zt P w K mg base 1 (cA K "Book") "lates" qaa (zdn K):=by
 exists S.ok,zok,0
 all_goals obtain ⟨a,A,b,rfl,B,h⟩:=h
 ·rfl
 refine ⟨_,(zg (zk (zU zaO rfl T.zcg PyProof.Rows.boot_list (za (zad T.zu T.zbP (pv 0)) zb)))),?_⟩
 obtain ⟨xs,e,hR,hl⟩:=B.lates
 nofun
 refine ⟨a,A.dx,_,_,rfl,B.ins,rfl,?_⟩
 nofun
 exact ⟨A.l,xs,rfl,.inl (SqL.of e),fun q nq=>h q xs nq hR hl⟩
def zha (K:W.Frag):Sp:=fun vs H Q _=>∃ (a:Addr) (A:BkA) (b:BkT),vs=[.ref a]/\zaD K H a A b/\∀ q xs,H q=none->zy K H xs b.outs->b.outs.length<=1000->Q (.ref q) (upd H q (.lst xs))
theorem zpB:zj qaa qaa (zi zfm):=by walk_at "sp"
theorem zq3 (S:zp K (cA K "Book") "outs" "Book.outs" zfm qaa) (T:Txt K mg)  : zt P w K mg base 1 (cA K "Book") "outs" qaa (zha K):=by
 exists S.ok,zpB,0
 all_goals obtain ⟨a,A,b,rfl,B,h⟩:=h
 ·rfl
 refine ⟨_,(zg (zk (zU zaO rfl T.zcg PyProof.Rows.boot_list (za (zad T.zu T.zbm (pv 0)) zb)))),?_⟩
 obtain ⟨xs,e,hR,hl⟩:=B.outs
 nofun
 refine ⟨a,A.dx,_,_,rfl,B.ins,rfl,?_⟩
 nofun
 exact ⟨A.o,xs,rfl,.inl (SqL.of e),fun q nq=>h q xs nq hR hl⟩
def zbR (K:W.Frag):Sp:=fun vs H Q _=>∃ (a:Addr) (A:BkA) (b:BkT),vs=[.ref a]/\zaD K H a A b/\∀ q xs,H q=none->zy K H xs b.pays->b.pays.length<=1000->Q (.ref q) (upd H q (.lst xs))
theorem zo6:zj qaa qaa (zi zfb):=by walk_at "sp"
theorem zqR (S:zp K (cA K "Book") "pays" "Book.pays" zfb qaa) (T:Txt K mg)  : zt P w K mg base 1 (cA K "Book") "pays" qaa (zbR K):=by
 exists S.ok,zo6,0
 all_goals obtain ⟨a,A,b,rfl,B,h⟩:=h
 ·rfl
 refine ⟨_,(zg (zk (zU zaO rfl T.zcg PyProof.Rows.boot_list (za (zad T.zu T.zbs (pv 0)) zb)))),?_⟩
 obtain ⟨xs,e,hR,hl⟩:=B.pays
 nofun
 refine ⟨a,A.dx,_,_,rfl,B.ins,rfl,?_⟩
 nofun
 exact ⟨A.p,xs,rfl,.inl (SqL.of e),fun q nq=>h q xs nq hR hl⟩
def zdm (K:W.Frag):Sp:=fun vs H Q _=>∃ (a:Addr) (A:BkA) (b:BkT),vs=[.ref a]/\zaD K H a A b/\∀ q xs,H q=none->zy K H xs b.rates->b.rates.length<=1000->Q (.ref q) (upd H q (.lst xs))
theorem zoj:zj qaa qaa (zi zd6):=by walk_at "sp"
theorem zoO (S:zp K (cA K "Book") "rates" "Book.rates" zd6 qaa) (T:Txt K mg)  : zt P w K mg base 1 (cA K "Book") "rates" qaa (zdm K):=by
 exists S.ok,zoj,0
 all_goals obtain ⟨a,A,b,rfl,B,h⟩:=h
 ·rfl
 refine ⟨_,(zg (zk (zU zaO rfl T.zcg PyProof.Rows.boot_list (za (zad T.zu T.zbQ (pv 0)) zb)))),?_⟩
 obtain ⟨xs,e,hR,hl⟩:=B.rates
 nofun
 refine ⟨a,A.dx,_,_,rfl,B.ins,rfl,?_⟩
 nofun
 exact ⟨A.r,xs,rfl,.inl (SqL.of e),fun q nq=>h q xs nq hR hl⟩
def zcK (K:W.Frag):Sp:=fun vs H Q _=>∃ (a:Addr) (A:BkA) (b:BkT),vs=[.ref a]/\zaD K H a A b/\∀ q xs,H q=none->zy K H xs b.spans->b.spans.length<=1000->Q (.ref q) (upd H q (.lst xs))
theorem zm4:zj qaa qaa (zi zdk):=by walk_at "sp"
theorem zob (S:zp K (cA K "Book") "stills" "Book.stills" zdk qaa) (T:Txt K mg)  : zt P w K mg base 1 (cA K "Book") "stills" qaa (zcK K):=by
 exists S.ok,zm4,0
 all_goals obtain ⟨a,A,b,rfl,B,h⟩:=h
 ·rfl
 refine ⟨_,(zg (zk (zU zaO rfl T.zcg PyProof.Rows.boot_list (za (zad T.zu T.zch (pv 0)) zb)))),?_⟩
 obtain ⟨xs,e,hR,hl⟩:=B.spans
 nofun
 refine ⟨a,A.dx,_,_,rfl,B.ins,rfl,?_⟩
 nofun
 exact ⟨A.s,xs,rfl,.inl (SqL.of e),fun q nq=>h q xs nq hR hl⟩
def zfz (K:W.Frag):Sp:=fun vs H Q _=>∃ (a:Addr) (A:BkA) (b:BkT),vs=[.ref a]/\zaD K H a A b/\∀ q,H q=none->Q (.ref q) (upd H q (.lst (b.turns.map V.int)))
theorem zoi:zj qaa qaa (zi zee):=by walk_at "sp"
theorem zpo (S:zp K (cA K "Book") "turns" "Book.turns" zee qaa) (T:Txt K mg)  : zt P w K mg base 1 (cA K "Book") "turns" qaa (zfz K):=by
 exists S.ok,zoi,0
 all_goals obtain ⟨a,A,b,rfl,B,h⟩:=h
 ·rfl
 refine ⟨_,(zg (zk (zU zaO rfl T.zcg PyProof.Rows.boot_list (za (zad T.zu T.zbe (pv 0)) zb)))),?_⟩
 nofun
 refine ⟨a,A.dx,_,_,rfl,B.ins,rfl,?_⟩
 nofun
 exact ⟨A.t,_,rfl,.inl (SqL.of B.turns),fun q nq=>h q nq⟩
def zjL (K:W.Frag):Sp:=fun vs H Q _=>∃ i,vs=[.int i]/\Q (.bl true) H
theorem zon:zj qau qau (zi zdQ):=by walk_at "sp"
theorem zqp (S:Src K mg "_law_whole" zdQ qau) (T:Txt K mg)  : Def P w K mg base 1 "_law_whole" qau (zjL K):=by
 exists S.ok,zon,0
 all_goals obtain ⟨i,rfl,h⟩:=h
 ·rfl
 refine ⟨_,(zg (zk (zfu (zE zc8 rfl T.zbc PyProof.Rows.boot_isinstance (za (pv 0) (za (zix (v:=.ty "int") rfl T.zoM PyProof.Rows.boot_int rfl) zb))) (zfr (zte (zE zc8 rfl T.zbc PyProof.Rows.boot_isinstance (za (pv 0) (za (zix (v:=.ty "bool") rfl T.zky PyProof.Rows.boot_bool rfl) zb)))))))),?_⟩
 nofun
 refine ⟨_,_,_,_,rfl,.int i,zwM,?_⟩
 nofun
 refine ⟨_,_,_,_,rfl,.int i,zwy,?_⟩
 nofun
 exact h
def zkI (K:W.Frag):Sp:=fun vs H Q _=>L2.Ee4 fun a (ns:List Int) k m=>L2.Aa6 (vs=[.ref a,.int k,.int m]) (SqL K H a (ns.map V.int)) (0<=k) (k<=1000000) (0<m) (∀ r,0<=r->r<m->Q (.int r) H)
theorem zcu:zj ["_law_script", "_law_k", "_law_many", "_law_cell_here", "_law_one", "_law_other"] qbg (zi zfp):=by walk_at "sp"
theorem zqJ (S:Src K mg "_law_draw" zfp qbg) (T:Txt K mg)  : Def P w K mg base 1 "_law_draw" qbg (zkI K):=by
 exists S.ok,zcu,0
 all_goals obtain ⟨a,ns,k,m,rfl,hS,h0,h1,hm,h⟩:=h
 ·rfl
 refine ⟨_,(zd (zo (i:=3) zcu.nd rfl (by walk_at "lc") ze)
  (zd (zda (zP (zw zfd (zE zam rfl T.zbD PySem.boot_len (za (pv 0) zb)) ze (nomark _))
  (zg (zo (i:=3) zcu.nd rfl (by walk_at "lc") (zB zag (pv 0) (zh zI (pv 1) (zE zam rfl T.zbD PySem.boot_len (za (pv 0) zb))) (fun _ _=>rfl))))
   zJ))
  (zd (zda (zP (PW.pt (zc9 (zw zfd (pv 3) (zby (v:=1000000000000000000) (by decide +kernel) ⟨by decide,by decide,by decide⟩) (nomark _)) (zc9 (zw zan (zh zI (pv 3) ze) ze (nomark _)) (zdI (zw ze4 (pv 1) (zE zam rfl T.zbD PySem.boot_len (za (pv 0) zb)) (nomark _))))))
  (zg (zk (zh zI (zh zS (pv 3) ze) (pv 2))))
   zJ))
  (zd (zo (i:=4) zcu.nd rfl (by walk_at "lc") (zh zI (zh zar (zh zF (zh zI (pv 3) ze) ze) (zh zF ze (zh zar (zh zar ze (pv 1)) (zh zF (pv 1) ze)))) ze))
  (zd (zo (i:=5) zcu.nd rfl (by walk_at "lc") (zh zI (zh zF (zh zar (pv 4) (pv 4)) ze) ze))
  (zg (zk (zh zI (zh zS (zh zI (zh zF (pv 4) (zh zar (pv 5) ze)) ze) ze) (pv 2))))))))),?_⟩
 have fin:∀ r:Int,Q (.int (r % m)) H:=fun r=>h _ (yeb r (by ac_rfl)) (yec r hm)
 nofun
 refine ⟨fun σ' H'=>H=H'/\∃ c:Int,σ'=[some (.ref a),some (.int k),some (.int m),some (.int c),none,none],?_,?_⟩
 ·nofun
  ·have hl:0<(ns.length:Int):=by
    have e:=yab (f:=V.int) (as:=ns)
    ac_rfl
   have e:k % ((ns.map V.int).length:Int)=k % (ns.length:Int):=by rw[yab]
   refine ⟨a,_,_,_,rfl,rfl,hS,(by rw[e];exact zrR (yeb k (by ac_rfl)) (yec k hl)),?_⟩
   nofun
   first | exact ⟨rfl,_,rfl⟩ | exact ⟨_,rfl⟩
  ·first | exact ⟨rfl,_,rfl⟩ | exact ⟨_,rfl⟩
 rintro σ' H' ⟨rfl,c,rfl⟩
 refine ⟨fun σ' H'=>H=H'/\σ'=[some (.ref a),some (.int k),some (.int m),some (.int c),none,none],?_,?_⟩
 ·nofun
  all_goals first | exact ⟨rfl,rfl⟩ | rfl | exact fin _
 rintro σ' H' ⟨rfl,rfl⟩
 nofun
 exact fin _
def zkp (K:W.Frag):Sp:=fun vs H Q _=>∃ c b,vs=[.int c,.int b]/\0<=c/\(0<=b/\b<=999699) /\
 ∀ t k d x H',H t=none->Same H H'->H' t=some (.tup (zc4 k d x))->Sg 0 b (k,d,x)->Q (.ref t) H'
theorem zbo:zj ["_law_cell_here", "_law_base", "_law_word", "_law_day", "_law_rest", "_law_size", "_law_amount"] qbh (zi ze7):=by walk_at "sp"
theorem zrd (S:Src K mg "_law_spec" ze7 qbh) (T:Txt K mg)  : Def P w K mg base 1 "_law_spec" qbh (zkp K):=by
 exists S.ok,zbo,0
 all_goals obtain ⟨c,b,rfl,c0,⟨b0,b1⟩,h⟩:=h
 ·rfl
 refine ⟨_,(zd (zo (i:=2) zbo.nd rfl (by walk_at "lc") (zB zag (zaj (za zC (za zC (za zC (za zC (za zC (za zC (za zC (za zC (za zC (za zC zb))))))))))) (zh zI (pv 0) ze) (fun _ _=>rfl)))
  (zd (zo (i:=3) zbo.nd rfl (by walk_at "lc") (zh zF (pv 1) (zB zag (zaj (za (zh zI (zh zS (pv 0) ze) ze) (za (zh zar (zh zI (zh zS (pv 0) ze) ze) ze) zb))) (zh zI (zh zS (pv 0) ze) ze) (fun _ _=>rfl))))
  (zd (zo (i:=4) zbo.nd rfl (by walk_at "lc") (zh zS (pv 0) ze))
  (zd (zP (zw zj7 (pv 2) (zO (za zC (za zC zb))) (by with_unfolding_all rfl))
  (zg (zk (zO (za (pv 2) (za (pv 3) (za (zB zag (zaj (za ze (za ze (za (zby (v:=1000000) (by decide +kernel) ⟨by decide,by decide,by decide⟩) (za (zh zI (zh zS (pv 4) ze) (zh zF (zby (v:=1000000) (by decide +kernel) ⟨by decide,by decide,by decide⟩) ze)) zb))))) (zh zI (pv 4) ze) (fun _ _=>rfl)) zb))))))
   zJ)
  (zd (zP (zw zan (pv 2) zC (nomark _))
  (zg (zk (zO (za (pv 2) (za (pv 3) (za (zh zF (zh zF (pv 3) ze) (zh zI (pv 4) ze)) zb))))))
   zJ)
  (zd (zP (zw zan (pv 2) zC (nomark _))
  (zg (zk (zO (za (pv 2) (za (pv 3) (za ze zb))))))
   zJ)
  (zd (zo (i:=5) zbo.nd rfl (by walk_at "lc") (zB zag (zaj (za ze (za (zby (v:=1000000000) (by decide +kernel) ⟨by decide,by decide,by decide⟩) (za (zby (v:=1000000) (by decide +kernel) ⟨by decide,by decide,by decide⟩) (za (zby (v:=10000) (by decide +kernel) ⟨by decide,by decide,by decide⟩) zb))))) (zh zI (pv 4) ze) (fun _ _=>rfl)))
  (zd (zo (i:=6) zbo.nd rfl (by walk_at "lc") (zh zF ze (zh zI (zh zS (pv 4) ze) (pv 5))))
  (zd (zP (PW.pt (zc9 (zw zan (pv 2) zC (nomark _)) (zdI (zw zan (zh zI (zh zS (pv 4) ze) ze) ze (nomark _)))))
  (zg (zo (i:=6) zbo.nd rfl (by walk_at "lc") (zh zV ze (pv 6))))
   zJ)
  (zg (zk (zO (za (pv 2) (za (pv 3) (za (pv 6) zb))))))))))))))),?_⟩
 nofun
 intro q1 nq1
 have s1:=zc nq1 (.lst [.str "out", .str "pay", .str "due", .str "pay", .str "fee", .str "due", .str "rate", .str "late", .str "turn", .str "still"])
 obtain ⟨v,hv,hm⟩:=zcf (xs:=[.str "out", .str "pay", .str "due", .str "pay", .str "fee", .str "due", .str "rate", .str "late", .str "turn", .str "still"]) (k:=c % 10) (by ac_rfl) (by simp;ac_rfl)
 obtain ⟨k,rfl,hk⟩:=((zaf ⟨.out,rfl,by simp⟩ (zaf ⟨.pay,rfl,by simp⟩ (zaf ⟨.due,rfl,by simp⟩ (zaf ⟨.pay,rfl,by simp⟩ (zaf ⟨.fee,rfl,by simp⟩ (zaf ⟨.due,rfl,by simp⟩ (zaf ⟨.rate,rfl,by simp⟩ (zaf ⟨.late,rfl,by simp⟩ (zaf ⟨.turn,rfl,by simp⟩ (zaf ⟨.still,rfl,by simp⟩ zii)))))))))):∀ v∈([.str "out", .str "pay", .str "due", .str "pay", .str "fee", .str "due", .str "rate", .str "late", .str "turn", .str "still"]:List V),∃ k:Ek,v=.str k.word/\k≠.base) v hm
 nofun
 refine ⟨q1,_,_,_,rfl,rfl,SqL.of zf,hv,?_⟩
 clear hv hm
 generalize upd H q1 _=H1 at s1 ⊢
 nofun
 intro q2 nq2
 have s2:=zc nq2 (.lst [.int (c / 10 % 60),.int (c / 10 % 12*5)])
 obtain ⟨v,hv,hm⟩:=zcf (xs:=[.int (c / 10 % 60),.int (c / 10 % 12*5)]) (k:=c / 600 % 2) (by ac_rfl) (by simp;ac_rfl)
 obtain ⟨e,rfl,e0,e1⟩:=(zaf ⟨_,rfl,by ac_rfl,by ac_rfl⟩ (zaf ⟨_,rfl,by ac_rfl,by ac_rfl⟩ zii):∀ v∈([.int (c / 10 % 60),.int (c / 10 % 12*5)]:List V),∃ w:Int,v=.int w/\0<=w/\w<=59) v hm
 nofun
 refine ⟨q2,_,_,_,rfl,rfl,SqL.of zf,hv,?_⟩
 clear hv hm
 generalize upd H1 q2 _=H2 at s2 ⊢
 have sA:=s1.trans s2
 nofun
 obtain ⟨D,hD⟩:∃ D,D=b+e:=⟨_,rfl⟩
 have d0:b<=D:=by ac_rfl
 have d1:D<=b+59+8*0:=by ac_rfl
 dsimp only
 rw[<-hD]
 clear hD e0 e1
 clear s1 s2
 cases k
 all_goals first | exact absurd rfl hk | skip
 all_goals dsimp only [Ek.word]
 all_goals nofun
 case out =>
  intro t nt
  have st:=zc nt (.tup [.str "rate", .str "late"])
  nofun
  refine ⟨t,_,rfl,.inr (SqT.of zf),rfl,rfl,_,rfl,?_⟩
  generalize upd H2 t (.tup [.str "rate", .str "late"])=H3 at st ⊢
  have sB:=sA.trans st
  nofun
  intro q3 nq3
  have s3:=zc nq3 (.lst [.int 9,.int 1000000000,.int 1000000,.int 10000])
  obtain ⟨v,hv,hm⟩:=zcf (xs:=[.int 9,.int 1000000000,.int 1000000,.int 10000]) (k:=c / 1200 % 4) (by ac_rfl) (by simp;ac_rfl)
  obtain ⟨u,rfl,u0⟩:=(zaf ⟨_,rfl,by ac_rfl⟩ (zaf ⟨_,rfl,by ac_rfl⟩ (zaf ⟨_,rfl,by ac_rfl⟩ (zaf ⟨_,rfl,by ac_rfl⟩ zii))):∀ v∈([.int 9,.int 1000000000,.int 1000000,.int 10000]:List V),∃ w:Int,v=.int w/\0<w) v hm
  nofun
  refine ⟨q3,_,_,_,rfl,rfl,SqL.of zf,hv,?_⟩
  clear hv hm
  generalize upd H3 q3 _=H4 at s3 ⊢
  have sC:=sB.trans s3
  have m0:=yeb (c / 1200 / 4) (show u≠0 by ac_rfl)
  nofun
  intro t2 nt2
  exact h t2 .out D _ _ (zD sC nt2) (sC.trans (zc nt2 _)) zf ⟨d0,d1,by show 1<=1+c / 1200 / 4 % u;ac_rfl⟩
 case pay =>
  intro t nt
  have st:=zc nt (.tup [.str "rate", .str "late"])
  nofun
  refine ⟨t,_,rfl,.inr (SqT.of zf),rfl,rfl,_,rfl,?_⟩
  generalize upd H2 t (.tup [.str "rate", .str "late"])=H3 at st ⊢
  have sB:=sA.trans st
  nofun
  intro q3 nq3
  have s3:=zc nq3 (.lst [.int 9,.int 1000000000,.int 1000000,.int 10000])
  obtain ⟨v,hv,hm⟩:=zcf (xs:=[.int 9,.int 1000000000,.int 1000000,.int 10000]) (k:=c / 1200 % 4) (by ac_rfl) (by simp;ac_rfl)
  obtain ⟨u,rfl,u0⟩:=(zaf ⟨_,rfl,by ac_rfl⟩ (zaf ⟨_,rfl,by ac_rfl⟩ (zaf ⟨_,rfl,by ac_rfl⟩ (zaf ⟨_,rfl,by ac_rfl⟩ zii))):∀ v∈([.int 9,.int 1000000000,.int 1000000,.int 10000]:List V),∃ w:Int,v=.int w/\0<w) v hm
  nofun
  refine ⟨q3,_,_,_,rfl,rfl,SqL.of zf,hv,?_⟩
  clear hv hm
  generalize upd H3 q3 _=H4 at s3 ⊢
  have sC:=sB.trans s3
  have m0:=yeb (c / 1200 / 4) (show u≠0 by ac_rfl)
  nofun
  intro t2 nt2
  exact h t2 .pay D _ _ (zD sC nt2) (sC.trans (zc nt2 _)) zf ⟨d0,d1,by show 1<=1+c / 1200 / 4 % u;ac_rfl⟩
 case due =>
  intro t nt
  have st:=zc nt (.tup [.str "rate", .str "late"])
  nofun
  refine ⟨t,_,rfl,.inr (SqT.of zf),rfl,rfl,_,rfl,?_⟩
  generalize upd H2 t (.tup [.str "rate", .str "late"])=H3 at st ⊢
  have sB:=sA.trans st
  nofun
  intro q3 nq3
  have s3:=zc nq3 (.lst [.int 9,.int 1000000000,.int 1000000,.int 10000])
  obtain ⟨v,hv,hm⟩:=zcf (xs:=[.int 9,.int 1000000000,.int 1000000,.int 10000]) (k:=c / 1200 % 4) (by ac_rfl) (by simp;ac_rfl)
  obtain ⟨u,rfl,u0⟩:=(zaf ⟨_,rfl,by ac_rfl⟩ (zaf ⟨_,rfl,by ac_rfl⟩ (zaf ⟨_,rfl,by ac_rfl⟩ (zaf ⟨_,rfl,by ac_rfl⟩ zii))):∀ v∈([.int 9,.int 1000000000,.int 1000000,.int 10000]:List V),∃ w:Int,v=.int w/\0<w) v hm
  nofun
  refine ⟨q3,_,_,_,rfl,rfl,SqL.of zf,hv,?_⟩
  clear hv hm
  generalize upd H3 q3 _=H4 at s3 ⊢
  have sC:=sB.trans s3
  have m0:=yeb (c / 1200 / 4) (show u≠0 by ac_rfl)
  nofun
  intro t2 nt2
  exact h t2 .due D _ _ (zD sC nt2) (sC.trans (zc nt2 _)) zf ⟨d0,d1,by show 1<=1+c / 1200 / 4 % u;ac_rfl⟩
 case rate =>
  intro t nt
  have st:=zc nt (.tup [.str "rate", .str "late"])
  nofun
  refine ⟨t,_,rfl,.inr (SqT.of zf),rfl,rfl,_,rfl,?_⟩
  generalize upd H2 t (.tup [.str "rate", .str "late"])=H3 at st ⊢
  have sB:=sA.trans st
  nofun
  intro q3 nq3
  have s3:=zc nq3 (.lst [.int 0,.int 500,.int 1000000,.int (c / 1200 / 4 % (1000000+1))])
  obtain ⟨v,hv,hm⟩:=zcf (xs:=[.int 0,.int 500,.int 1000000,.int (c / 1200 / 4 % (1000000+1))]) (k:=c / 1200 % 4) (by ac_rfl) (by simp;ac_rfl)
  obtain ⟨u,rfl,u0⟩:=(zaf ⟨_,rfl,by ac_rfl⟩ (zaf ⟨_,rfl,by ac_rfl⟩ (zaf ⟨_,rfl,by ac_rfl⟩ (zaf ⟨_,rfl,by ac_rfl⟩ zii))):∀ v∈([.int 0,.int 500,.int 1000000,.int (c / 1200 / 4 % (1000000+1))]:List V),∃ w:Int,v=.int w/\0<=w/\w<=1000000) v hm
  nofun
  refine ⟨q3,_,_,_,rfl,rfl,SqL.of zf,hv,?_⟩
  clear hv hm
  generalize upd H3 q3 _=H4 at s3 ⊢
  have sC:=sB.trans s3
  nofun
  intro t2 nt2
  exact h t2 .rate D _ _ (zD sC nt2) (sC.trans (zc nt2 _)) zf ⟨d0,d1,u0⟩
 case late =>
  intro t nt
  have st:=zc nt (.tup [.str "rate", .str "late"])
  nofun
  refine ⟨t,_,rfl,.inr (SqT.of zf),rfl,rfl,_,rfl,?_⟩
  generalize upd H2 t (.tup [.str "rate", .str "late"])=H3 at st ⊢
  have sB:=sA.trans st
  nofun
  intro q3 nq3
  have s3:=zc nq3 (.lst [.int 0,.int 500,.int 1000000,.int (c / 1200 / 4 % (1000000+1))])
  obtain ⟨v,hv,hm⟩:=zcf (xs:=[.int 0,.int 500,.int 1000000,.int (c / 1200 / 4 % (1000000+1))]) (k:=c / 1200 % 4) (by ac_rfl) (by simp;ac_rfl)
  obtain ⟨u,rfl,u0⟩:=(zaf ⟨_,rfl,by ac_rfl⟩ (zaf ⟨_,rfl,by ac_rfl⟩ (zaf ⟨_,rfl,by ac_rfl⟩ (zaf ⟨_,rfl,by ac_rfl⟩ zii))):∀ v∈([.int 0,.int 500,.int 1000000,.int (c / 1200 / 4 % (1000000+1))]:List V),∃ w:Int,v=.int w/\0<=w/\w<=1000000) v hm
  nofun
  refine ⟨q3,_,_,_,rfl,rfl,SqL.of zf,hv,?_⟩
  clear hv hm
  generalize upd H3 q3 _=H4 at s3 ⊢
  have sC:=sB.trans s3
  nofun
  intro t2 nt2
  exact h t2 .late D _ _ (zD sC nt2) (sC.trans (zc nt2 _)) zf ⟨d0,d1,u0⟩
 case turn =>
  intro t nt
  have st:=zc nt (.tup [.str "rate", .str "late"])
  nofun
  refine ⟨t,_,rfl,.inr (SqT.of zf),rfl,rfl,_,rfl,?_⟩
  generalize upd H2 t (.tup [.str "rate", .str "late"])=H3 at st ⊢
  have sB:=sA.trans st
  nofun
  intro t2 nt2
  exact h t2 .turn D _ _ (zD sB nt2) (sB.trans (zc nt2 _)) zf ⟨d0,d1,trivial⟩
 case still =>
  intro t nt
  have st:=zc nt (.tup [.str "rate", .str "late"])
  nofun
  refine ⟨t,_,rfl,.inr (SqT.of zf),rfl,rfl,_,rfl,?_⟩
  generalize upd H2 t (.tup [.str "rate", .str "late"])=H3 at st ⊢
  have sB:=sA.trans st
  nofun
  intro t2 nt2
  exact h t2 .still D _ _ (zD sB nt2) (sB.trans (zc nt2 _)) zf ⟨d0,d1,by show D<_/\_<=b+79+0/\_<=1000000;dsimp only;ac_rfl⟩
 case fee =>
  intro t nt
  have st:=zc nt (.tup [.str "rate", .str "late"])
  nofun
  refine ⟨t,_,rfl,.inr (SqT.of zf),rfl,rfl,_,rfl,?_⟩
  generalize upd H2 t (.tup [.str "rate", .str "late"])=H3 at st ⊢
  have sB:=sA.trans st
  nofun
  intro q3 nq3
  have s3:=zc nq3 (.lst [.int 9,.int 1000000000,.int 1000000,.int 10000])
  obtain ⟨v,hv,hm⟩:=zcf (xs:=[.int 9,.int 1000000000,.int 1000000,.int 10000]) (k:=c / 1200 % 4) (by ac_rfl) (by simp;ac_rfl)
  obtain ⟨u,rfl,u0⟩:=(zaf ⟨_,rfl,by ac_rfl⟩ (zaf ⟨_,rfl,by ac_rfl⟩ (zaf ⟨_,rfl,by ac_rfl⟩ (zaf ⟨_,rfl,by ac_rfl⟩ zii))):∀ v∈([.int 9,.int 1000000000,.int 1000000,.int 10000]:List V),∃ w:Int,v=.int w/\0<w) v hm
  nofun
  refine ⟨q3,_,_,_,rfl,rfl,SqL.of zf,hv,?_⟩
  clear hv hm
  generalize upd H3 q3 _=H4 at s3 ⊢
  have sC:=sB.trans s3
  have m0:=yeb (c / 1200 / 4) (show u≠0 by ac_rfl)
  nofun
  all_goals
   intro t2 nt2
   exact h t2 .fee D _ _ (zD sC nt2) (sC.trans (zc nt2 _)) zf ⟨d0,d1,trivial⟩
def zjO (K:W.Frag):Sp:=fun vs H Q _=>∃ n:Int,vs=[.int n]/\∀ c H',H c=none->Same H H'->zb4 K H' c (kdN n)->Q (.ref c) H'
theorem zn4:zj qav qav (zi zem):=by walk_at "sp"
theorem zqj (S:Src K mg "_law_count" zem qav) (T:Txt K mg)  : Def P w K mg base 1 "_law_count" qav (zjO K):=by
 exists S.ok,zn4,0
 all_goals obtain ⟨n,rfl,h⟩:=h
 ·rfl
 refine ⟨_,(zg (zk (zB zag (zaj (za (zkQ (T.mk0 .plain) T.zkW) (za (zkQ (T.mk0 .bank) T.zpV) (za (zkQ (T.mk0 .thirty) T.zlS) (za (zkQ (T.mk0 .exact) T.zm7) zb))))) (zh zI (pv 0) ze) (fun _ _=>rfl)))),?_⟩
 have c0:=yeb (n) (show (4:Int)≠0 by decide)
 have c1:=yec (n) (show (0:Int)<4 by decide)
 have new:∀ (kd:Kd) (H1:Hp) (x dx:Addr),H1 x=none->H1 dx=none->dx≠x->Same H1 (upd (upd H1 dx (.own x)) x (.ins (cA K kd.cls) dx []))/\zb4 K (upd (upd H1 dx (.own x)) x (.ins (cA K kd.cls) dx [])) x kd:=fun kd H1 x dx nx nd ne =>
  ⟨(zc nd _).trans (zc (by rw[zx ne.symm];exact nx) _),dx,zf⟩
 nofun
 intro x1 d1 nx1 nd1 ne1
 obtain ⟨s1,i1⟩:=new .plain _ x1 d1 nx1 nd1 ne1
 generalize upd (upd H d1 (.own x1)) x1 (.ins (cA K Kd.plain.cls) d1 [])=H1 at s1 i1 ⊢
 nofun
 intro x2 d2 nx2 nd2 ne2
 obtain ⟨s2,i2⟩:=new .bank _ x2 d2 nx2 nd2 ne2
 generalize upd (upd H1 d2 (.own x2)) x2 (.ins (cA K Kd.bank.cls) d2 [])=H2 at s2 i2 ⊢
 nofun
 intro x3 d3 nx3 nd3 ne3
 obtain ⟨s3,i3⟩:=new .thirty _ x3 d3 nx3 nd3 ne3
 generalize upd (upd H2 d3 (.own x3)) x3 (.ins (cA K Kd.thirty.cls) d3 [])=H3 at s3 i3 ⊢
 nofun
 intro x4 d4 nx4 nd4 ne4
 obtain ⟨s4,i4⟩:=new .exact _ x4 d4 nx4 nd4 ne4
 generalize upd (upd H3 d4 (.own x4)) x4 (.ins (cA K Kd.exact.cls) d4 [])=H4 at s4 i4 ⊢
 nofun
 intro q nq
 have s5:=zc nq (.lst [.ref x1,.ref x2,.ref x3,.ref x4])
 have sA:=s1.trans (s2.trans (s3.trans (s4.trans s5)))
 nofun
 have:∃ x,atI [V.ref x1,V.ref x2,V.ref x3,V.ref x4] (n % 4)=some (.ref x)/\zb4 K H4 x (kdN n)/\H x=none:=by
  unfold kdN
  dsimp only
  rcases (show n % 4=0\/n % 4=1\/n % 4=2\/n % 4=3 by ac_rfl) with e | e | e | e <;> rw[e]
  ·exact ⟨x1,rfl,i1.same (s2.trans (s3.trans s4)),nx1⟩
  ·exact ⟨x2,rfl,i2.same (s3.trans s4),zD s1 nx2⟩
  ·exact ⟨x3,rfl,i3.same s4,zD (s1.trans s2) nx3⟩
  ·exact ⟨x4,rfl,i4,zD (s1.trans (s2.trans s3)) nx4⟩
 obtain ⟨x,ax,ix,nx⟩:=this
 refine ⟨q,_,_,_,rfl,rfl,SqL.of zf,ax,?_⟩
 exact h x _ nx sA (ix.same s5)
def ziO (K:W.Frag):Sp:=fun vs H Q _=>L2.Ee5 fun q t rs (es:List Er) (ks:List Ek)=>L2.Aa6 (vs=[.ref q,.ref t]) (H q=some (.lst rs)) (RL3 H rs es) (es.length<=60) (H t=some (.tup (ks.map fun k=>V.str k.word))) (∀ p (ps:List Nat) H',H p=none->Same H H'->H' p=some (.lst ((ps.map fun i:Nat=>(i:Int)).map V.int))->(∀ i∈ps,∃ e u,es[i]?=some e/\rs[i]?=some (.ref u)/\H u=some (.tup (zc4 e.1 e.2.1 e.2.2))/\e.1∈ks)->Q (.ref p) H')
theorem zmK:zj qaw qaw (zi zdq):=by walk_at "sp"
theorem zn3 (S:Src K mg "_law_places" zdq qaw) (T:Txt K mg)  : Def P w K mg base 1 "_law_places" qaw (ziO K):=by
 exists S.ok,zmK,0
 all_goals obtain ⟨q,t,rs,es,ks,rfl,hq,hR,l1,ht,h⟩:=h
 ·rfl
 refine ⟨_,(zg (zk (zbZ (ix:=[0,1]) ⟨rfl,by decide +kernel,rfl,by decide +kernel,rfl,(show (["_law_k", "_law_specs_here", "_law_words"]:List Str).Nodup by decide +kernel),by walk_at "cap", by walk_at "sub", by walk_at "has"⟩ (zhx rfl T.zdF (za (zE zam rfl T.zbD PySem.boot_len (za (pv 0) zb)) zb)) (fun b=>(zw (zsY K) (zB (zaK K) (zB (zeu K) (pv 1) (pv 0) (fun _ _=>rfl)) ze (fun _ _=>rfl)) (pv 2) (by with_unfolding_all rfl))) (fun b=>(pv 0))))),?_⟩
 have sz:=sizeLine_eq
 have xl:=hR.length
 nofun
 refine ⟨q,rs,rfl,.inl (SqL.of hq),?_⟩
 refine ⟨_,rfl,by ac_rfl,by ac_rfl,fun l nl=>?_⟩
 have at_:∀ i:Nat,i<es.length->∃ e u,es[i]?=some e/\rs[i]?=some (.ref u)/\H u=some (.tup (zc4 e.1 e.2.1 e.2.2)):=fun i hi=>by
  obtain ⟨v,hv⟩:∃ v,rs[i]?=some v:=⟨_,yaa (by ac_rfl)⟩
  obtain ⟨e,he,u,rfl,hu⟩:=hR.get hv
  exact ⟨e,u,he,hv,hu⟩
 refine znA nl (by ac_rfl) (fun i=>((es[i]?).map fun e=>inV (.str e.1.word) (ks.map fun k=>V.str k.word)).getD false) ?_ ?_ ?_
 ·rintro i H' Q' hi sH hq'
  obtain ⟨e,u,he,hv,hu⟩:=at_ i (by ac_rfl)
  have hu':=sH _ _ hu
  rw[he] at hq'
  have hq2:Q' (inV (.str e.1.word) (ks.map fun k=>V.str k.word)) H':=hq'
  nofun
  refine ⟨q,_,_,_,rfl,rfl,SqL.of (sH _ _ hq),by rw[yeg];exact za4 hv,?_⟩
  nofun
  exact ⟨t,_,rfl,.inr (SqT.of (sH _ _ ht)),rfl,by rw[List.all_map];exact ycy.mpr fun k _=>rfl,_,rfl,hq2⟩
 ·rintro i H' Q' hi fe sH hq'
  nofun
  exact hq'
 obtain ⟨ps,hps⟩:∃ ps:List Nat,ps=(yar (rs.length:Int).toNat).filter fun i=>((es[i]?).map fun e=>inV (.str e.1.word) (ks.map fun k=>V.str k.word)).getD false:=⟨_,rfl⟩
 rw[<-hps]
 have pm:(ps.map fun i:Nat=>V.int ((0:Int)+(i:Int)))=(ps.map fun i:Nat=>(i:Int)).map V.int:=by rw[ybn];exact ybu fun i _=>by rw[yeg];rfl
 rw[pm]
 refine h l ps _ nl (zc nl _) zf fun i hi=>?_
 rw[hps] at hi
 obtain ⟨h1,h2⟩:=yap.mp hi
 rw[ycl] at h1
 obtain ⟨e,u,he,hv,hu⟩:=at_ i (by ac_rfl)
 rw[he] at h2
 have h3:inV (.str e.1.word) (ks.map fun k=>V.str k.word)=true:=h2
 refine ⟨e,u,he,hv,hu,?_⟩
 unfold inV at h3
 rw[List.any_map] at h3
 obtain ⟨k,hk,e3⟩:=ybp.mp h3
 have:V.str e.1.word=V.str k.word:=by
  have:(k.word == e.1.word)=true:=e3
  rw[beq_iff_eq] at this
  rw[this]
 rw[zhd _ _ this]
 exact hk
def ziM (K:W.Frag):Sp:=fun vs H Q _=>L2.Ee6 fun q rs (es:List Er) c b n=>L2.Aa7 (vs=[.ref q,.int c]) (H q=some (.lst rs)) (RL3 H rs es) (Sgs n b es) (es.length<=60) (0<=c) (∀ q' rs' (es':List Er) H',(H q'=none\/q'=q)->Same H H'->H' q'=some (.lst rs')->RL3 H' rs' es'->Sgs n b es'->zm0 es es'->es.length<=es'.length/\es'.length<=es.length+1->Q (.ref q') H')
theorem za8:zj ["_law_specs_here", "_law_cell_here", "_law_some", "_law_at", "_law_word", "_law_day", "_law_thing", "_law_part"] qbi (zi zdd):=by walk_at "sp"
theorem zn5 (S:Src K mg "_law_parted" zdd qbi) (T:Txt K mg)  : Def P w K mg base 1 "_law_parted" qbi (ziM K):=by
 exists S.ok,za8,0
 all_goals obtain ⟨q,rs,es,c,b,n,rfl,hq,hR,ok,l1,c0,h⟩:=h
 ·rfl
 refine ⟨_,(zd (zkE (i:=2) za8.nd rfl rfl (ix:=[0]) ⟨rfl,by decide +kernel,rfl,by decide +kernel,rfl,(show (["_law_k", "_law_specs_here"]:List Str).Nodup by decide +kernel),by walk_at "cap", by walk_at "sub", by walk_at "has"⟩ (zhx rfl T.zdF (za (zE zam rfl T.zbD PySem.boot_len (za (pv 0) zb)) zb)) (fun b=>(PW.pt (zc9 (zw zan (zB (zaK K) (zB (zeu K) (pv 1) (pv 0) (fun _ _=>rfl)) ze (fun _ _=>rfl)) zC (nomark _)) (zdI (zw zfd (zB (zaK K) (zB (zeu K) (pv 1) (pv 0) (fun _ _=>rfl)) ze (fun _ _=>rfl)) ze (nomark _)))))) (fun b=>(pv 0)))
  (zd (zP (PW.pt (zld (zw (ztZ hr.units) (pv 2) (zaj zb) (nomark _)) (zmC (zw zan (zh zI (pv 1) ze) ze (nomark _)))))
  (zg (zk (pv 0)))
   zJ)
  (zd (zo (i:=3) za8.nd rfl (by walk_at "lc") (zB zag (pv 2) (zh zI (zh zS (pv 1) ze) (zE zam rfl T.zbD PySem.boot_len (za (pv 2) zb))) (fun _ _=>rfl)))
  (zd (zmF (zB zag (pv 0) (pv 3) (fun _ _=>rfl)) (zjZ rfl (zaX (zac (i:=4) za8.nd rfl (by walk_at "lc")) (zaX (zac (i:=5) za8.nd rfl (by walk_at "lc")) (zaX (zac (i:=6) za8.nd rfl (by walk_at "lc")) ziz)))))
  (zd (zo (i:=7) za8.nd rfl (by walk_at "lc") (zh zF ze (zh zI (zh zS (pv 1) ze) (zh zV (pv 6) ze))))
  (zg (zk (zh zbf (zh zbf (zh zbf (zi2 zkV (pv 0) zk7 (zk1 (pv 3))) (zaj (za (zO (za (pv 4) (za (pv 5) (za (pv 7) zb)))) zb))) (zi2 zkV (pv 0) (zk1 (zh zF (pv 3) ze)) zk7)) (zaj (za (zO (za (pv 4) (za (pv 5) (za (zh zV (pv 6) (pv 7)) zb)))) zb)))))))))),?_⟩
 have sz:=sizeLine_eq
 have xl:=hR.length
 nofun
 refine ⟨q,rs,rfl,.inl (SqL.of hq),?_⟩
 refine ⟨_,rfl,by ac_rfl,by ac_rfl,fun l nl=>?_⟩
 have at_:∀ i:Nat,i<es.length->∃ e t,es[i]?=some e/\rs[i]?=some (.ref t)/\H t=some (.tup (zc4 e.1 e.2.1 e.2.2)):=fun i hi=>by
  obtain ⟨v,hv⟩:∃ v,rs[i]?=some v:=⟨_,yaa (by ac_rfl)⟩
  obtain ⟨e,he,t,rfl,ht⟩:=hR.get hv
  exact ⟨e,t,he,hv,ht⟩
 refine znA nl (by ac_rfl) (fun i=>((es[i]?).map fun e=>isW "out" e && decide (1<e.2.2)).getD false) ?_ ?_ ?_
 ·rintro i H' Q' hi sH hq'
  obtain ⟨e,t,he,hv,ht⟩:=at_ i (by ac_rfl)
  have ht':=sH _ _ ht
  rw[he] at hq'
  have hq2:Q' (isW "out" e && decide (1<e.2.2)) H':=hq'
  nofun
  refine ⟨q,_,_,_,rfl,rfl,SqL.of (sH _ _ hq),by rw[yeg];exact za4 hv,?_⟩
  nofun
  ·rename_i c1
   refine ⟨q,_,_,_,rfl,rfl,SqL.of (sH _ _ hq),by rw[yeg];exact za4 hv,?_⟩
   nofun
   rw[show isW "out" e=true from decide_eq_true c1,Bool.true_and] at hq2
   exact hq2
  ·rename_i c1
   rw[show isW "out" e=false from decide_eq_false c1,Bool.false_and] at hq2
   exact hq2
 ·rintro i H' Q' hi fe sH hq'
  nofun
  exact hq'
 obtain ⟨ps,hps⟩:∃ ps:List Nat,ps=(yar (rs.length:Int).toNat).filter fun i=>((es[i]?).map fun e=>isW "out" e && decide (1<e.2.2)).getD false:=⟨_,rfl⟩
 rw[<-hps]
 have pok:∀ i∈ps,∃ e t,(es[i]?=some e/\rs[i]?=some (.ref t)/\H t=some (.tup (zc4 e.1 e.2.1 e.2.2)))/\isW "out" e=true/\1<e.2.2:=fun i hi=>by
  rw[hps] at hi
  obtain ⟨h1,h2⟩:=yap.mp hi
  rw[ycl] at h1
  obtain ⟨e,t,he,hv,ht⟩:=at_ i (by ac_rfl)
  rw[he] at h2
  have h3:(isW "out" e && decide (1<e.2.2))=true:=h2
  rw[Bool.and_eq_true] at h3
  exact ⟨e,t,⟨he,hv,ht⟩,h3.1,of_decide_eq_true h3.2⟩
 clear hps
 have pm:(ps.map fun i:Nat=>V.int ((0:Int)+(i:Int)))=(ps.map fun i:Nat=>(i:Int)).map V.int:=by rw[ybn];exact ybu fun i _=>by rw[yeg];rfl
 rw[pm]
 have s1:=zc nl (.lst ((ps.map fun i:Nat=>(i:Int)).map V.int))
 have e1:=zq (.lst ((ps.map fun i:Nat=>(i:Int)).map V.int)) nl
 generalize upd H l (.lst ((ps.map fun i:Nat=>(i:Int)).map V.int))=H1 at s1 e1 ⊢
 nofun
 intro p np
 have s2:=zc np (.lst [])
 have e2:=zq (.lst []) np
 have e12:=s2 _ _ e1
 have sA:=s1.trans s2
 generalize upd H1 p (.lst [])=H2 at s2 e2 e12 sA ⊢
 have same:Q (.ref q) H2:=h q rs es H2 (.inr rfl) sA (sA _ _ hq) (hR.same sA) ok (zm0.refl es) ⟨ydc _,by ac_rfl⟩
 refine ⟨_,_,.lst (SqL.of e12) (zc2.ints _),.lst (SqL.of e2) .nil,shaped_ints _,shaped_ints [],?_⟩
 rw[show PyData.eqv (.list ((ps.map fun i:Nat=>(i:Int)).map PyData.int)) (.list [])=decide ((ps.map fun i:Nat=>(i:Int))=[]) from zpi _ []]
 by_cases pe:(ps.map fun i:Nat=>(i:Int))=[]
 ·rw[decide_eq_true pe]
  nofun
  exact same
 rw[decide_eq_false pe]
 have pl:0<(ps.map fun i:Nat=>(i:Int)).length:=List.length_pos_iff.mpr pe
 nofun
 ·exact same
 clear same e2
 refine ⟨l,_,rfl,.inl (SqL.of e12),?_⟩
 rw[yab]
 have z0:=yeb (c / 2) (show ((ps.map fun i:Nat=>(i:Int)).length:Int)≠0 by ac_rfl)
 have z1:=yec (c / 2) (show (0:Int)<((ps.map fun i:Nat=>(i:Int)).length:Int) by ac_rfl)
 nofun
 obtain ⟨v,hv0,hm⟩:=zcf (xs:=(ps.map fun i:Nat=>(i:Int)).map V.int) (k:=c / 2 % ((ps.map fun i:Nat=>(i:Int)).length:Int)) z0 (by rw[yab (f:=V.int)];exact z1)
 obtain ⟨j,hj,rfl⟩:=yaf.mp hm
 obtain ⟨i,im,rfl⟩:=yaf.mp hj
 obtain ⟨e,t,⟨he,hv,ht⟩,isO,x1⟩:=pok i im
 have il:i<es.length:=(yac.mp he).1
 have oe:=ok e (yah he)
 refine ⟨l,_,_,_,rfl,rfl,SqL.of e12,hv0,?_⟩
 clear hv0 hm hj pok pe pl z0 z1 e1 e12 at_ im
 nofun
 refine ⟨q,_,_,_,rfl,rfl,SqL.of (sA _ _ hq),za4 hv,?_⟩
 refine ⟨t,_,rfl,SqT.of (sA _ _ ht),rfl,?_⟩
 have w0:=yeb (c / 64) (show e.2.2-1≠0 by ac_rfl)
 have w1:=yec (c / 64) (show 0<e.2.2-1 by ac_rfl)
 nofun
 refine ⟨q,rs,rfl,SqL.of (sA _ _ hq),fun q1 nq1=>?_⟩
 rw[zrQ rs i]
 have s3:=zc nq1 (.lst (rs.take i))
 have e3:=zq (.lst (rs.take i)) nq1
 generalize upd H2 q1 (.lst (rs.take i))=H3 at s3 e3 ⊢
 have sB:=sA.trans s3
 nofun
 intro t2 nt2
 have s4:=zc nt2 (.tup [.str e.1.word,.int e.2.1,.int (1+c / 64 % (e.2.2-1))])
 have et2:=zq (.tup [.str e.1.word,.int e.2.1,.int (1+c / 64 % (e.2.2-1))]) nt2
 nofun
 intro q2 nq2
 have s5:=s4.trans (zc nq2 (.lst [.ref t2]))
 have e5:=zq (.lst [.ref t2]) nq2
 have et5:=zc nq2 (.lst [.ref t2]) _ _ et2
 generalize upd (upd H3 t2 (.tup [.str e.1.word,.int e.2.1,.int (1+c / 64 % (e.2.2-1))])) q2 (.lst [.ref t2])=H5 at s5 e5 et5 ⊢
 refine ⟨q1,q2,_,_,rfl,rfl,s5 _ _ e3,e5,by rw[yaq];show _+1<=_;ac_rfl,fun q3 nq3=>?_⟩
 have s6:=zc nq3 (.lst (rs.take i++[.ref t2]))
 have e6:=zq (.lst (rs.take i++[.ref t2])) nq3
 generalize upd H5 q3 (.lst (rs.take i++[.ref t2]))=H6 at s6 e6 ⊢
 have sC:=sB.trans (s5.trans s6)
 nofun
 refine ⟨q,rs,rfl,SqL.of (sC _ _ hq),fun q4 nq4=>?_⟩
 rw[show ((i:Int)+1)=((i+1:Nat):Int) by ac_rfl,zrY rs (i+1)]
 have s7:=zc nq4 (.lst (rs.drop (i+1)))
 have e7:=zq (.lst (rs.drop (i+1))) nq4
 generalize upd H6 q4 (.lst (rs.drop (i+1)))=H7 at s7 e7 ⊢
 refine ⟨q3,q4,_,_,rfl,rfl,s7 _ _ e6,e7,by rw[yad,yaq,ybt];show _+1+_<=_;ac_rfl,fun q5 nq5=>?_⟩
 have s8:=zc nq5 (.lst (rs.take i++[.ref t2]++rs.drop (i+1)))
 have e8:=zq (.lst (rs.take i++[.ref t2]++rs.drop (i+1))) nq5
 generalize upd H7 q5 (.lst (rs.take i++[.ref t2]++rs.drop (i+1)))=H8 at s8 e8 ⊢
 have sD:=sC.trans (s7.trans s8)
 nofun
 intro t3 nt3
 have s9:=zc nt3 (.tup [.str e.1.word,.int e.2.1,.int (e.2.2-(1+c / 64 % (e.2.2-1)))])
 have et3:=zq (.tup [.str e.1.word,.int e.2.1,.int (e.2.2-(1+c / 64 % (e.2.2-1)))]) nt3
 nofun
 intro q6 nq6
 have s10:=s9.trans (zc nq6 (.lst [.ref t3]))
 have e10:=zq (.lst [.ref t3]) nq6
 have et10:=zc nq6 (.lst [.ref t3]) _ _ et3
 generalize upd (upd H8 t3 (.tup [.str e.1.word,.int e.2.1,.int (e.2.2-(1+c / 64 % (e.2.2-1)))])) q6 (.lst [.ref t3])=H10 at s10 e10 et10 ⊢
 have len:(rs.take i++[V.ref t2]++rs.drop (i+1)).length=rs.length:=by rw[yad,yad,yaq,ybt];show _+1+_=_;ac_rfl
 refine ⟨q5,q6,_,_,rfl,rfl,s10 _ _ e8,e10,by rw[len];show _+1<=_;ac_rfl,fun q7 nq7=>?_⟩
 have s11:=zc nq7 (.lst (rs.take i++[.ref t2]++rs.drop (i+1)++[.ref t3]))
 have sE:=sD.trans (s10.trans s11)
 have hRE:=hR.same sE
 have mk:∀ x:Int,1<=x->Sg n b (e.1,e.2.1,x):=fun x hx=>⟨oe.lo,oe.hi,by
  rw[zcw (k:=.out) isO]
  exact hx⟩
 refine h q7 _ (es.take i++[(e.1,e.2.1,1+c / 64 % (e.2.2-1))]++es.drop (i+1)++[(e.1,e.2.1,e.2.2-(1+c / 64 % (e.2.2-1)))]) _ (.inl (zD (sD.trans s10) nq7)) sE zf
  (LL.append (LL.append (LL.append (LL.take hRE i) (.cons ⟨t2,rfl,(s6.trans (s7.trans (s8.trans (s10.trans s11)))) _ _ et5⟩ .nil)) (LL.zvs hRE (i+1))) (.cons ⟨t3,rfl,s11 _ _ et10⟩ .nil))
  ((((ok.take i).app (Sgs.one (mk _ (by ac_rfl)))).app (ok.drop (i+1))).app (Sgs.one (mk _ (by ac_rfl)))) ?_ ?_
 ·have ee:es.take i++(e.1,e.2.1,e.2.2)::es.drop (i+1)=es:=by
   have:=(yac.mp he).2
   rw[show ((e.1,e.2.1,e.2.2):Er)=es[i] from this.symm,<-List.drop_eq_getElem_cons il,ycu]
  have:=zt1 (A:=es.take i) (B:=es.drop (i+1)) (z:=e.2.1) (x:=e.2.2) (p:=1+c / 64 % (e.2.2-1))
  rw[<-zcw (k:=.out) isO,ee] at this
  exact this
 rw[yad,yad,yad,yaq,ybt]
 show _<=_+1+_+1/\_+1+_+1<=_
 ac_rfl
noncomputable def aE (es:List Er) (d:Int):Int:=upto (prs "pay" es) d-upto (prs "fee" es) d
theorem zxM (es es':List Er) (d:Int):gE es es' d=aE es d + -1*aE es' d:=by
 unfold gE aE
 omega
theorem zrU (w:Str) (es:List Er) (e:Er) (d:Int):upto (prs w (es++[e])) d=upto (prs w es) d+if e.2.1<=d/\isW w e=true then e.2.2 else 0:=by
 rw[zuE,zo1]
 by_cases c:isW w e=true
 ·rw[if_pos c,zcx,zft (l:=[]) (fun s hs=>by cases hs)]
  by_cases q:e.2.1<=d
  ·rw[if_pos q,if_pos ⟨q,c⟩,Int.add_zero]
  ·rw[if_neg q,if_neg fun z=>q z.1,Int.add_zero]
 ·rw[if_neg c,zft (l:=[]) (fun s hs=>by cases hs),if_neg fun z=>c z.2]
def zlB (K:W.Frag):Sp:=fun vs H Q _=>L2.Ee7 fun q q' rs rs' (es es':List Er) d=>L2.Aa4 (vs=[.ref q,.ref q',.int d]) ((H q=some (.lst rs)/\RL3 H rs es/\es.length<=60)) ((H q'=some (.lst rs')/\RL3 H rs' es'/\es'.length<=60)) (∀ H',Same H H'->Q (.int (gE es es' d)) H')
theorem zba:zj ["_law_specs_here", "_law_others", "_law_day", "_law_found", "_law_sign", "_law_rows", "_law_word", "_law_at", "_law_thing"] qbj (zi zgj):=by walk_at "sp"
theorem zsL (S:Src K mg "_law_gap" zgj qbj) (T:Txt K mg)  : Def P w K mg base 1 "_law_gap" qbj (zlB K):=by
 exists S.ok,zba,0
 all_goals obtain ⟨q,q',rs,rs',es,es',d,rfl,⟨hq,hR,l1⟩,⟨hq',hR',l1'⟩,h⟩:=h
 ·rfl
 refine ⟨_,(zd (zo (i:=3) zba.nd rfl (by walk_at "lc") ze)
  (zd (zcq PassesOwn.never rfl (zQ (zaj (za (zO (za ze (za (pv 0) zb))) (za (zO (za (zjb zgx ze) (za (pv 1) zb))) zb)))) (zjZ rfl (zaX (zac (i:=4) zba.nd rfl (by walk_at "lc")) (zaX (zac (i:=5) zba.nd rfl (by walk_at "lc")) ziz)))
  (zg (zcq PassesOwn.never rfl (zQ (pv 5)) (zjZ rfl (zaX (zac (i:=6) zba.nd rfl (by walk_at "lc")) (zaX (zac (i:=7) zba.nd rfl (by walk_at "lc")) (zaX (zac (i:=8) zba.nd rfl (by walk_at "lc")) ziz))))
  (zd (zda (zP (PW.pt (zc9 (zw zds (pv 7) (pv 2) (nomark _)) (zdI (zw zan (pv 6) zC (nomark _)))))
  (zg (zo (i:=3) zba.nd rfl (by walk_at "lc") (zh zF (pv 3) (zh zar (pv 4) (pv 8)))))
   zJ))
  (zg (zda (zP (PW.pt (zc9 (zw zds (pv 7) (pv 2) (nomark _)) (zdI (zw zan (pv 6) zC (nomark _)))))
  (zg (zo (i:=3) zba.nd rfl (by walk_at "lc") (zh zV (pv 3) (zh zar (pv 4) (pv 8)))))
   zJ)))))))
  (zg (zk (pv 3))))),?_⟩
 have sz:=sizeLine_eq
 have xl:=hR.length
 have xl':=hR'.length
 nofun
 intro t1 nt1
 have s1:=zc nt1 (.tup [.int 1,.ref q])
 have y1:=zq (.tup [.int 1,.ref q]) nt1
 nofun
 intro t2 nt2
 have s2:=zc nt2 (.tup [.int (-1),.ref q'])
 have y2:=zq (.tup [.int (-1),.ref q']) nt2
 nofun
 intro p np
 have s3:=zc np (.lst [.ref t1,.ref t2])
 have y3:=zq (.lst [.ref t1,.ref t2]) np
 have z1:=(s2.trans s3) _ _ y1
 have z2:=s3 _ _ y2
 have sA:=s1.trans (s2.trans s3)
 generalize upd (upd (upd H t1 (.tup [.int 1,.ref q])) t2 (.tup [.int (-1),.ref q'])) p (.lst [.ref t1,.ref t2])=H1 at sA y3 z1 z2 ⊢
 clear s1 s2 s3 y1 y2 nt1 nt2 np
 obtain ⟨F,hF⟩:∃ F:Nat->Int,F=fun i=>if i=0 then 0 else if i=1 then aE es d else gE es es' d:=⟨_,rfl⟩
 nofun
 refine ⟨⟨_,SqL.of y3⟩,zcr (xs:=[.ref t1,.ref t2]) (fun i σ H'=>L2.Ee5 fun (w1 w2 w3 w4 w5:Option V)=>Same H1 H'/\σ=[some (.ref q),some (.ref q'),some (.int d),some (.int (F i)),w1,w2,w3,w4,w5])
  ⟨_,_,_,_,_,Same.refl _,by rw[hF];rfl⟩ ?_ ?_ ?_⟩
 ·rintro i σ H' _ ⟨_,_,_,_,_,sH,_⟩
  exact SqL.of (sH _ _ y3)
 ·rintro i x σ H' hx ⟨w1,w2,w3,w4,w5,sH,rfl⟩
  have one:∃ (t q0:Addr) (s:Int) (rs0:List V) (es0:List Er),x=.ref t/\H' t=some (.tup [.int s,.ref q0])/\(H' q0=some (.lst rs0)/\RL3 H' rs0 es0/\es0.length<=60)/\(s=1\/s = -1)/\F (i+1)=F i+s*aE es0 d:=by
   have sB:=sA.trans sH
   match i,hx with
   | 0,hx=>exact ⟨t1,q,1,rs,es,(Option.some.inj hx).symm,sH _ _ z1,⟨sB _ _ hq,hR.same sB,l1⟩,.inl rfl,by rw[hF];show aE es d=0+1*aE es d;ac_rfl⟩
   | 1,hx=>exact ⟨t2,q',-1,rs',es',(Option.some.inj hx).symm,sH _ _ z2,⟨sB _ _ hq',hR'.same sB,l1'⟩,.inr rfl,by rw[hF];show gE es es' d=aE es d + -1*aE es' d;exact zxM es es' d⟩
   | n+2,hx=>exact absurd hx (by simp)
  obtain ⟨t,q0,s,rs0,es0,rfl,ht,⟨hq0,hR0,l0⟩,s0,fs⟩:=one
  have x0:=hR0.length
  nofun
  refine ⟨t,_,rfl,SqT.of ht,rfl,?_⟩
  nofun
  refine ⟨⟨_,SqL.of hq0⟩,zcr (xs:=rs0) (fun j σ H2=>H'=H2/\∃ w3 w4 w5:Option V,σ=[some (.ref q),some (.ref q'),some (.int d),some (.int (F i+s*aE (es0.take j) d)),some (.int s),some (.ref q0),w3,w4,w5])
   ⟨rfl,_,_,_,by rw[List.take_zero,show aE [] d=0 from rfl,yek,Int.add_zero];rfl⟩ ?_ ?_ ?_⟩
  ·rintro j σ H2 _ ⟨rfl,_⟩
   exact SqL.of hq0
  ·rintro j v σ H2 hv ⟨rfl,w3,w4,w5,rfl⟩
   obtain ⟨e,he,u,rfl,hu⟩:=hR0.get hv
   have tk:es0.take (j+1)=es0.take j++[e]:=by rw[ybe,he];rfl
   rw[tk]
   obtain ⟨a,ha⟩:∃ a:Int,a=F i+s*aE (es0.take j) d:=⟨_,rfl⟩
   obtain ⟨m,hm⟩:∃ m:Int,m=if e.2.1<=d/\isW "pay" e=true then e.2.2 else 0:=⟨_,rfl⟩
   obtain ⟨n,hn⟩:∃ n:Int,n=if e.2.1<=d/\isW "fee" e=true then e.2.2 else 0:=⟨_,rfl⟩
   have ae:F i+s*aE (es0.take j++[e]) d=a+s*m-s*n:=by
    rw[ha,hm,hn]
    unfold aE
    rw[zrU,zrU]
    rcases s0 with rfl | rfl <;> ac_rfl
   rw[ae,<-ha]
   clear ha ae
   nofun
   refine ⟨u,_,rfl,SqT.of hu,rfl,?_⟩
   nofun
   refine ⟨fun σ H2=>H'=H2/\σ=[some (.ref q),some (.ref q'),some (.int d),some (.int (a+s*m)),some (.int s),some (.ref q0),some (.str e.1.word),some (.int e.2.1),some (.int e.2.2)],?_,?_⟩
   ·nofun
    ·rename_i c1 c2
     rw[hm,if_pos ⟨c1,decide_eq_true c2⟩]
     rfl
    ·rename_i c1 c2
     rw[hm,if_neg (fun z=>c2 (of_decide_eq_true z.2)),yek]
     simp
    ·rename_i c1
     rw[hm,if_neg (fun z=>c1 z.1),yek]
     simp
   rintro σ H2 ⟨rfl,rfl⟩
   refine ⟨fun σ H2=>H'=H2/\σ=[some (.ref q),some (.ref q'),some (.int d),some (.int (a+s*m-s*n)),some (.int s),some (.ref q0),some (.str e.1.word),some (.int e.2.1),some (.int e.2.2)],?_,?_⟩
   ·nofun
    ·rename_i c1 c2
     rw[hn,if_pos ⟨c1,decide_eq_true c2⟩]
     rfl
    ·rename_i c1 c2
     rw[hn,if_neg (fun z=>c2 (of_decide_eq_true z.2)),yek]
     simp
    ·rename_i c1
     rw[hn,if_neg (fun z=>c1 z.1),yek]
     simp
   rintro σ H2 ⟨rfl,rfl⟩
   nofun
   exact ⟨_,_,_,rfl⟩
  ·rintro σ H2 ⟨rfl,w3,w4,w5,rfl⟩
   rw[x0,yaw (ydc _),<-fs]
   exact ⟨_,_,_,_,_,sH,rfl⟩
 ·rintro σ H' ⟨w1,w2,w3,w4,w5,sH,rfl⟩
  rw[show F [V.ref t1,V.ref t2].length=gE es es' d by rw[hF];rfl]
  nofun
  exact h _ (sA.trans sH)
def zfg (K:W.Frag):Sp:=fun vs H Q _=>L2.Ee4 fun a xs (t:List (Int × Int)) d=>L2.Aa6 (vs=[.ref a,.int d]) (SqL K H a xs) (zy K H xs t) ((t.Pairwise fun s u=>s.1<u.1)) ((∀ s∈t,0<=s.1)) (Q (.int (Sums.valOf t d)) H)
theorem zll:zj ["table", "day", "many"] qar (zi zf3):=by walk_at "sp"
theorem zsD (S:Src K mg "value_at" zf3 qar) (T:Txt K mg) (zcR:Def P w K mg base 1 "begun" qah (zi1 K)):Def P w K mg base 2 "value_at" qar (zfg K):=by
 exists S.ok,zll,0
 all_goals obtain ⟨a,xs,t,d,rfl,hS,hR,up,t0,h⟩:=h
 ·rfl
 refine ⟨_,(zd (zo (i:=2) zll.nd rfl (by walk_at "lc") (zr zcR hr (za (pv 0) (za (pv 1) zb))))
  (zd (zP (zw zan (pv 2) ze (nomark _))
  (zg (zk ze))
   zJ)
  (zg (zk (zB zap (zB zag (pv 0) (zh zV (pv 2) ze) (fun _ _=>rfl)) ze (fun _ _=>rfl)))))),?_⟩
 have xl:=hR.length
 nofun
 refine ⟨a,xs,t.map (·.1),d,rfl,hS,zrv hR,by rw[ybi];exact up,?_⟩
 intro n B'
 have B:=B'.rows
 nofun
 ·rename_i q
  have:n=0:=by ac_rfl
  subst this
  rw[Stills.zjf t0 B] at h
  exact h
 ·rename_i q
  obtain ⟨k,rfl⟩:∃ k,n=k+1:=⟨n-1,by ac_rfl⟩
  have kl:=B.le
  obtain ⟨p,s,ex,es,hp⟩:=hR.get (yaa (by ac_rfl:k<xs.length))
  have ek:((k+1:Nat):Int)-1=(k:Int):=by ac_rfl
  have at_:atI xs (((k+1:Nat):Int)-1)=some (.ref p):=by
   rw[ek]
   exact za4 (by rw[yaa (by ac_rfl:k<xs.length),ex])
  refine ⟨a,_,_,_,rfl,rfl,hS,at_,?_⟩
  nofun
  rw[Stills.zu0 t0 up B es] at h
  exact h
def znx (K:W.Frag):Sp:=fun vs H Q _=>L2.Ee4 fun a A (b:BkT) d=>L2.Aa3 (vs=[.ref a,.int d]) (zaD K H a A b) (Q (.int (upto b.pays d)) H)
theorem ztL:zj qae qae (zi zjq):=by walk_at "sp"
theorem zub (S:Src K mg "handed" zjq qae) (T:Txt K mg) (zcb:Def P w K mg base 1 "sum_upto" qah (zif K)) (zah:zt P w K mg base 1 (cA K "Book") "pays" qaa (zbR K)):Def P w K mg base 2 "handed" qae (znx K):=by
 exists S.okF,ztL,0
 all_goals obtain ⟨a,A,b,d,rfl,B,h⟩:=h
 ·rfl
 refine ⟨_,(zg (zk (zr zcb hr (za (zv zah T.zu hr (pv 0)) (za (pv 1) zb))))),?_⟩
 nofun
 refine ⟨a,A.dx,_,rfl,B.ins,rfl,a,A,b,rfl,B,fun q xs nq hR hl=>?_⟩
 have s1:=zc nq (.lst xs)
 nofun
 refine ⟨q,xs,b.pays,d,rfl,SqL.of zf,hR.same s1,hl,?_⟩
 exact ⟨s1,h⟩
def zg3 (K:W.Frag):Sp:=fun vs H Q _=>∃ (a:Addr) (A:BkA) (b:BkT),vs=[.ref a]/\zaD K H a A b /\
 ∀ p ws H',H p=none->Same H H'->H' p=some (.lst ws)->zy K H' ws (runs 0 (shf b.g b.dues))->Q (.ref p) H'
theorem zqi:zj qag qag (zi ze3):=by walk_at "sp"
theorem zrg (S:Src K mg "late_sums" ze3 qag) (T:Txt K mg) (zal:Def P w K mg base 1 "running_sums" ["rows"] (zcp K)) (zcl:zt P w K mg base 1 (cA K "Book") "dues" qaa (zg6 K)) (zbV:zt P w K mg base 1 (cA K "Book") "grace" qaa (zfS K)):Def P w K mg base 2 "late_sums" qag (zg3 K):=by
 exists S.ok,zqi,0
 all_goals obtain ⟨a,A,b,rfl,B,h⟩:=h
 ·rfl
 refine ⟨_,(zg (zk (zr zal hr (za (zbj (ix:=[0]) ⟨rfl,by decide +kernel,rfl,by decide +kernel,rfl,(show (["due", "book"]:List Str).Nodup by decide +kernel),by walk_at "cap", by walk_at "sub", by walk_at "has"⟩ (zQ (zv zcl T.zu hr (pv 0))) (fun b=>(zO (za (zh zF (zB (zaK K) (pv 0) ze (fun _ _=>rfl)) (zv zbV T.zu hr (pv 1))) (za (zB (zaK K) (pv 0) ze (fun _ _=>rfl)) zb))))) zb)))),?_⟩
 have sz:=sizeLine_eq
 nofun
 refine ⟨a,A.dx,_,rfl,B.ins,rfl,a,A,b,rfl,B,fun q xs nq hR hl=>?_⟩
 have s1:=zc nq (.lst xs)
 have eQ:=zq (.lst xs) nq
 have hR1:=hR.same s1
 have xl:=hR.length
 generalize upd H q (.lst xs)=H1 at s1 eQ hR1 ⊢
 have B1:=B.same s1
 nofun
 refine ⟨⟨_,SqL.of eQ⟩,fun l nl=>?_⟩
 refine comp_map (zaw (SqL.of eQ)) nl (by ac_rfl) b.dues xl.symm (fun H' v s=>∃ t,v=.ref t/\H' t=some (.tup [.int (s.1+b.g),.int s.2])) (fun v e H1 H2 s ⟨t,e1,e2⟩=>⟨t,e1,s _ _ e2⟩) (fun v e H1 ys zs hL ⟨t,e1,e2⟩=>⟨t,e1,by rw[zx (zaW e2 hL (by intro z;cases z))];exact e2⟩) ?_ ?_
 ·rintro i x s H' Q' hx hs sH hq
  obtain ⟨u,s',rfl,hs',hu⟩:=(hR1.same sH).get hx
  obtain rfl:s'=s:=Option.some.inj (hs'.symm.trans hs)
  have B':=B1.same sH
  nofun
  refine ⟨a,A.dx,_,rfl,B'.ins,rfl,a,A,b,rfl,B',?_⟩
  nofun
  intro t nt
  exact hq _ _ (zc nt _) ⟨t,rfl,zf⟩
 rintro ys H2 s2 eL hL
 have hS:zy K H2 ys (shf b.g b.dues):=by
  unfold shf
  clear eL
  revert hL
  generalize b.dues=l
  intro hL
  induction hL with
  | nil=>exact .nil
  | cons h _ ih =>
   obtain ⟨t,rfl,e⟩:=h
   exact .cons e ih
 have sl:(shf b.g b.dues).length<=1000:=by unfold shf;rw[yab];exact hl
 nofun
 rename_i p ws H3
 intro np s3 eP rP
 exact h p ws H3 (zD (s1.trans s2) np) (s1.trans (s2.trans s3)) eP rP
def zlP (K:W.Frag):Sp:=fun vs H Q _=>L2.Ee4 fun a xs l d=>L2.Aa5 (vs=[.ref a,.int d]) (SqL K H a xs) (zy K H xs l) (Spans.Joined l) (∀ m,Stills.Free l d m->Q (.int m) H)
theorem zpv:zj ["spans", "day", "many"] qak (zi zkT):=by walk_at "sp"
theorem zv4 (S:Src K mg "moved" zkT qak) (T:Txt K mg) (zcR:Def P w K mg base 1 "begun" qah (zi1 K)):Def P w K mg base 2 "moved" qak (zlP K):=by
 exists S.ok,zpv,0
 all_goals obtain ⟨a,xs,l,d,rfl,hS,hR,J,h⟩:=h
 ·rfl
 refine ⟨_,(zd (zo (i:=2) zpv.nd rfl (by walk_at "lc") (zr zcR hr (za (pv 0) (za (pv 1) zb))))
  (zd (zP (zw zan (pv 2) ze (nomark _))
  (zg (zk (pv 1)))
   zJ)
  (zg (zk (zE (zbB rfl) rfl T.zd8 PyProof.Rows.boot_max (za (pv 1) (za (zB zap (zB zag (pv 0) (zh zV (pv 2) ze) (fun _ _=>rfl)) ze (fun _ _=>rfl)) zb))))))),?_⟩
 have xl:=hR.length
 nofun
 refine ⟨a,xs,l.map (·.1),d,rfl,hS,zrv hR,ybi.mpr (Stills.zti J),?_⟩
 intro n B0
 have B:=B0.rows
 nofun
 ·rename_i q
  have:n=0:=by ac_rfl
  subst this
  exact h _ (Stills.zsw B)
 ·rename_i q
  obtain ⟨k,rfl⟩:∃ k,n=k+1:=⟨n-1,by ac_rfl⟩
  have kl:=B.le
  obtain ⟨p,s,ex,es,hp⟩:=hR.get (yaa (by ac_rfl:k<xs.length))
  have ek:((k+1:Nat):Int)-1=(k:Int):=by ac_rfl
  have at_:atI xs (((k+1:Nat):Int)-1)=some (.ref p):=by
   rw[ek]
   exact za4 (by rw[yaa (by ac_rfl:k<xs.length),ex])
  refine ⟨a,_,_,_,rfl,rfl,hS,at_,?_⟩
  nofun
  exact h _ (Stills.zr9 J B es)
def zjV (K:W.Frag):Sp:=fun vs H Q _=>∃ y m,vs=[.int y,.int m]/\1<=m/\m<=12/\Q (.int (Cal.mlen y m)) H
theorem zof:zj qax qax (zi zdR):=by walk_at "sp"
theorem zpr (S:Src K mg "month_days" zdR qax) (T:Txt K mg) (zdH:Def P w K mg base 1 "is_leap" qai (zjz K)):Def P w K mg base 2 "month_days" qax (zjV K):=by
 exists S.ok,zof,0
 all_goals obtain ⟨y,m,rfl,h1,h2,h⟩:=h
 ·rfl
 refine ⟨_,(zd (zP (PW.pt (zc9 (zw zan (pv 1) ze (nomark _)) (zdI (zc6 (zr zdH hr (za (pv 0) zb))))))
  (zg (zk ze))
   zJ)
  (zg (zk (zB zap (zvA T.zkC) (zh zV (pv 1) ze) (fun _ _=>rfl))))),?_⟩
 have tab:∀ a:Addr,(∀ H,SqT K H a [.int 31,.int 28,.int 31,.int 30,.int 31,.int 30,.int 31,.int 31,.int 30,.int 31,.int 30,.int 31])->(m=2->Cal.leap y=false) ->
   ∃ p xs i v,V.ref a=.ref p/\V.int (m-1)=.int i/\SqT K H p xs/\atI xs i=some v/\Q v H:=fun a ha hb=>by
  have q:m=1\/m=2\/m=3\/m=4\/m=5\/m=6\/m=7\/m=8\/m=9\/m=10\/m=11\/m=12:=by ac_rfl
  rcases q with rfl | rfl | rfl | rfl | rfl | rfl | rfl | rfl | rfl | rfl | rfl | rfl
  all_goals refine ⟨_,_,_,_,rfl,rfl,ha H,rfl,qi h (by simp[Cal.mlen,Cal.lp, *])⟩
 nofun
 ·refine ifB (fun hb=>?_) (fun hb=>?_)
  ·exact qi h (by simp[Cal.mlen,Cal.lp, *])
  ·intro a ha
   nofun
   exact tab a ha (fun _=>hb)
 ·intro a ha
  nofun
  exact tab a ha (fun z=>absurd z (by assumption))
def zjv (K:W.Frag):Sp:=fun vs H Q _=>∃ d,vs=[.int d]/\∀ y,Cal.ny y<=d->d<Cal.ny (y+1)->Q (.int y) H
theorem zjc:zj ["day", "year"] qan (zi zhF):=by walk_at "sp"
theorem ztq (S:Src K mg "year_of" zhF qan) (T:Txt K mg) (zbg:Def P w K mg base 1 "new_year" qai (ze2 K)):Def P w K mg base 2 "year_of" qan (zjv K):=by
 exists S.ok,zjc,0
 all_goals obtain ⟨d,rfl,h⟩:=h
 ·rfl
 refine ⟨_,(zd (zo (i:=1) zjc.nd rfl (by walk_at "lc") (zh zV (zh zF (zbT T.zbU) (zh zoS (zh zar (pv 0) (zbT T.zfD)) (zbT T.zgV))) ze))
  (zd (zju PassesOwn.never (zw zds (zr zbg hr (za (zh zF (pv 1) ze) zb)) (pv 0) (nomark _))
  (zg (zo (i:=1) zjc.nd rfl (by walk_at "lc") (zh zF (pv 1) ze))))
  (zg (zk (pv 1))))),?_⟩
 nofun
 refine ⟨fun n σ H'=>H=H'/\∃ y,σ=[some (.int d),some (.int y)]/\Cal.ny y<=d/\n=(d-Cal.ny y).toNat,⟨_,rfl,_,rfl,Cal.zsf,rfl⟩,?_⟩
 rintro n σ H' ⟨rfl,y,rfl,hy,rfl⟩
 nofun
 ·refine ⟨_,fun σ' H' z=>z,?_⟩
  nofun
  have e:=Cal.zcL y
  have l:=Cal.zsC y
  exact ⟨_,by ac_rfl,rfl,_,rfl,by assumption,rfl⟩
 ·exact h y hy (by ac_rfl)
def zbL (K:W.Frag):Sp:=fun vs H Q _=>L2.Ee6 fun p dx u m n x=>L2.Aa4 (vs=[.ref p,.int x]) (Deb K H p dx u m n) ((0<u/\u<1152921504606846976)) (Q .non (upd H p (.ins (cA K "Debt") dx (zau u (Dbt.mn m (Dbt.mx 0 ((n+u*x) / u))) (n+u*x)))))
theorem zlg:zj qac qac (zi zb2):=by walk_at "sp"
theorem zlX (S:zp K (cA K "Debt") "add_cents" "Debt.add_cents" zb2 qac) (T:Txt K mg) (zaC:zt P w K mg base 1 (cA K "Debt") "owed" qaa (zcv K)):zt P w K mg base 2 (cA K "Debt") "add_cents" qac (zbL K):=by
 exists S.ok,zlg,0
 all_goals obtain ⟨p,dx,u,m,n,x,rfl,e,⟨u0,u1⟩,h⟩:=h
 ·rfl
 refine ⟨_,(zd (zaB T.zH T.zT (pv 0) (zh zF (zad T.zH T.zT (pv 0)) (zh zar (zad T.zH T.zaU (pv 0)) (pv 1))))
  (zg (zaB T.zH T.zK (pv 0) (zE (zfx rfl) rfl T.zjF PyProof.Rows.boot_min (za (zad T.zH T.zK (pv 0)) (za (zE (zbB rfl) rfl T.zd8 PyProof.Rows.boot_max (za ze (za (zv zaC T.zH hr (pv 0)) zb))) zb)))))),?_⟩
 nofun
 refine ⟨p,dx,_,_,rfl,e,rfl,?_⟩
 nofun
 refine ⟨p,dx,_,_,rfl,e,rfl,?_⟩
 nofun
 refine ⟨p,dx,_,rfl,e,zbH,?_⟩
 rw[zss]
 have e1:Deb K (upd H p (.ins (cA K "Debt") dx (zau u m (n+u*x)))) p dx u m (n+u*x):=zf
 nofun
 refine ⟨p,dx,_,_,rfl,e1,rfl,?_⟩
 nofun
 refine ⟨p,dx,_,rfl,e1,rfl,p,dx,u,m,_,rfl,e1,⟨u0,u1⟩,?_⟩
 nofun
 refine ⟨p,dx,_,rfl,e1,zbH,?_⟩
 rw[zoJ,zX]
 exact h
def zkH (K:W.Frag):Sp:=fun vs H Q _=>L2.Ee5 fun p dx u m n=>L2.Aa4 (vs=[.ref p]) (Deb K H p dx u m n) ((0<u/\u<1152921504606846976)) (Q .non (upd H p (.ins (cA K "Debt") dx (zau u (Dbt.step u .turn 0 m n).1 (Dbt.step u .turn 0 m n).2))))
theorem zo4:zj qaa qaa (zi zeX):=by walk_at "sp"
theorem zrb (S:zp K (cA K "Debt") "turn" "Debt.turn" zeX qaa) (T:Txt K mg) (zaC:zt P w K mg base 1 (cA K "Debt") "owed" qaa (zcv K)):zt P w K mg base 2 (cA K "Debt") "turn" qaa (zkH K):=by
 exists S.ok,zo4,0
 all_goals obtain ⟨p,dx,u,m,n,rfl,e,hu,h⟩:=h
 ·rfl
 refine ⟨_,(zg (zaB T.zH T.zK (pv 0) (zE (zbB rfl) rfl T.zd8 PyProof.Rows.boot_max (za ze (za (zv zaC T.zH hr (pv 0)) zb))))),?_⟩
 nofun
 refine ⟨p,dx,_,rfl,e,rfl,p,dx,u,m,n,rfl,e,hu,?_⟩
 nofun
 refine ⟨p,dx,_,rfl,e,zbH,?_⟩
 rw[zoJ]
 exact h
def zhI (K:W.Frag):Sp:=fun vs H Q _=>∃ a A b,vs=[.ref a]/\zaD K H a A b/\BOk b /\
 ∀ p (ns:List Int) H',H p=none->Same H H'->H' p=some (.lst (ns.map V.int))->ns.Pairwise (·<·)->(∀ d,d∈ns↔TDay b d)->ns.length<64->Q (.ref p) H'
theorem zdO:zj ["book", "days", "span"] qag (zi zcH):=by walk_at "sp"
theorem zmU (S:Src K mg "turning_days" zcH qag) (T:Txt K mg) (zaQ:zt P w K mg base 1 (cA K "Book") "rates" qaa (zdm K)) (zaM:zt P w K mg base 1 (cA K "Book") "lates" qaa (zdn K)) (zah:zt P w K mg base 1 (cA K "Book") "pays" qaa (zbR K)) (zcl:zt P w K mg base 1 (cA K "Book") "dues" qaa (zg6 K)) (zbV:zt P w K mg base 1 (cA K "Book") "grace" qaa (zfS K)) (zaq:zt P w K mg base 1 (cA K "Book") "stills" qaa (zcK K)):Def P w K mg base 2 "turning_days" qag (zhI K):=by
 exists S.ok,zdO,0
 all_goals obtain ⟨a,A,b,rfl,B,O,h⟩:=h
 ·rfl
 refine ⟨_,(zd (zo (i:=1) zdO.nd rfl (by walk_at "lc") (zaj (za ze zb)))
  (zd (zao (zer PySem.F.plainAttrs_list PySem.F.slot_list_extend PySem.F.type_list_extend zhz (pv 1) (za (zbj (ix:=[]) ⟨rfl,by decide +kernel,rfl,by decide +kernel,rfl,(show (["row"]:List Str).Nodup by decide +kernel),by walk_at "cap", by walk_at "sub", by walk_at "has"⟩ (zQ (zh zbf (zh zbf (zv zaQ T.zu hr (pv 0)) (zv zaM T.zu hr (pv 0))) (zv zah T.zu hr (pv 0)))) (fun b=>(zB (zaK K) (pv 0) ze (fun _ _=>rfl)))) zb)))
  (zd (zao (zer PySem.F.plainAttrs_list PySem.F.slot_list_extend PySem.F.type_list_extend zhz (pv 1) (za (zbj (ix:=[0]) ⟨rfl,by decide +kernel,rfl,by decide +kernel,rfl,(show (["row", "book"]:List Str).Nodup by decide +kernel),by walk_at "cap", by walk_at "sub", by walk_at "has"⟩ (zQ (zv zcl T.zu hr (pv 0))) (fun b=>(zh zF (zB (zaK K) (pv 0) ze (fun _ _=>rfl)) (zv zbV T.zu hr (pv 1))))) zb)))
  (zd (zcq PassesOwn.never rfl (zQ (zv zaq T.zu hr (pv 0))) (zac (i:=2) zdO.nd rfl (by walk_at "lc"))
  (zg (zao (zer PySem.F.plainAttrs_list PySem.F.slot_list_extend PySem.F.type_list_extend zsh (pv 1) (za (pv 2) zb)))))
  (zg (zk (zE (zcy rfl) rfl T.zbJ PyProof.Rows.boot_sorted (za (zU (zcC rfl) rfl T.zge PyProof.Rows.boot_set (za (pv 1) zb)) zb)))))))),?_⟩
 have sz:=sizeLine_eq
 have osz:=O.sz
 nofun
 intro p np
 have s1:=zc np (.lst [.int 0])
 have eP:=zq (.lst [.int 0]) np
 generalize upd H p (.lst [.int 0])=H1 at s1 eP ⊢
 have B1:=B.same s1
 nofun
 refine ⟨.inl ⟨rfl,_,SqL.of eP⟩,?_⟩
 nofun
 refine ⟨a,A.dx,_,rfl,B1.ins,rfl,a,A,b,rfl,B1,fun q1 x1 n1 r1 l1=>?_⟩
 have t1:=zc n1 (.lst x1)
 have e1:=zq (.lst x1) n1
 have B2:=B1.same t1
 nofun
 refine ⟨a,A.dx,_,rfl,B2.ins,rfl,a,A,b,rfl,B2,fun q2 x2 n2 r2 l2=>?_⟩
 have t2:=zc n2 (.lst x2)
 have e2:=zq (.lst x2) n2
 have c1:=r1.length
 have c2:=r2.length
 refine ⟨q1,q2,x1,x2,rfl,rfl,t2 _ _ e1,e2,by ac_rfl,fun q3 n3=>?_⟩
 have t3:=zc n3 (.lst (x1++x2))
 have e3:=zq (.lst (x1++x2)) n3
 have B4:=B2.same (t2.trans t3)
 nofun
 refine ⟨a,A.dx,_,rfl,B4.ins,rfl,a,A,b,rfl,B4,fun q4 x4 n4 r4 l4=>?_⟩
 have t4:=zc n4 (.lst x4)
 have e4:=zq (.lst x4) n4
 have c4:=r4.length
 refine ⟨q3,q4,x1++x2,x4,rfl,rfl,t4 _ _ e3,e4,by rw[yad];ac_rfl,fun q5 n5=>?_⟩
 have t5:=zc n5 (.lst (x1++x2++x4))
 have e5:=zq (.lst (x1++x2++x4)) n5
 have t15:=t1.trans (t2.trans (t3.trans (t4.trans t5)))
 have rX:zy K _ (x1++x2++x4) (b.rates++b.lates++b.pays):=zjA (zjA (r1.same t15) (r2.same (t2.trans (t3.trans (t4.trans t5))))) (r4.same (t4.trans t5))
 have eP5:=t15 _ _ eP
 have s15:=s1.trans t15
 generalize upd (upd (upd (upd (upd H1 q1 (.lst x1)) q2 (.lst x2)) q3 (.lst (x1++x2))) q4 (.lst x4)) q5 (.lst (x1++x2++x4))=H5 at rX eP5 s15 e5 ⊢
 have xl:=rX.length
 clear t15 t1 t2 t3 t4 t5 e1 e2 e3 e4 B2 B4 r1 r2 r4
 nofun
 refine ⟨⟨_,SqL.of e5⟩,fun l6 n6=>?_⟩
 have gd:∀ (u:List (Int × Int)) (f:Int × Int->Int) (i:Nat) (s:Int × Int),u[i]?=some s->(u.map f).getD i 0=f s:=fun u f i s e=>by
  rw[yae,yaj,e];rfl
 have xl2:(x1++x2++x4).length<=63:=by rw[yad,yad];ac_rfl
 refine zdK (fun i v=>v=.int (((b.rates++b.lates++b.pays).map (·.1)).getD i 0)) (SqL.of e5) n6 (by ac_rfl) ?_ ?_
 ·intro i x H' Q' hx sH hq
  obtain ⟨p,s,rfl,e,ht⟩:=rX.get hx
  nofun
  exact ⟨p,_,_,_,rfl,rfl,SqT.of (sH _ _ ht),rfl,hq _ (by rw[gd _ _ i s e])⟩
 intro ys1 len1 hp1
 obtain rfl:=zgr (ns:=(b.rates++b.lates++b.pays).map (·.1)) (by rw[len1,yab,xl]) hp1
 have s6:=zc n6 (.lst (((b.rates++b.lates++b.pays).map (·.1)).map V.int))
 have e6:=zq (.lst (((b.rates++b.lates++b.pays).map (·.1)).map V.int)) n6
 have eP6:=s6 _ _ eP5
 have kl:((b.rates++b.lates++b.pays).map (·.1)).length=b.rates.length+b.lates.length+b.pays.length:=by rw[yab,yad,yad]
 nofun
 refine ⟨p,l6,_,_,rfl,rfl,eP6,e6,by rw[yab];show 1+_<=_;ac_rfl,?_⟩
 generalize hD1:(b.rates++b.lates++b.pays).map (·.1)=D1 at *
 have s7:Same H (upd (upd H5 l6 (.lst (D1.map V.int))) p (.lst ([.int 0]++D1.map V.int))):=zN (s15.trans s6) np
 have eP7:(upd (upd H5 l6 (.lst (D1.map V.int))) p (.lst ([.int 0]++D1.map V.int))) p=some (.lst ((0::D1).map V.int)):=zf
 generalize upd (upd H5 l6 (.lst (D1.map V.int))) p (.lst ([.int 0]++D1.map V.int))=H7 at s7 eP7 ⊢
 have B7:=B.same s7
 nofun
 refine ⟨.inl ⟨rfl,_,SqL.of eP7⟩,?_⟩
 nofun
 refine ⟨a,A.dx,_,rfl,B7.ins,rfl,a,A,b,rfl,B7,fun q8 x8 n8 r8 l8=>?_⟩
 have s8:=zc n8 (.lst x8)
 have e8:=zq (.lst x8) n8
 have r8':=r8.same s8
 have c8:=r8.length
 have eP8:=s8 _ _ eP7
 have s78:=s7.trans s8
 generalize upd H7 q8 (.lst x8)=H8 at s8 e8 r8' eP8 s78 ⊢
 have B8:=B.same s78
 nofun
 refine ⟨⟨_,SqL.of e8⟩,fun l9 n9=>?_⟩
 refine zdK (fun i v=>v=.int ((b.dues.map fun s=>s.1+b.g).getD i 0)) (SqL.of e8) n9 (by ac_rfl) ?_ ?_
 ·intro i x H' Q' hx sH hq
  obtain ⟨u,s,rfl,e,ht⟩:=r8'.get hx
  have hu:=sH _ _ ht
  nofun
  refine ⟨a,A.dx,_,rfl,(B8.same sH).ins,rfl,a,A,b,rfl,B8.same sH,?_⟩
  nofun
  exact hq _ (by rw[gd _ _ i s e])
 intro ys2 len2 hp2
 obtain rfl:=zgr (ns:=b.dues.map fun s=>s.1+b.g) (by rw[len2,yab,c8]) hp2
 have s9:=zc n9 (.lst ((b.dues.map fun s=>s.1+b.g).map V.int))
 have e9:=zq (.lst ((b.dues.map fun s=>s.1+b.g).map V.int)) n9
 have eP9:=s9 _ _ eP8
 have kl2:(b.dues.map fun s=>s.1+b.g).length=b.dues.length:=yab ..
 nofun
 refine ⟨p,l9,_,_,rfl,rfl,eP9,e9,by rw[yab,yab];show D1.length+1+_<=_;ac_rfl,?_⟩
 generalize hD2:(b.dues.map fun s=>s.1+b.g)=D2 at *
 have cat:(0::D1).map V.int++D2.map V.int=(0::D1++D2).map V.int:=by rw[yan]
 rw[cat]
 have sA:Same H (upd (upd H8 l9 (.lst (D2.map V.int))) p (.lst ((0::D1++D2).map V.int))):=zN (s78.trans s9) np
 have ePA:(upd (upd H8 l9 (.lst (D2.map V.int))) p (.lst ((0::D1++D2).map V.int))) p=some (.lst ((0::D1++D2).map V.int)):=zf
 generalize upd (upd H8 l9 (.lst (D2.map V.int))) p (.lst ((0::D1++D2).map V.int))=HA at sA ePA ⊢
 have BA:=B.same sA
 nofun
 refine ⟨a,A.dx,_,rfl,BA.ins,rfl,a,A,b,rfl,BA,fun qS xS nS rS lS=>?_⟩
 have sS:=zc nS (.lst xS)
 have eS:=zq (.lst xS) nS
 have rS':=rS.same sS
 have cS:=rS.length
 have ePS:=sS _ _ ePA
 have sB:=sA.trans sS
 have nqp:qS≠p:=(zZ ePA nS).symm
 generalize upd HA qS (.lst xS)=HB at sS eS rS' ePS sB ⊢
 nofun
 refine ⟨⟨_,SqL.of eS⟩,zcr (xs:=xS) (fun i σ H'=>∃ (D3:List Int) (z:Option V),(Same H H'/\H' p=some (.lst ((0::D1++D2++D3).map V.int))/\H' qS=some (.lst xS)/\zy K H' xS b.spans)/\D3.length=2*i/\(∀ d,d∈D3↔∃ s∈b.spans.take i,d=s.1\/d=s.2)/\σ=[some (.ref a),some (.ref p),z])
  ⟨[],_,⟨sB,by rw[ybl];exact ePS,eS,rS'⟩,rfl,fun d=>by simp,rfl⟩ ?_ ?_ ?_⟩
 ·rintro i σ H' _ ⟨D3,z,⟨_,_,e,_⟩,_⟩
  exact SqL.of e
 ·rintro i x σ H' hx ⟨D3,z,⟨sH,eP',eS',rS''⟩,dl,mem,rfl⟩
  obtain ⟨u,s,rfl,hs,hu⟩:=rS''.get hx
  have il:i<b.spans.length:=(yac.mp hs).1
  have tk:b.spans.take (i+1)=b.spans.take i++[s]:=by rw[ybe,hs];rfl
  nofun
  refine ⟨.inl ⟨rfl,_,SqL.of eP'⟩,?_⟩
  nofun
  refine ⟨p,u,_,_,rfl,rfl,eP',hu,by simp;ac_rfl,?_⟩
  refine ⟨D3++[s.1,s.2],_,⟨zN sH np,by rw[<-ycb,yan (l₂:=[s.1,s.2])];exact zf,by rw[zx nqp];exact eS',rS''.put eP'⟩,by rw[yad];show D3.length+2=_;ac_rfl,fun d=>?_,rfl⟩
  rw[yag,mem,tk]
  constructor
  ·rintro (⟨u,hu,e⟩ | e)
   ·exact ⟨u,yag.mpr (.inl hu),e⟩
   ·exact ⟨s,yag.mpr (.inr (by simp)),by simpa using e⟩
  ·rintro ⟨u,hu,e⟩
   rcases yag.mp hu with hu | hu
   ·exact .inl ⟨u,hu,e⟩
   ·obtain rfl:u=s:=by simpa using hu
    exact .inr (by simpa using e)
 ·rintro σ H' ⟨D3,z,⟨sH,eP',eS',rS''⟩,dl,mem,rfl⟩
  rw[cS,yck] at mem
  rw[cS] at dl
  nofun
  refine ⟨p,_,rfl,SqL.of eP',by simp;ac_rfl,fun pS HS ms nPS sPS ePS2 nd mm lm=>?_⟩
  nofun
  refine ⟨pS,ms,rfl,ePS2,yde lm (by simp;ac_rfl),fun pR HR ns nPR sPR ePR pm up=>?_⟩
  refine h pR ns HR (zD (sH.trans sPS) nPR) (sH.trans (sPS.trans sPR)) ePR (zht pm nd up) (fun d=>?_) (by rw[pm.length_eq];exact yde lm (by simp;ac_rfl))
  rw[pm.mem_iff,mm,yag,yag,yal,mem,<-hD1,<-hD2]
  unfold TDay
  constructor
  ·rintro (((h1 | h1) | h1) | h1)
   ·exact .inl h1
   ·obtain ⟨s,hs,e⟩:=yaf.mp h1
    exact .inr (.inl ⟨s,hs,e.symm⟩)
   ·obtain ⟨s,hs,e⟩:=yaf.mp h1
    exact .inr (.inr (.inl ⟨s,hs,e.symm⟩))
   ·exact .inr (.inr (.inr h1))
  ·rintro (h1 | ⟨s,hs,e⟩ | ⟨s,hs,e⟩ | h1)
   ·exact .inl (.inl (.inl h1))
   ·exact .inl (.inl (.inr (yaf.mpr ⟨s,hs,e.symm⟩)))
   ·exact .inl (.inr (yaf.mpr ⟨s,hs,e.symm⟩))
   ·exact .inr h1
def zjM (P:Program) (w:World) (K:W.Frag):Sp:=fun vs H Q _=>L2.Ee6 fun a p A (b:BkT) (ms:List Int) z=>L2.Aa6 (vs=[.ref a,.ref p]) (zaD K H a A b) (zbb b) (H p=some (.lst ((ms++[z]).map V.int))) (b.outs.length+b.fees.length+b.pays.length+b.turns.length+ms.length<=60) (∀ q ws (ds:List Int) H',H q=none->Same H H'->H' q=some (.lst ws)->R5 b H' ws ds->ds.Pairwise (·<·)->(∀ d,d∈ds↔(DDay b d/\d<z)\/d∈ms++[z])->ds.length<=62->Q (.ref q) H')
theorem zbA:zj ["book", "days", "outs", "fees", "turns", "pays", "all_days"] qao (zi zej):=by walk_at "sp"
theorem zpN (S:Src K mg "deeds_upto" zej qao) (T:Txt K mg) (zbI:zt P w K mg base 1 (cA K "Book") "outs" qaa (zha K)) (zaL:zt P w K mg base 1 (cA K "Book") "fees" qaa (zdW K)) (zbr:zt P w K mg base 1 (cA K "Book") "turns" qaa (zfz K)) (zah:zt P w K mg base 1 (cA K "Book") "pays" qaa (zbR K)) (zdD:zt P w K mg base 1 (cA K "Book") "deed_days" qaa (zf1 K)):Def P w K mg base 2 "deeds_upto" qao (zjM P w K):=by
 exists S.ok,zbA,0
 all_goals obtain ⟨a,p,A,b,ms,z,rfl,B,I,hp,osz,h⟩:=h
 ·rfl
 refine ⟨_,(zd (zo (i:=2) zbA.nd rfl (by walk_at "lc") (zU (zed rfl) rfl T.zfw PyProof.Rows.boot_dict (za (zv zbI T.zu hr (pv 0)) zb)))
  (zd (zo (i:=3) zbA.nd rfl (by walk_at "lc") (zU (zed rfl) rfl T.zfw PyProof.Rows.boot_dict (za (zv zaL T.zu hr (pv 0)) zb)))
  (zd (zo (i:=4) zbA.nd rfl (by walk_at "lc") (zU (zed rfl) rfl T.zfw PyProof.Rows.boot_dict (za (zbj (ix:=[]) ⟨rfl,by decide +kernel,rfl,by decide +kernel,rfl,(show (["turn"]:List Str).Nodup by decide +kernel),by walk_at "cap", by walk_at "sub", by walk_at "has"⟩ (zQ (zv zbr T.zu hr (pv 0))) (fun b=>(zO (za (pv 0) (za ze zb))))) zb)))
  (zd (zo (i:=5) zbA.nd rfl (by walk_at "lc") (zU (zed rfl) rfl T.zfw PyProof.Rows.boot_dict (za (zv zah T.zu hr (pv 0)) zb)))
  (zd (zo (i:=6) zbA.nd rfl (by walk_at "lc") (zE (zcy rfl) rfl T.zbJ PyProof.Rows.boot_sorted (za (zU (zcC rfl) rfl T.zge PyProof.Rows.boot_set (za (zh zbf (zbZ (ix:=[1]) ⟨rfl,by decide +kernel,rfl,by decide +kernel,rfl,(show (["deed", "days"]:List Str).Nodup by decide +kernel),by walk_at "cap", by walk_at "sub", by walk_at "has"⟩ (zQ (zv zdD T.zu hr (pv 0))) (fun b=>(zw ze4 (pv 0) (zB (zeu K) (pv 1) (zjb zgx ze) (fun _ _=>rfl)) (nomark _))) (fun b=>(pv 0))) (pv 1)) zb)) zb)))
  (zg (zk (zbj (ix:=[3,2,5,4]) ⟨rfl,by decide +kernel,rfl,by decide +kernel,rfl,(show (["deed", "fees", "outs", "pays", "turns"]:List Str).Nodup by decide +kernel),by walk_at "cap", by walk_at "sub", by walk_at "has"⟩ (zQ (pv 6)) (fun b=>(zO (za (pv 0) (za (zi6 P w (pv 2) (pv 0) ze) (za (zi6 P w (pv 1) (pv 0) ze) (za (zi6 P w (pv 4) (pv 0) ze) (za (zi6 P w (pv 3) (pv 0) ze) zb))))))))))))))),?_⟩
 have sz:=sizeLine_eq
 nofun
 refine ⟨a,A.dx,_,rfl,B.ins,rfl,a,A,b,rfl,B,fun q1 x1 n1 r1 l1=>?_⟩
 have s1:=zc n1 (.lst x1)
 have e1:=zq (.lst x1) n1
 have r1':=r1.same s1
 generalize upd H q1 (.lst x1)=G1 at s1 e1 r1' ⊢
 nofun
 refine ⟨q1,x1,b.outs,rfl,e1,r1',by ac_rfl,fun d1 H1 nd1 t1 ed1=>?_⟩
 have u1:=s1.trans t1
 have B1:=B.same u1
 nofun
 refine ⟨a,A.dx,_,rfl,B1.ins,rfl,a,A,b,rfl,B1,fun q2 x2 n2 r2 l2=>?_⟩
 have s2:=zc n2 (.lst x2)
 have e2:=zq (.lst x2) n2
 have r2':=r2.same s2
 generalize upd H1 q2 (.lst x2)=G2 at s2 e2 r2' ⊢
 nofun
 refine ⟨q2,x2,b.fees,rfl,e2,r2',by ac_rfl,fun d2 H2 nd2 t2 ed2=>?_⟩
 have u2:=s2.trans t2
 have u12:=u1.trans u2
 have B2:=B.same u12
 have tnd:b.turns.Nodup:=Sby.zcW I.turns.up
 nofun
 refine ⟨a,A.dx,_,rfl,B2.ins,rfl,a,A,b,rfl,B2,fun q3 n3=>?_⟩
 have s3:=zc n3 (.lst (b.turns.map V.int))
 have e3:=zq (.lst (b.turns.map V.int)) n3
 generalize upd H2 q3 (.lst (b.turns.map V.int))=G3 at s3 e3 ⊢
 nofun
 refine ⟨⟨_,SqL.of e3⟩,fun l4 nl4=>?_⟩
 refine comp_map (zaw (SqL.of e3)) nl4 (by rw[yab];ac_rfl) b.turns (by rw[yab]) (fun H' v d=>∃ t,v=.ref t/\H' t=some (.tup [.int d,.int 1])) (fun v e H1 H2 s ⟨t,e1,e2⟩=>⟨t,e1,s _ _ e2⟩) (fun v e H1 ys zs hL ⟨t,e1,e2⟩=>⟨t,e1,by rw[zx (zaW e2 hL (by intro z;cases z))];exact e2⟩) ?_ ?_
 ·rintro i x d H' Q' hx hd sH hq
  rw[yaj,hd] at hx
  cases hx
  nofun
  intro t nt
  exact hq _ _ (zc nt _) ⟨t,rfl,zf⟩
 rintro y4 H4 t4 e4 hL4
 have r4:zy K H4 y4 (b.turns.map fun d=>(d,1)):=by
  clear e4 tnd
  revert hL4
  generalize b.turns=l
  intro hL
  induction hL with
  | nil=>exact .nil
  | cons h _ ih =>
   obtain ⟨t,rfl,e⟩:=h
   exact .cons e ih
 have u34:=s3.trans t4
 nofun
 refine ⟨l4,y4,b.turns.map fun d=>(d,1),rfl,e4,r4,by rw[yab];ac_rfl,fun d3 H5 nd3 t5 ed3=>?_⟩
 have u35:=u34.trans t5
 have u15:=u12.trans u35
 have B5:=B.same u15
 nofun
 refine ⟨a,A.dx,_,rfl,B5.ins,rfl,a,A,b,rfl,B5,fun q6 x6 n6 r6 l6=>?_⟩
 have s6:=zc n6 (.lst x6)
 have e6:=zq (.lst x6) n6
 have r6':=r6.same s6
 generalize upd H5 q6 (.lst x6)=G6 at s6 e6 r6' ⊢
 nofun
 refine ⟨q6,x6,b.pays,rfl,e6,r6',by ac_rfl,fun d6 H6 nd6 t6 ed6=>?_⟩
 have u6:=s6.trans t6
 have u16:=u15.trans u6
 have B6:=B.same u16
 nofun
 refine ⟨a,A.dx,_,rfl,B6.ins,rfl,a,A,b,rfl,B6,by ac_rfl,fun q7 ns H7 n7 t7 e7 up7 mem7 len7=>?_⟩
 have hp7:=(u16.trans t7) _ _ hp
 have atz:∀ xs:List Int,atI ((xs++[z]).map V.int) (-1)=some (.int z):=fun xs=>by
  unfold atI ixN
  simp
  rw[if_pos (by ac_rfl),Option.bind_some,show (-1+((xs.length:Int)+1)).toNat=xs.length by ac_rfl,ybk (by simp)]
  simp
 nofun
 refine ⟨⟨_,SqL.of e7⟩,fun l8 nl8=>?_⟩
 refine zs6 (zaw (SqL.of e7)) nl8 (by rw[yab];ac_rfl) ns (by rw[yab]) (fun d=>decide (d<z)) (fun H' v d=>v=.int d) (fun v e H1 H2 s e1=>e1) (fun v e H1 ys zs hL e1=>e1) ?_ ?_ ?_
 ·rintro i x d H' Q' hx hd sH hq
  rw[yaj,hd] at hx
  cases hx
  nofun
  refine ⟨p,_,_,_,rfl,rfl,SqL.of (sH _ _ hp7),atz ms,?_⟩
  nofun
  exact hq _ (Same.refl _)
 ·rintro i x d H' Q' hx hd fd sH hq
  rw[yaj,hd] at hx
  cases hx
  nofun
  exact hq _ _ (Same.refl _) rfl
 rintro y8 H8 t8 e8 hL8
 obtain rfl:y8=(ns.filter fun d=>decide (d<z)).map V.int:=by
  clear e8
  revert hL8
  generalize ns.filter (fun d=>decide (d<z))=l
  intro hL
  induction hL with
  | nil=>rfl
  | cons h _ ih=>rw[h,ih];rfl
 have fl:=yav (fun d=>decide (d<z)) ns
 have hp8:=t8 _ _ hp7
 have ml:(ms++[z]).length=ms.length+1:=by simp
 nofun
 refine ⟨l8,p,_,_,rfl,rfl,e8,hp8,by rw[yab,yab];ac_rfl,fun q9 n9=>?_⟩
 rw[<-yan]
 have s9:=zc n9 (.lst (((ns.filter fun d=>decide (d<z))++(ms++[z])).map V.int))
 have e9:=zq (.lst (((ns.filter fun d=>decide (d<z))++(ms++[z])).map V.int)) n9
 have u19:=u16.trans (t7.trans (t8.trans s9))
 have u29:=u2.trans (u35.trans (u6.trans (t7.trans (t8.trans s9))))
 have u39:=u35.trans (u6.trans (t7.trans (t8.trans s9)))
 have u59:=u6.trans (t7.trans (t8.trans s9))
 have u69:=t7.trans (t8.trans s9)
 generalize upd H8 q9 (.lst (((ns.filter fun d=>decide (d<z))++(ms++[z])).map V.int))=H9 at s9 e9 u19 u29 u39 u59 u69 ⊢
 have dl:((ns.filter fun d=>decide (d<z))++(ms++[z])).length<=61:=by rw[yad];ac_rfl
 nofun
 refine ⟨q9,_,rfl,SqL.of e9,by ac_rfl,fun pS HS ks nPS sPS ePS nd mm lm=>?_⟩
 nofun
 refine ⟨pS,ks,rfl,ePS,by ac_rfl,fun pR HR ds nPR sPR ePR pm up=>?_⟩
 have v1:=(u29.trans (sPS.trans sPR)) _ _ ed1
 have v2:=(u39.trans (sPS.trans sPR)) _ _ ed2
 have v3:=(u59.trans (sPS.trans sPR)) _ _ ed3
 have v4:=(u69.trans (sPS.trans sPR)) _ _ ed6
 have vH:=u19.trans (sPS.trans sPR)
 have dsl:ds.length<=62:=by rw[pm.length_eq];ac_rfl
 nofun
 refine ⟨⟨_,SqL.of ePR⟩,fun lZ nlZ=>?_⟩
 refine comp_map (zaw (SqL.of ePR)) nlZ (by rw[yab];ac_rfl) ds (by rw[yab]) (fun H' v d=>∃ t,v=.ref t/\H' t=some (.tup [.int d,.int (ddo b d).1,.int (ddo b d).2.1,.int (ddo b d).2.2.1,.int (ddo b d).2.2.2])) (fun v e H1 H2 s ⟨t,e1,e2⟩=>⟨t,e1,s _ _ e2⟩) (fun v e H1 ys zs hL ⟨t,e1,e2⟩=>⟨t,e1,by rw[zx (zaW e2 hL (by intro z;cases z))];exact e2⟩) ?_ ?_
 ·rintro i x d H' Q' hx hd sH hq
  rw[yaj,hd] at hx
  cases hx
  have w1:=sH _ _ v1
  have w2:=sH _ _ v2
  have w3:=sH _ _ v3
  have w4:=sH _ _ v4
  have tE:(if d∈b.turns then (1:Int) else 0)=if d∈dys "turn" b.es then 1 else 0:=by
   by_cases c:d∈b.turns
   ·rw[if_pos c,if_pos ((I.turns.mem d).mp c)]
   ·rw[if_neg c,if_neg fun z=>c ((I.turns.mem d).mpr z)]
  nofun
  refine ⟨d1,_,rfl,w1,?_⟩
  nofun
  refine ⟨w1,?_⟩
  rw[znb I.outs]
  nofun
  refine ⟨d2,_,rfl,w2,?_⟩
  nofun
  refine ⟨w2,?_⟩
  rw[znb I.fees]
  nofun
  refine ⟨d3,_,rfl,w3,?_⟩
  nofun
  refine ⟨w3,?_⟩
  rw[zuz tnd,tE]
  nofun
  refine ⟨d6,_,rfl,w4,?_⟩
  nofun
  refine ⟨w4,?_⟩
  rw[znb I.pays]
  nofun
  intro t nt
  exact hq _ _ (zc nt _) ⟨t,rfl,zf⟩
 rintro yZ HZ tZ eZ hZ
 refine h lZ yZ ds HZ (zD vH nlZ) (vH.trans tZ) eZ hZ (zht pm nd up) (fun d=>?_) dsl
 rw[pm.mem_iff,mm,yag,yap,mem7]
 simp
def zhu (kd:Kd) (K:W.Frag):Sp:=fun vs H Q _=>∃ a,vs=[.ref a]/\zb4 K H a kd/\Q (.int (10000*yr kd)) H
theorem zow:zj qaa qaa (zi zaN):=by walk_at "sp"
theorem zd4 (kd:Kd) (hk:kd=.plain\/kd=.bank\/kd=.thirty\/kd=.exact) (S:zp K (cA K kd.cls) "unit" "Count.unit" zaN qaa) (T:Txt K mg) (zb1:∀ kd:Kd,zt P w K mg base 1 (cA K kd.cls) "year" qaa (zcD kd K)):zt P w K mg base 2 (cA K kd.cls) "unit" qaa (zhu kd K):=by
 exists S.ok,zow,0
 all_goals obtain ⟨a,rfl,hc,h⟩:=h
 ·rfl
 refine ⟨_,(zg (zk (zh zar (zbT T.zhn) (zdM zb1 T.cls hr (pv 0))))),?_⟩
 nofun
 refine ⟨kd,a,rfl,hc,?_⟩
 nofun
 exact h
def za2 (K:W.Frag):Sp:=fun vs H Q _=>L2.Ee5 fun p C dx d x=>L2.Aa6 (vs=[.ref p,.int d,.int x]) (H p=some (.ins C dx [])) (Cls K C) (zW K C "day") (zW K C "amount") (Q .non (upd H p (.ins C dx [("day", .int d),("amount", .int x)])))
theorem zjY:zj qaj qaj (zi zaa):=by walk_at "sp"
theorem zbE (x:Str) (S:zp K (cA K x) "__init__" "AmountEntry.__init__" zaa qaj) (T:Txt K mg) (zab:znm P w K mg base 1 (cA K "Entry") "__init__" qab (zbx K)):zt P w K mg base 2 (cA K x) "__init__" qaj (za2 K):=by
 exists S.ok,zjY,0
 all_goals obtain ⟨p,C,dx,d,x,rfl,e,hc,n1,n2,h⟩:=h
 ·rfl
 refine ⟨_,(zd (zao (zpe zab (zgp (v:=.ref (cA K "Entry")) rfl T.ziJ rfl) hr (za (pv 0) (za (pv 1) zb))))
  (zg (zkz (pv 0) (pv 2) rfl))),?_⟩
 nofun
 refine ⟨p,C,dx,[],d,rfl,e,hc,n1,by decide,?_⟩
 nofun
 refine ⟨p,C,dx,_,rfl,zf,hc,n2,yde (ydc 1) (by decide),?_⟩
 rw[zX]
 exact h
def zc0 (K:W.Frag):Sp:=fun vs H Q _=>L2.Ee5 fun p C dx d x=>L2.Aa6 (vs=[.ref p,.int d,.int x]) (H p=some (.ins C dx [])) (Cls K C) (zW K C "day") (zW K C "rate") (Q .non (upd H p (.ins C dx [("day", .int d),("rate", .int x)])))
theorem zlh:zj qap qap (zi za5):=by walk_at "sp"
theorem zgO (x:Str) (S:zp K (cA K x) "__init__" "RateEntry.__init__" za5 qap) (T:Txt K mg) (zab:znm P w K mg base 1 (cA K "Entry") "__init__" qab (zbx K)):zt P w K mg base 2 (cA K x) "__init__" qap (zc0 K):=by
 exists S.ok,zlh,0
 all_goals obtain ⟨p,C,dx,d,x,rfl,e,hc,n1,n2,h⟩:=h
 ·rfl
 refine ⟨_,(zd (zao (zpe zab (zgp (v:=.ref (cA K "Entry")) rfl T.ziJ rfl) hr (za (pv 0) (za (pv 1) zb))))
  (zg (zkz (pv 0) (pv 2) rfl))),?_⟩
 nofun
 refine ⟨p,C,dx,[],d,rfl,e,hc,n1,by decide,?_⟩
 nofun
 refine ⟨p,C,dx,_,rfl,zf,hc,n2,yde (ydc 1) (by decide),?_⟩
 rw[zX]
 exact h
def zjS (K:W.Frag):Sp:=fun vs H Q _=>L2.Ee5 fun p C dx d x=>L2.Aa6 (vs=[.ref p,.int d,.int x]) (H p=some (.ins C dx [])) (Cls K C) (zW K C "day") (zW K C "until") (Q .non (upd H p (.ins C dx [("day", .int d),("until", .int x)])))
theorem znY:zj qay qay (zi zek):=by walk_at "sp"
theorem zpG (x:Str) (S:zp K (cA K x) "__init__" "Still.__init__" zek qay) (T:Txt K mg) (zab:znm P w K mg base 1 (cA K "Entry") "__init__" qab (zbx K)):zt P w K mg base 2 (cA K x) "__init__" qay (zjS K):=by
 exists S.ok,znY,0
 all_goals obtain ⟨p,C,dx,d,x,rfl,e,hc,n1,n2,h⟩:=h
 ·rfl
 refine ⟨_,(zd (zao (zpe zab (zgp (v:=.ref (cA K "Entry")) rfl T.ziJ rfl) hr (za (pv 0) (za (pv 1) zb))))
  (zg (zkz (pv 0) (pv 2) rfl))),?_⟩
 nofun
 refine ⟨p,C,dx,[],d,rfl,e,hc,n1,by decide,?_⟩
 nofun
 refine ⟨p,C,dx,_,rfl,zf,hc,n2,yde (ydc 1) (by decide),?_⟩
 rw[zX]
 exact h
def zkl (K:W.Frag):Sp:=fun vs H Q _=>∃ i a b,vs=[.int i,.int a,.int b]/\(a<=i/\i<=b)/\Q (.bl true) H
theorem zpx:zj qaz qaz (zi zfn):=by walk_at "sp"
theorem zrr (S:Src K mg "is_within" zfn qaz) (T:Txt K mg) (zjj:Def P w K mg base 1 "is_whole" ["thing"] (zlq K)):Def P w K mg base 2 "is_within" qaz (zkl K):=by
 exists S.ok,zpx,0
 all_goals obtain ⟨i,a,b,rfl,⟨h1,h2⟩,h⟩:=h
 ·rfl
 refine ⟨_,(zg (zk (zfu (zr zjj hr (za (pv 0) zb)) (zfr (zuA zds zds (pv 1) (pv 0) (pv 2)))))),?_⟩
 nofun
 refine ⟨_, "int", rfl,⟨.int i,by simp[kinds]⟩,?_⟩
 nofun
 all_goals first
  | exact absurd rfl (by assumption)
  | (exfalso;ac_rfl)
  | (refine qb h ?_;simp[h1,h2])
def zj8 (K:W.Frag):Sp:=fun vs H Q _=>L2.Ee4 fun p xs (es:List Er) w=>L2.Aa6 (vs=[.ref p,.str w]) (SqL K H p xs) (EL K H xs es) (es.length<=61) (AmW w) (∀ q H' ws r,H q=none->Same H H'->H' q=some (.lst ws)->zy K H' ws r->Sby.Tab r (prs w es)->Q (.ref q) H')
theorem ztP:zj qaf qaf (zi zjB):=by walk_at "sp"
theorem zus (S:Src K mg "sum_by" zjB qaf) (T:Txt K mg) (zeQ:Def P w K mg base 1 "summed" qal (zka K)) (zbd:∀ k:Ek,zt P w K mg base 1 (cA K k.cls) "word" qaa (zaJ k K)):Def P w K mg base 2 "sum_by" qaf (zj8 K):=by
 exists S.ok,ztP,0
 all_goals obtain ⟨p,xs,es,ww,rfl,ep,hE,hl,hw,h⟩:=h
 ·rfl
 refine ⟨_,(zg (zk (zr zeQ hr (za (zbZ (ix:=[1]) ⟨rfl,by decide +kernel,rfl,by decide +kernel,rfl,(show (["entry", "word"]:List Str).Nodup by decide +kernel),by walk_at "cap", by walk_at "sub", by walk_at "has"⟩ (zQ (pv 0)) (fun b=>(zw zan (zf9 K zbd T.clE hr (pv 0)) (pv 1) (nomark _))) (fun b=>(zO (za (zcN K (pv 0) rfl) (za (zcN K (pv 0) rfl) zb))))) zb)))),?_⟩
 have sz:=sizeLine_eq
 nofun
 have xl:=hE.length
 refine ⟨⟨_,ep⟩,fun l nl=>?_⟩
 refine zdu (zaw ep) nl (by ac_rfl) es xl.symm (isW ww) (fun H' v e=>∃ t,v=.ref t/\H' t=some (.tup [.int e.2.1,.int e.2.2])) (fun v e H1 H2 s ⟨t,e1,e2⟩=>⟨t,e1,s _ _ e2⟩) (fun v e H1 ys zs hL ⟨t,e1,e2⟩=>⟨t,e1,by rw[zx (zaW e2 hL (by intro z;cases z))];exact e2⟩) ?_ ?_ ?_
 ·rintro i x e H' Q' hx he sH hq
  obtain ⟨e',he',a,dx,rfl,hi⟩:=(hE.same sH).get hx
  obtain rfl:e'=e:=Option.some.inj (he'.symm.trans he)
  nofun
  refine ⟨e'.1,a,dx,_,rfl,hi,zhE _ _ _,a,rfl,?_⟩
  nofun
  exact hq
 ·rintro i x e H' Q' hx he fe sH hq
  obtain ⟨e',he',a,dx,rfl,hi⟩:=(hE.same sH).get hx
  obtain rfl:e'=e:=Option.some.inj (he'.symm.trans he)
  nofun
  refine ⟨a,_,dx,_,_,rfl,hi,T.clE _,T.zbk _,zhe _ _ _,?_⟩
  nofun
  refine ⟨a,_,dx,_,_,rfl,hi,T.clE _,T.zeq _,(amt hw fe).1,?_⟩
  nofun
  intro t nt
  exact hq _ _ (zc nt _) ⟨t,rfl,zf⟩
 ·rintro ys H' sH eL hL
  have hR:zy K H' ys (prs ww es):=zmJ hL
  nofun
  refine ⟨l,ys,prs ww es,rfl,eL,hR,?_,fun q H2 ws r nq s2 eq hr' tb=>?_⟩
  ·unfold prs
   rw[yab]
   exact ydh (yav _ _) hl
  ·exact h q H2 ws r (zD sH nq) (sH.trans s2) eq hr' tb
def zme (K:W.Frag):Sp:=fun vs H Q _=>L2.Ee4 fun p xs (es:List Er) w=>L2.Aa5 (vs=[.ref p,.str w]) (SqL K H p xs) (EL K H xs es) (es.length<=61) (∀ q H' (ns:List Int),H q=none->Same H H'->H' q=some (.lst (ns.map V.int))->Days ns (dys w es)->Q (.ref q) H')
theorem zst:zj qaf qaf (zi zhq):=by walk_at "sp"
theorem zs0 (S:Src K mg "days_of" zhq qaf) (T:Txt K mg) (zbd:∀ k:Ek,zt P w K mg base 1 (cA K k.cls) "word" qaa (zaJ k K)):Def P w K mg base 2 "days_of" qaf (zme K):=by
 exists S.ok,zst,0
 all_goals obtain ⟨p,xs,es,ww,rfl,ep,hE,hl,h⟩:=h
 ·rfl
 refine ⟨_,(zg (zk (zE (zcy rfl) rfl T.zbJ PyProof.Rows.boot_sorted (za (zU (zcC rfl) rfl T.zge PyProof.Rows.boot_set (za (zbZ (ix:=[1]) ⟨rfl,by decide +kernel,rfl,by decide +kernel,rfl,(show (["entry", "word"]:List Str).Nodup by decide +kernel),by walk_at "cap", by walk_at "sub", by walk_at "has"⟩ (zQ (pv 0)) (fun b=>(zw zan (zf9 K zbd T.clE hr (pv 0)) (pv 1) (nomark _))) (fun b=>(zcN K (pv 0) rfl))) zb)) zb)))),?_⟩
 have sz:=sizeLine_eq
 have xl:=hE.length
 nofun
 refine ⟨⟨_,ep⟩,fun l nl=>?_⟩
 refine zdu (zaw ep) nl (by ac_rfl) es xl.symm (isW ww) (fun _ v e=>v=.int e.2.1) (fun v e H1 H2 s q=>q) (fun v e H1 ys zs hL q=>q) ?_ ?_ ?_
 ·rintro i x e H' Q' hx he sH hq
  obtain ⟨e',he',a,dx,rfl,hi⟩:=(hE.same sH).get hx
  obtain rfl:e'=e:=Option.some.inj (he'.symm.trans he)
  nofun
  refine ⟨e'.1,a,dx,_,rfl,hi,zhE _ _ _,a,rfl,?_⟩
  nofun
  exact hq
 ·rintro i x e H' Q' hx he fe sH hq
  obtain ⟨e',he',a,dx,rfl,hi⟩:=(hE.same sH).get hx
  obtain rfl:e'=e:=Option.some.inj (he'.symm.trans he)
  nofun
  refine ⟨a,_,dx,_,_,rfl,hi,T.clE _,T.zbk _,zhe _ _ _,?_⟩
  exact hq _ _ (Same.refl _) rfl
 ·rintro ys H' sH eL hL
  have ey:ys=(dys ww es).map V.int:=by
   have:=hL.eqm (g:=fun e:Er=>V.int e.2.1)
   rw[this]
   unfold dys
   rw[ybn]
   rfl
  subst ey
  nofun
  refine ⟨l,dys ww es,rfl,SqL.of eL,yde zrD (by ac_rfl),fun p1 H1 ms np1 s1 e1 nd mm ml=>?_⟩
  nofun
  refine ⟨p1,ms,rfl,e1,?_,fun q H2 ns nq s2 eq pm up=>?_⟩
  ·exact yde (ydh (zg1 nd fun d hd=>(mm d).mp hd) zrD) (by ac_rfl)
  ·exact h q H2 ns (zD (sH.trans s1) nq) (sH.trans (s1.trans s2)) eq (Days.of nd mm pm up)
def zjP (K:W.Frag):Sp:=fun vs H Q _=>L2.Ee4 fun p xs (es:List Er) w=>L2.Aa7 (vs=[.ref p,.str w]) (SqL K H p xs) (EL K H xs es) (es.length<=61) (RtW w) ((∀ e∈es,0<=e.2.1)) (∀ q H' ws (r:List (Int × Int)),H q=none->Same H H'->H' q=some (.lst ws)->zy K H' ws r->Stills.TabOf (prs w es) r->r=(r.map (·.1)).map (fun d=>(d,Sums.valOf (prs w es) d))->r.length<=61->Q (.ref q) H')
theorem zoq:zj qaf qaf (zi zd7):=by walk_at "sp"
theorem zpA (S:Src K mg "rate_table" zd7 qaf) (T:Txt K mg) (zjx:Def P w K mg base 1 "table_of" qal (zlt K)) (zbd:∀ k:Ek,zt P w K mg base 1 (cA K k.cls) "word" qaa (zaJ k K)):Def P w K mg base 2 "rate_table" qaf (zjP K):=by
 exists S.ok,zoq,0
 all_goals obtain ⟨p,xs,es,ww,rfl,ep,hE,hl,hw,e0,h⟩:=h
 ·rfl
 refine ⟨_,(zg (zk (zr zjx hr (za (zbZ (ix:=[1]) ⟨rfl,by decide +kernel,rfl,by decide +kernel,rfl,(show (["entry", "word"]:List Str).Nodup by decide +kernel),by walk_at "cap", by walk_at "sub", by walk_at "has"⟩ (zQ (pv 0)) (fun b=>(zw zan (zf9 K zbd T.clE hr (pv 0)) (pv 1) (nomark _))) (fun b=>(zO (za (zcN K (pv 0) rfl) (za (zcN K (pv 0) rfl) zb))))) zb)))),?_⟩
 have sz:=sizeLine_eq
 nofun
 have xl:=hE.length
 have pl:=ydh (ziG (w:=ww) (es:=es)) hl
 refine ⟨⟨_,ep⟩,fun l nl=>?_⟩
 refine zdu (zaw ep) nl (by ac_rfl) es xl.symm (isW ww) (fun H' v e=>∃ t,v=.ref t/\H' t=some (.tup [.int e.2.1,.int e.2.2])) (fun v e H1 H2 s ⟨t,e1,e2⟩=>⟨t,e1,s _ _ e2⟩) (fun v e H1 ys zs hL ⟨t,e1,e2⟩=>⟨t,e1,by rw[zx (zaW e2 hL (by intro z;cases z))];exact e2⟩) ?_ ?_ ?_
 ·rintro i x e H' Q' hx he sH hq
  obtain ⟨e',he',a,dx,rfl,hi⟩:=(hE.same sH).get hx
  obtain rfl:e'=e:=Option.some.inj (he'.symm.trans he)
  nofun
  refine ⟨e'.1,a,dx,_,rfl,hi,zhE _ _ _,a,rfl,?_⟩
  nofun
  exact hq
 ·rintro i x e H' Q' hx he fe sH hq
  obtain ⟨e',he',a,dx,rfl,hi⟩:=(hE.same sH).get hx
  obtain rfl:e'=e:=Option.some.inj (he'.symm.trans he)
  nofun
  refine ⟨a,_,dx,_,_,rfl,hi,T.clE _,T.zbk _,zhe _ _ _,?_⟩
  nofun
  refine ⟨a,_,dx,_,_,rfl,hi,T.clE _,T.zlL _,rtl hw fe,?_⟩
  nofun
  intro t nt
  exact hq _ _ (zc nt _) ⟨t,rfl,zf⟩
 ·rintro ys H' sH eL hL
  have hR:zy K H' ys (prs ww es):=zmJ hL
  nofun
  refine ⟨l,ys,prs ww es,rfl,eL,hR,by ac_rfl,?_,fun q H2 ws r nq s2 eq hr' tb er rl=>?_⟩
  ·intro s hs
   obtain ⟨e,he,rfl⟩:=yaf.mp hs
   exact e0 e (yap.mp he).1
  ·exact h q H2 ws r (zD sH nq) (sH.trans s2) eq hr' tb er (by ac_rfl)
def ziC (K:W.Frag):Sp:=fun vs H Q _=>∃ (p:Addr) (xs:List V) (es:List Er),vs=[.ref p]/\SqL K H p xs/\EL K H xs es/\es.length<=61 /\
 ∀ q H' ws (r:List (Int × Int)),H q=none->Same H H'->H' q=some (.lst ws)->zy K H' ws r->Spans.Joined r->(∀ d,Spans.Cov r d↔Spans.Cov (prs "still" es) d)->r.length<=61->Q (.ref q) H'
theorem ziI:zj ["entries", "stills"] qbk (zi zdf):=by walk_at "sp"
theorem zn6 (S:Src K mg "still_spans" zdf qbk) (T:Txt K mg) (zbd:∀ k:Ek,zt P w K mg base 1 (cA K k.cls) "word" qaa (zaJ k K)) (zlD:Def P w K mg base 1 "joined" ["spans"] (znW K)):Def P w K mg base 2 "still_spans" qbk (ziC K):=by
 exists S.ok,ziI,0
 all_goals obtain ⟨p,xs,es,rfl,ep,hE,hl,h⟩:=h
 ·rfl
 refine ⟨_,(zd (zkE (i:=1) ziI.nd rfl rfl (ix:=[]) ⟨rfl,by decide +kernel,rfl,by decide +kernel,rfl,(show (["entry"]:List Str).Nodup by decide +kernel),by walk_at "cap", by walk_at "sub", by walk_at "has"⟩ (zQ (pv 0)) (fun b=>(zw zan (zf9 K zbd T.clE hr (pv 0)) zC (nomark _))) (fun b=>(pv 0)))
  (zg (zk (zr zlD hr (za (zbZ (ix:=[]) ⟨rfl,by decide +kernel,rfl,by decide +kernel,rfl,(show (["entry"]:List Str).Nodup by decide +kernel),by walk_at "cap", by walk_at "sub", by walk_at "has"⟩ (zQ (pv 1)) (fun b=>(zw ze4 (zcN K (pv 0) rfl) (zcN K (pv 0) rfl) (nomark _))) (fun b=>(zO (za (zcN K (pv 0) rfl) (za (zcN K (pv 0) rfl) zb))))) zb))))),?_⟩
 have sz:=sizeLine_eq
 nofun
 have xl:=hE.length
 refine ⟨⟨_,ep⟩,fun l nl=>?_⟩
 refine zdu (zaw ep) nl (by ac_rfl) es xl.symm (isW "still") (fun H' v e=>∃ a dx,v=.ref a/\zkX K H' a dx e.1 e.2.1 e.2.2) (fun v e H1 H2 s ⟨t,dx,e1,e2⟩=>⟨t,dx,e1,s _ _ e2⟩) (fun v e H1 ys zs hL ⟨t,dx,e1,e2⟩=>⟨t,dx,e1,by rw[zkX,zx (zaW e2 hL (by intro z;cases z))];exact e2⟩) ?_ ?_ ?_
 ·rintro i x e H' Q' hx he sH hq
  obtain ⟨e',he',a,dx,rfl,hi⟩:=(hE.same sH).get hx
  obtain rfl:e'=e:=Option.some.inj (he'.symm.trans he)
  nofun
  refine ⟨e'.1,a,dx,_,rfl,hi,zhE _ _ _,a,rfl,?_⟩
  nofun
  exact hq
 ·rintro i x e H' Q' hx he fe sH hq
  obtain ⟨e',he',a,dx,rfl,hi⟩:=(hE.same sH).get hx
  obtain rfl:e'=e:=Option.some.inj (he'.symm.trans he)
  nofun
  exact hq _ _ (Same.refl _) ⟨a,dx,rfl,hi⟩
 ·rintro ys H1 s1 eL hL
  have hE1:EL K H1 ys (es.filter (isW "still")):=hL
  have yl:=hE1.length
  have fl:=yav (isW "still") es
  nofun
  refine ⟨⟨_,SqL.of eL⟩,fun l2 nl2=>?_⟩
  have isS:∀ {i:Nat} {e:Er},(es.filter (isW "still"))[i]?=some e->isW "still" e=true:=fun {i e} he=>(yap.mp (yah he)).2
  refine zdu (zaw (SqL.of eL)) nl2 (by ac_rfl) (es.filter (isW "still")) yl.symm (fun e:Er=>decide (e.2.1<e.2.2)) (fun H' v e=>∃ t,v=.ref t/\H' t=some (.tup [.int e.2.1,.int e.2.2])) (fun v e H1 H2 s ⟨t,e1,e2⟩=>⟨t,e1,s _ _ e2⟩) (fun v e H1 ys zs hL ⟨t,e1,e2⟩=>⟨t,e1,by rw[zx (zaW e2 hL (by intro z;cases z))];exact e2⟩) ?_ ?_ ?_
  ·rintro i x e H' Q' hx he sH hq
   obtain ⟨e',he',a,dx,rfl,hi⟩:=(hE1.same sH).get hx
   obtain rfl:e'=e:=Option.some.inj (he'.symm.trans he)
   nofun
   refine ⟨a,_,dx,_,_,rfl,hi,T.clE _,T.zbk _,zhe _ _ _,?_⟩
   nofun
   refine ⟨a,_,dx,_,_,rfl,hi,T.clE _,T.zkm _,stl (isS he),?_⟩
   nofun
   exact hq
  ·rintro i x e H' Q' hx he fe sH hq
   obtain ⟨e',he',a,dx,rfl,hi⟩:=(hE1.same sH).get hx
   obtain rfl:e'=e:=Option.some.inj (he'.symm.trans he)
   nofun
   refine ⟨a,_,dx,_,_,rfl,hi,T.clE _,T.zbk _,zhe _ _ _,?_⟩
   nofun
   refine ⟨a,_,dx,_,_,rfl,hi,T.clE _,T.zkm _,stl (isS he),?_⟩
   nofun
   intro t nt
   exact hq _ _ (zc nt _) ⟨t,rfl,zf⟩
  ·rintro zs H2 s2 eL2 hL2
   have hR:zy K H2 zs (((es.filter (isW "still")).filter fun e:Er=>decide (e.2.1<e.2.2)).map (·.2)):=zmJ hL2
   have em:((es.filter (isW "still")).filter fun e:Er=>decide (e.2.1<e.2.2)).map (·.2)=(prs "still" es).filter fun s=>decide (s.1<s.2):=by
    unfold prs
    rw[List.filter_map]
    rfl
   rw[em] at hR
   have pl:=yav (fun s:Int × Int=>decide (s.1<s.2)) (prs "still" es)
   have pl2:=ziG (w:="still") (es:=es)
   nofun
   refine ⟨l2,zs,_,rfl,SqL.of eL2,hR,by ac_rfl,fun s hs=>?_,fun q ws r H3 s3 nq eq rR J cv rl=>?_⟩
   ·simpa using (yap.mp hs).2
   ·exact h q H3 ws r (zD (s1.trans s2) nq) (s1.trans (s2.trans s3)) eq rR J (fun d=>(cv d).trans (zuM _ d)) (by ac_rfl)
def zhk (K:W.Frag):Sp:=fun vs H Q _=>∃ (a:Addr) (ns:List Int) (k:Int),vs=[.ref a,.int k]/\SqL K H a (ns.map V.int)/\0<=k/\k<=990000/\∀ r,0<=r->r<10 ^ 40->Q (.int r) H
theorem zqd:zj qas qas (zi ze5):=by walk_at "sp"
theorem zrp (S:Src K mg "_law_cell" ze5 qas) (T:Txt K mg) (zff:Def P w K mg base 1 "_law_draw" qbg (zkI K)):Def P w K mg base 2 "_law_cell" qas (zhk K):=by
 exists S.ok,zqd,0
 all_goals obtain ⟨a,ns,k,rfl,hS,k0,k1,h⟩:=h
 ·rfl
 refine ⟨_,(zd (zda (zP (PW.pt (zc9 (zw ze4 (pv 1) (zE zam rfl T.zbD PySem.boot_len (za (pv 0) zb)) (nomark _)) (zc9 (zw zan (zh zI (zB zag (pv 0) (pv 1) (fun _ _=>rfl)) ze) ze (nomark _)) (zdI (zw zfd (zB zag (pv 0) (pv 1) (fun _ _=>rfl)) (zby (v:=1000000000000000000) (by decide +kernel) ⟨by decide,by decide,by decide⟩) (nomark _))))))
  (zg (zk (zh zI (zh zS (zB zag (pv 0) (pv 1) (fun _ _=>rfl)) ze) (zby (v:=10000000000000000000000000000000000000000) (by decide +kernel) ⟨by decide,by decide,by decide⟩))))
   zJ))
  (zg (zk (zh zF (zh zar (zr zff hr (za (pv 0) (za (pv 1) (za (zh zar ze (zby (v:=100000000) (by decide +kernel) ⟨by decide,by decide,by decide⟩)) zb)))) ze) (zr zff hr (za (pv 0) (za (zh zF (pv 1) ze) (za (zh zar ze (zby (v:=100000000) (by decide +kernel) ⟨by decide,by decide,by decide⟩)) zb)))))))),?_⟩
 have fin:∀ r:Int,Q (.int (r % 10 ^ 40)) H:=fun r=>h _ (yeb r (by decide)) (yec r (by decide))
 have low:∀ r q:Int,0<=r->r<3*100000000->0<=q->q<3*100000000->Q (.int (r*300000007+q)) H:=fun r q r0 r1 q0 q1=>h _ (by ac_rfl) (Int.lt_trans (show r*300000007+q<10 ^ 18 by ac_rfl) (by decide))
 refine ⟨fun σ' H'=>H=H'/\σ'=[some (.ref a),some (.int k)],?_,?_⟩
 ·nofun
  ·rename_i q
   have at_:atI (ns.map V.int) k=some (.int (ns.getD k.toNat 0)):=zrR k0 (by rw[yab] at q;exact q)
   refine ⟨a,_,_,_,rfl,rfl,hS,at_,?_⟩
   nofun
   ·refine ⟨a,_,_,_,rfl,rfl,hS,at_,?_⟩
    nofun
    ·refine ⟨a,_,_,_,rfl,rfl,hS,at_,?_⟩
     nofun
     exact fin _
    ·first | exact ⟨rfl,rfl⟩ | rfl
   ·first | exact ⟨rfl,rfl⟩ | rfl
  ·first | exact ⟨rfl,rfl⟩ | rfl
 rintro σ' H' ⟨rfl,rfl⟩
 nofun
 exact low _ _ (by assumption) (by assumption) (by assumption) (by assumption)
def zjQ (K:W.Frag):Sp:=fun vs H Q _=>L2.Ee6 fun q rs (es:List Er) c b n=>L2.Aa8 (vs=[.ref q,.int c,.int b]) (H q=some (.lst rs)) (RL3 H rs es) ((0<=n/\n<=9/\Sgs n b es)) (es.length<=60) (0<=c) ((0<=b/\b<=999699)) (∀ q' rs' (es':List Er) H',(H q'=none\/q'=q)->Same H H'->H' q'=some (.lst rs')->RL3 H' rs' es'->Sgs (n+1) b es'->(∀ g,za1 g es' es)->es.length<=es'.length+1/\es'.length<=es.length+1->Q (.ref q') H')
theorem zxo (k:Ek):(inV (.str k.word) [.str "rate", .str "late"]=true/\(k=.rate\/k=.late))\/(inV (.str k.word) [.str "rate", .str "late"]=false/\¬ (k=.rate\/k=.late)):=by cases k <;> simp <;> decide
theorem zR:zj ["_law_specs_here", "_law_cell_here", "_law_base", "_law_way", "_law_day", "_law_size", "_law_words", "_law_places_here", "_law_at", "_law_word", "_law_thing", "_law_made"] qbl (zi zdX):=by walk_at "sp"
theorem zpa (S:Src K mg "_law_eased" zdX qbl) (T:Txt K mg) (zfT:Def P w K mg base 1 "_law_places" qaw (ziO K)):Def P w K mg base 2 "_law_eased" qbl (zjQ K):=by
 exists S.ok,zR,0
 all_goals obtain ⟨q,rs,es,c,b,n,rfl,hq,hR,⟨n0,n1,ok⟩,l1,c0,⟨b0,b1⟩,h⟩:=h
 ·rfl
 refine ⟨_,(zd (zo (i:=3) zR.nd rfl (by walk_at "lc") (zh zI (pv 1) ze))
  (zd (zo (i:=4) zR.nd rfl (by walk_at "lc") (zh zF (pv 2) (zh zI (zh zS (pv 1) ze) ze)))
  (zd (zo (i:=5) zR.nd rfl (by walk_at "lc") (zh zF ze (zh zI (zh zS (pv 1) ze) (zB zag (zaj (za ze (za (zby (v:=1000000) (by decide +kernel) ⟨by decide,by decide,by decide⟩) zb))) (zh zI (zh zS (pv 1) ze) ze) (fun _ _=>rfl)))))
  (zd (zP (zw zan (pv 3) ze (nomark _))
  (zg (zk (zh zbf (pv 0) (zaj (za (zO (za zC (za (pv 4) (za (pv 5) zb)))) zb)))))
   zJ)
  (zd (zP (zw zan (pv 3) ze (nomark _))
  (zg (zk (zh zbf (pv 0) (zaj (za (zO (za zC (za (pv 4) (za (zh zV ze (pv 5)) zb)))) zb)))))
   zJ)
  (zd (zP (zw zan (pv 3) ze (nomark _))
  (zg (zk (zh zbf (zaj (za (zO (za zC (za (pv 4) (za (zh zF (zh zF (pv 4) ze) (zh zI (pv 5) ze)) zb)))) zb)) (pv 0))))
   zJ)
  (zd (zo (i:=6) zR.nd rfl (by walk_at "lc") (zB zag (zaj (za (zO (za zC zb)) (za (zO (za zC zb)) (za (zO (za zC zb)) (za (zO (za zC (za zC zb))) (za (zO (za zC zb)) zb)))))) (zh zV (pv 3) ze) (fun _ _=>rfl)))
  (zd (zo (i:=7) zR.nd rfl (by walk_at "lc") (zr zfT hr (za (pv 0) (za (pv 6) zb))))
  (zd (zP (zw (ztZ hr.units) (pv 7) (zaj zb) (nomark _))
  (zg (zk (pv 0)))
   zJ)
  (zd (zo (i:=8) zR.nd rfl (by walk_at "lc") (zB zag (pv 7) (zh zI (zh zS (pv 1) ze) (zE zam rfl T.zbD PySem.boot_len (za (pv 7) zb))) (fun _ _=>rfl)))
  (zd (zmF (zB zag (pv 0) (pv 8) (fun _ _=>rfl)) (zjZ rfl (zaX (zac (i:=9) zR.nd rfl (by walk_at "lc")) (zaX (zac (i:=4) zR.nd rfl (by walk_at "lc")) (zaX (zac (i:=10) zR.nd rfl (by walk_at "lc")) ziz)))))
  (zd (zo (i:=11) zR.nd rfl (by walk_at "lc") (zaj (za (zO (za (pv 9) (za (pv 4) (za (zh zV (pv 10) (pv 5)) zb)))) zb)))
  (zd (zda (zP (zw zan (pv 9) zC (nomark _))
  (zg (zo (i:=11) zR.nd rfl (by walk_at "lc") (zaj (za (zO (za (pv 9) (za (zE (zbB rfl) rfl T.zd8 PyProof.Rows.boot_max (za (pv 2) (za (zh zV (pv 4) (zh zI (zh zS (pv 1) ze) ze)) zb))) (za (zh zF (pv 10) (zh zar (zh zI (zh zS (pv 1) ze) ze) (pv 5))) zb)))) zb))))
   zJ))
  (zd (zda (zP (zw zan (pv 9) zC (nomark _))
  (zg (zo (i:=11) zR.nd rfl (by walk_at "lc") (zaj zb)))
   zJ))
  (zd (zda (zP (zw zj7 (pv 9) (zO (za zC (za zC zb))) (by with_unfolding_all rfl))
  (zg (zo (i:=11) zR.nd rfl (by walk_at "lc") (zaj (za (zO (za (pv 9) (za (pv 4) (za (zE (zbB rfl) rfl T.zd8 PyProof.Rows.boot_max (za ze (za (zh zV (pv 10) (pv 5)) zb))) zb)))) zb))))
   zJ))
  (zd (zda (zP (zw zan (pv 9) zC (nomark _))
  (zd (zo (i:=11) zR.nd rfl (by walk_at "lc") (zaj (za (zO (za (pv 9) (za (zh zF (pv 4) (zh zI (zh zS (pv 1) ze) ze)) (za (zE (zbB rfl) rfl T.zd8 PyProof.Rows.boot_max (za ze (za (zh zV (pv 10) (zh zar (zh zI (zh zS (pv 1) ze) ze) (pv 5))) zb))) zb)))) zb)))
  (zg (zP (zw zan (zh zI (zh zS (pv 1) ze) ze) ze (nomark _))
  (zg (zo (i:=11) zR.nd rfl (by walk_at "lc") (zaj zb)))
   zJ)))
   zJ))
  (zg (zk (zh zbf (zh zbf (zi2 zkV (pv 0) zk7 (zk1 (pv 8))) (pv 11)) (zi2 zkV (pv 0) (zk1 (zh zF (pv 8) ze)) zk7)))))))))))))))))))),?_⟩
 have sz:=sizeLine_eq
 have xl:=hR.length
 nofun
 intro p1 np1
 have s1:=zc np1 (.lst [.int 9,.int 1000000])
 obtain ⟨v,hv1,hm⟩:=zcf (xs:=[.int 9,.int 1000000]) (k:=c / 8 % 2) (by ac_rfl) (by simp;ac_rfl)
 obtain ⟨u,rfl,u0⟩:=(zaf ⟨_,rfl,by ac_rfl⟩ (zaf ⟨_,rfl,by ac_rfl⟩ zii):∀ v∈([.int 9,.int 1000000]:List V),∃ w:Int,v=.int w/\0<w) v hm
 nofun
 refine ⟨p1,_,_,_,rfl,rfl,SqL.of zf,hv1,?_⟩
 clear hv1 hm
 generalize upd H p1 _=H1 at s1 ⊢
 have m0:=yeb (c / 480) (show u≠0 by ac_rfl)
 obtain ⟨D,hD⟩:∃ D:Int,D=b+c / 8 % 60:=⟨_,rfl⟩
 have D0:b<=D/\D<=b+59:=by ac_rfl
 have okm:=ok.more (m:=n+1) (by ac_rfl)
 have hq1:=s1 _ _ hq
 dsimp only
 rw[<-hD]
 clear hD
 nofun
 ·intro t1 nt1
  have s2:=zc nt1 (.tup [.str "pay", .int D,.int (1+c / 480 % u)])
  have et:=zq (.tup [.str "pay", .int D,.int (1+c / 480 % u)]) nt1
  nofun
  intro q1 nq1
  have s3:=s2.trans (zc nq1 (.lst [.ref t1]))
  have e3:=zq (.lst [.ref t1]) nq1
  have et3:=zc nq1 (.lst [.ref t1]) _ _ et
  generalize upd (upd H1 t1 (.tup [.str "pay", .int D,.int (1+c / 480 % u)])) q1 (.lst [.ref t1])=H3 at s3 e3 et3 ⊢
  refine ⟨q,q1,_,_,rfl,rfl,s3 _ _ hq1,e3,by show _+1<=_;ac_rfl,fun q2 nq2=>?_⟩
  have s4:=zc nq2 (.lst (rs++[.ref t1]))
  have sA:=s1.trans (s3.trans s4)
  refine h q2 _ (es++[(Ek.pay,D,1+c / 480 % u)]) _ (.inl (zD (s1.trans s3) nq2)) sA zf (LL.append (hR.same sA) (.cons ⟨t1,rfl,s4 _ _ et3⟩ .nil)) (okm.app (Sgs.one ⟨D0.1,by have:=D0.2;show D<=b+59+8*(n+1);ac_rfl,by show 1<=1+c / 480 % u;ac_rfl⟩)) (fun g=>?_) (by rw[yad];show _<=_+1+1/\_+1<=_+1;ac_rfl)
  have:=zux (g:=g) (A:=es) (B:=[]) (z':=D) (x':=1+c / 480 % u) (by ac_rfl)
  rwa [ybl] at this
 ·intro t1 nt1
  have s2:=zc nt1 (.tup [.str "fee", .int D,.int (0-(1+c / 480 % u))])
  have et:=zq (.tup [.str "fee", .int D,.int (0-(1+c / 480 % u))]) nt1
  nofun
  intro q1 nq1
  have s3:=s2.trans (zc nq1 (.lst [.ref t1]))
  have e3:=zq (.lst [.ref t1]) nq1
  have et3:=zc nq1 (.lst [.ref t1]) _ _ et
  generalize upd (upd H1 t1 (.tup [.str "fee", .int D,.int (0-(1+c / 480 % u))])) q1 (.lst [.ref t1])=H3 at s3 e3 et3 ⊢
  refine ⟨q,q1,_,_,rfl,rfl,s3 _ _ hq1,e3,by show _+1<=_;ac_rfl,fun q2 nq2=>?_⟩
  have s4:=zc nq2 (.lst (rs++[.ref t1]))
  have sA:=s1.trans (s3.trans s4)
  refine h q2 _ (es++[(Ek.fee,D,0-(1+c / 480 % u))]) _ (.inl (zD (s1.trans s3) nq2)) sA zf (LL.append (hR.same sA) (.cons ⟨t1,rfl,s4 _ _ et3⟩ .nil)) (okm.app (Sgs.one ⟨D0.1,by have:=D0.2;show D<=b+59+8*(n+1);ac_rfl,trivial⟩)) (fun g=>?_) (by rw[yad];show _<=_+1+1/\_+1<=_+1;ac_rfl)
  have:=zuL (g:=g) (A:=es) (B:=[]) (z:=D) (x':=0-(1+c / 480 % u)) (by ac_rfl)
  rwa [ybl] at this
 ·intro t1 nt1
  have s2:=zc nt1 (.tup [.str "still", .int D,.int (D+1+(1+c / 480 % u) % 20)])
  have et:=zq (.tup [.str "still", .int D,.int (D+1+(1+c / 480 % u) % 20)]) nt1
  nofun
  intro q1 nq1
  have s3:=s2.trans (zc nq1 (.lst [.ref t1]))
  have e3:=zq (.lst [.ref t1]) nq1
  have et3:=zc nq1 (.lst [.ref t1]) _ _ et
  generalize upd (upd H1 t1 (.tup [.str "still", .int D,.int (D+1+(1+c / 480 % u) % 20)])) q1 (.lst [.ref t1])=H3 at s3 e3 et3 ⊢
  nofun
  refine ⟨q1,q,_,_,rfl,rfl,e3,s3 _ _ hq1,by show 1+_<=_;ac_rfl,fun q2 nq2=>?_⟩
  have s4:=zc nq2 (.lst ([.ref t1]++rs))
  have sA:=s1.trans (s3.trans s4)
  refine h q2 _ ((Ek.still,D,D+1+(1+c / 480 % u) % 20)::es) _ (.inl (zD (s1.trans s3) nq2)) sA zf (.cons ⟨t1,rfl,s4 _ _ et3⟩ (hR.same sA)) ((Sgs.one ⟨D0.1,by have:=D0.2;show D<=b+59+8*(n+1);ac_rfl,by show D<D+1+(1+c / 480 % u) % 20/\D+1+(1+c / 480 % u) % 20<=b+79+0/\D+1+(1+c / 480 % u) % 20<=1000000;ac_rfl⟩).app okm) (fun g=>ztW ok.due fun w hw s hs=>(ok.rate w hw s hs).1) (by show _<=_+1+1/\_+1<=_+1;ac_rfl)
 have w3:3<=c % 8:=by ac_rfl
 intro xA nxA
 have g0:=zc nxA (.tup [.str "pay"])
 have exA:=zq (.tup [.str "pay"]) nxA
 generalize upd H1 xA (.tup [.str "pay"])=G0 at g0 exA ⊢
 nofun
 intro xB nxB
 have g1:=zc nxB (.tup [.str "fee"])
 have exB:=zq (.tup [.str "fee"]) nxB
 generalize upd G0 xB (.tup [.str "fee"])=G1 at g1 exB ⊢
 nofun
 intro xC nxC
 have g2:=zc nxC (.tup [.str "turn"])
 have exC:=zq (.tup [.str "turn"]) nxC
 generalize upd G1 xC (.tup [.str "turn"])=G2 at g2 exC ⊢
 nofun
 intro xD nxD
 have g3:=zc nxD (.tup [.str "rate", .str "late"])
 have exD:=zq (.tup [.str "rate", .str "late"]) nxD
 generalize upd G2 xD (.tup [.str "rate", .str "late"])=G3 at g3 exD ⊢
 nofun
 intro xE nxE
 have g4:=zc nxE (.tup [.str "due"])
 have exE:=zq (.tup [.str "due"]) nxE
 generalize upd G3 xE (.tup [.str "due"])=G4 at g4 exE ⊢
 nofun
 intro pl npl
 have g5:=zc npl (.lst [.ref xA,.ref xB,.ref xC,.ref xD,.ref xE])
 have epl:=zq (.lst [.ref xA,.ref xB,.ref xC,.ref xD,.ref xE]) npl
 generalize upd G4 pl (.lst [.ref xA,.ref xB,.ref xC,.ref xD,.ref xE])=G5 at g5 epl ⊢
 have gA:=g0.trans (g1.trans (g2.trans (g3.trans (g4.trans g5))))
 have sA:=s1.trans gA
 have wk:∃ (tw:Addr) (ks:List Ek),atI [V.ref xA,.ref xB,.ref xC,.ref xD,.ref xE] (c % 8-3)=some (.ref tw)/\G5 tw=some (.tup (ks.map fun k=>V.str k.word))/\∀ k∈ks,k=.pay\/k=.fee\/k=.turn\/(k=.rate\/k=.late)\/k=.due:=by
  rcases (show c % 8=3\/c % 8=4\/c % 8=5\/c % 8=6\/c % 8=7 by ac_rfl) with e | e | e | e | e <;> rw[e]
  ·exact ⟨xA,[.pay],rfl,(g1.trans (g2.trans (g3.trans (g4.trans g5)))) _ _ exA,fun k hk=>.inl (yba.mp hk)⟩
  ·exact ⟨xB,[.fee],rfl,(g2.trans (g3.trans (g4.trans g5))) _ _ exB,fun k hk=>.inr (.inl (yba.mp hk))⟩
  ·exact ⟨xC,[.turn],rfl,(g3.trans (g4.trans g5)) _ _ exC,fun k hk=>.inr (.inr (.inl (yba.mp hk)))⟩
  ·exact ⟨xD,[.rate,.late],rfl,(g4.trans g5) _ _ exD,fun k hk=>.inr (.inr (.inr (.inl (by rcases yal.mp hk with h | h;exact .inl h;exact .inr (yba.mp h)))))⟩
  ·exact ⟨xE,[.due],rfl,g5 _ _ exE,fun k hk=>.inr (.inr (.inr (.inr (yba.mp hk))))⟩
 obtain ⟨tw,ks,aw,ew,hks⟩:=wk
 nofun
 refine ⟨pl,_,_,_,rfl,rfl,SqL.of epl,aw,?_⟩
 clear aw epl exA exB exC exD exE w3 g0 g1 g2 g3 g4 g5
 nofun
 refine ⟨q,tw,rs,es,ks,rfl,sA _ _ hq,hR.same sA,l1,ew,fun pp ps H2 npp s2 ep pok=>?_⟩
 have sB:=sA.trans s2
 nofun
 intro p3 np3
 have s3:=zc np3 (.lst [])
 have e3:=zq (.lst []) np3
 have ep3:=s3 _ _ ep
 generalize upd H2 p3 (.lst [])=H3 at s3 e3 ep3 ⊢
 have sC:=sB.trans s3
 refine ⟨_,_,.lst (SqL.of ep3) (zc2.ints _),.lst (SqL.of e3) .nil,shaped_ints _,shaped_ints [],?_⟩
 rw[show PyData.eqv (.list ((ps.map fun i:Nat=>(i:Int)).map PyData.int)) (.list [])=decide ((ps.map fun i:Nat=>(i:Int))=[]) from zpi _ []]
 by_cases pe:(ps.map fun i:Nat=>(i:Int))=[]
 ·rw[decide_eq_true pe]
  nofun
  exact h q rs es H3 (.inr rfl) sC (sC _ _ hq) (hR.same sC) okm (fun g=>za1.refl g es) ⟨by ac_rfl,by ac_rfl⟩
 rw[decide_eq_false pe]
 have pl':0<(ps.map fun i:Nat=>(i:Int)).length:=List.length_pos_iff.mpr pe
 clear e3
 nofun
 refine ⟨pp,_,rfl,.inl (SqL.of ep3),?_⟩
 rw[yab]
 have z0:=yeb (c / 480) (show ((ps.map fun i:Nat=>(i:Int)).length:Int)≠0 by ac_rfl)
 have z1:=yec (c / 480) (show (0:Int)<((ps.map fun i:Nat=>(i:Int)).length:Int) by ac_rfl)
 nofun
 obtain ⟨v,hv0,hm⟩:=zcf (xs:=(ps.map fun i:Nat=>(i:Int)).map V.int) (k:=c / 480 % ((ps.map fun i:Nat=>(i:Int)).length:Int)) z0 (by rw[yab (f:=V.int)];exact z1)
 obtain ⟨j,hj,rfl⟩:=yaf.mp hm
 obtain ⟨i,im,rfl⟩:=yaf.mp hj
 obtain ⟨⟨k,d,x⟩,t,he,hv,ht,kk⟩:=pok i im
 have kk:=hks _ kk
 have il:i<es.length:=(yac.mp he).1
 have oe:=ok _ (yah he)
 refine ⟨pp,_,_,_,rfl,rfl,SqL.of ep3,hv0,?_⟩
 clear hv0 hm hj pok pe pl' z0 z1 ep ep3 im hks
 nofun
 refine ⟨q,_,_,_,rfl,rfl,SqL.of (sC _ _ hq),za4 hv,?_⟩
 have ht':=(s2.trans s3) _ _ ht
 refine ⟨t,_,rfl,SqT.of ht',rfl,?_⟩
 nofun
 obtain ⟨S,hS⟩:∃ S:Int,S=1+c / 480 % u:=⟨_,rfl⟩
 have S0:1<=S:=by ac_rfl
 dsimp only
 rw[<-hS]
 clear hS m0 s1 s2 s3 sA sB gA np1 npp np3
 have fin:∀ {z y:Int},(Sg (n+1) b (k,z,y))->(∀ g,za1 g (es.take i++(k,z,y)::es.drop (i+1)) (es.take i++(k,d,x)::es.drop (i+1)))->Sgs (n+1) b [(k,z,y)]/\∀ g,za1 g (es.take i++[(k,z,y)]++es.drop (i+1)) (es.take i++(k,d,x)::es.drop (i+1)):=fun {z y} h1 h2=>⟨Sgs.one h1,fun g=>by rw[ycb];exact h2 g⟩
 have ol:=oe.lo
 have oh:=oe.hi
 dsimp only at ol oh
 intro ta nta
 have ya:=zc nta (.tup [.str k.word,.int d,.int (x-S)])
 have ea:=zq (.tup [.str k.word,.int d,.int (x-S)]) nta
 nofun
 intro la nla
 have yb:=ya.trans (zc nla (.lst [.ref ta]))
 have eb:=zq (.lst [.ref ta]) nla
 have eab:=zc nla (.lst [.ref ta]) _ _ ea
 have f0:k=.fee->Sgs (n+1) b [(k,d,x-S)]/\∀ g,za1 g (es.take i++[(k,d,x-S)]++es.drop (i+1)) (es.take i++(k,d,x)::es.drop (i+1)):=fun kf=>by
  subst kf
  exact fin ⟨ol,by show d<=b+59+8*(n+1);ac_rfl,trivial⟩ fun g=>zvY (by ac_rfl)
 have sD:=sC.trans yb
 generalize upd (upd H3 ta (.tup [.str k.word,.int d,.int (x-S)])) la (.lst [.ref ta])=H4 at sD eb eab ⊢
 clear ya yb ea
 refine ⟨fun σ' H'=>∃ (pm:Addr) (ms:List V) (em:List Er),(Same H H'/\H' pm=some (.lst ms)/\RL3 H' ms em)/\em.length<=1/\(k=.fee\/k=.pay->Sgs (n+1) b em/\∀ g,za1 g (es.take i++em++es.drop (i+1)) (es.take i++(k,d,x)::es.drop (i+1)))/\σ'=[some (.ref q),some (.int c),some (.int b),some (.int (c % 8)),some (.int d),some (.int S),some (.ref tw),some (.ref pp),some (.int i),some (.str k.word),some (.int x),some (.ref pm)],?_,?_⟩
 ·nofun
  ·rename_i hc
   obtain rfl:=zhd k .pay hc
   have c2:x<=x+c / 72 % 2*S:=by
    rcases (show c / 72 % 2=0\/c / 72 % 2=1 by ac_rfl) with e | e <;> rw[e] <;> ac_rfl
   have o1:1<=x:=oe.th
   obtain ⟨Y,hY⟩:∃ Y:Int,Y=x+c / 72 % 2*S:=⟨_,rfl⟩
   rw[<-hY] at c2
   obtain ⟨Z,hZ⟩:∃ Z:Int,Z=if d-c / 8 % 9 > b then d-c / 8 % 9 else b:=⟨_,rfl⟩
   have Z0:b<=Z/\Z<=d:=by rw[hZ];split <;> ac_rfl
   dsimp only [Ek.word]
   nofun
   rw[<-hY,<-hZ]
   clear hY hZ
   intro ta nta
   have ya:=zc nta (.tup [.str "pay", .int Z,.int Y])
   have ea:=zq (.tup [.str "pay", .int Z,.int Y]) nta
   nofun
   intro la nla
   have yb:=ya.trans (zc nla (.lst [.ref ta]))
   have eb:=zq (.lst [.ref ta]) nla
   have eab:=zc nla (.lst [.ref ta]) _ _ ea
   refine ⟨la,[.ref ta],[(Ek.pay,Z,Y)],⟨sD.trans yb,eb,.cons ⟨ta,rfl,eab⟩ .nil⟩,by show 1<=1;decide,fun kf=>?_,rfl⟩
   exact fin ⟨Z0.1,by show Z<=b+59+8*(n+1);ac_rfl,by show 1<=Y;ac_rfl⟩ fun g=>zv0 Z0.2 c2 (by ac_rfl)
  ·rename_i hc
   exact ⟨la,[.ref ta],[(k,d,x-S)],⟨sD,eb,.cons ⟨ta,rfl,eab⟩ .nil⟩,ydc _,fun kf=>f0 (kf.elim id fun z=>absurd (by rw[z];rfl) hc),rfl⟩
 clear sD eb eab f0 nla nta
 rintro σ' M1 ⟨pm,ms,em,⟨m1,eM,rM⟩,lM,fM,rfl⟩
 refine ⟨fun σ' H'=>∃ (pm:Addr) (ms:List V) (em:List Er),(Same H H'/\H' pm=some (.lst ms)/\RL3 H' ms em)/\em.length<=1/\(k=.fee\/k=.pay\/k=.turn->Sgs (n+1) b em/\∀ g,za1 g (es.take i++em++es.drop (i+1)) (es.take i++(k,d,x)::es.drop (i+1)))/\σ'=[some (.ref q),some (.int c),some (.int b),some (.int (c % 8)),some (.int d),some (.int S),some (.ref tw),some (.ref pp),some (.int i),some (.str k.word),some (.int x),some (.ref pm)],?_,?_⟩
 ·nofun
  ·rename_i hc
   obtain rfl:=zhd k .turn hc
   intro la nla
   refine ⟨la,[],[],⟨m1.trans (zc nla _),zf,.nil⟩,ydf _,fun _=>⟨fun e he=>(by cases he),fun g=>?_⟩,rfl⟩
   rw[ybl]
   exact zuH
  ·rename_i hc
   exact ⟨pm,ms,em,⟨m1,eM,rM⟩,lM,fun kf=>fM (by rcases kf with z | z | z;exact .inl z;exact .inr z;exact absurd (by rw[z];rfl) hc),rfl⟩
 clear m1 eM rM lM fM
 rintro σ' M2 ⟨pm,ms,em,⟨m2,eM,rM⟩,lM,fM,rfl⟩
 refine ⟨fun σ' H'=>∃ (pm:Addr) (ms:List V) (em:List Er),(Same H H'/\H' pm=some (.lst ms)/\RL3 H' ms em)/\em.length<=1/\(k=.fee\/k=.pay\/k=.turn\/k=.rate\/k=.late->Sgs (n+1) b em/\∀ g,za1 g (es.take i++em++es.drop (i+1)) (es.take i++(k,d,x)::es.drop (i+1)))/\σ'=[some (.ref q),some (.int c),some (.int b),some (.int (c % 8)),some (.int d),some (.int S),some (.ref tw),some (.ref pp),some (.int i),some (.str k.word),some (.int x),some (.ref pm)],?_,?_⟩
 ·nofun
  intro tt ntt
  have yt:=m2.trans (zc ntt (.tup [.str "rate", .str "late"]))
  have eM':=zc ntt (.tup [.str "rate", .str "late"]) _ _ eM
  have rM':=rM.same (zc ntt (.tup [.str "rate", .str "late"]))
  nofun
  refine ⟨tt,_,rfl,.inr (SqT.of zf),rfl,rfl,_,rfl,?_⟩
  generalize upd M2 tt (.tup [.str "rate", .str "late"])=M3 at yt eM' rM' ⊢
  rcases zxo k with ⟨ei,kr⟩ | ⟨ei,kr⟩ <;> rw[ei]
  ·clear ei
   have o1:0<=x/\x<=1000000:=by
    have:=oe.th
    rcases kr with rfl | rfl <;> exact this
   obtain ⟨Y,hY⟩:∃ Y:Int,Y=if x-S > 0 then x-S else 0:=⟨_,rfl⟩
   have Y0:0<=Y/\Y<=x:=by rw[hY];split <;> ac_rfl
   nofun
   rw[<-hY]
   clear hY
   intro ta nta
   have ya:=zc nta (.tup [.str k.word,.int d,.int Y])
   have ea:=zq (.tup [.str k.word,.int d,.int Y]) nta
   nofun
   intro la nla
   have yb:=ya.trans (zc nla (.lst [.ref ta]))
   have eb:=zq (.lst [.ref ta]) nla
   have eab:=zc nla (.lst [.ref ta]) _ _ ea
   exact ⟨la,[.ref ta],[(k,d,Y)],⟨yt.trans yb,eb,.cons ⟨ta,rfl,eab⟩ .nil⟩,ydc _,fun _=>fin ⟨ol,by show d<=b+59+8*(n+1);ac_rfl,by show Th 0 b k d Y;rcases kr with rfl | rfl <;> exact ⟨Y0.1,by ac_rfl⟩⟩ fun g=>zuJ kr Y0.2,rfl⟩
  ·clear ei
   nofun
   exact ⟨pm,ms,em,⟨yt,eM',rM'⟩,lM,fun kf=>fM (by rcases kf with z | z | z | z;exact .inl z;exact .inr (.inl z);exact .inr (.inr z);exact absurd z kr),rfl⟩
 clear m2 eM rM lM fM
 rintro σ' M2 ⟨pm,ms,em,⟨m2,eM,rM⟩,lM,fM,rfl⟩
 refine ⟨fun σ' H'=>∃ (pm:Addr) (ms:List V) (em:List Er),(Same H H'/\H' pm=some (.lst ms)/\RL3 H' ms em)/\em.length<=1/\(k=.fee\/k=.pay\/k=.turn\/k=.rate\/k=.late\/k=.due->Sgs (n+1) b em/\∀ g,za1 g (es.take i++em++es.drop (i+1)) (es.take i++(k,d,x)::es.drop (i+1)))/\σ'=[some (.ref q),some (.int c),some (.int b),some (.int (c % 8)),some (.int d),some (.int S),some (.ref tw),some (.ref pp),some (.int i),some (.str k.word),some (.int x),some (.ref pm)],?_,?_⟩
 ·nofun
  ·rename_i hc _
   obtain rfl:=zhd k .due hc
   have o1:1<=x:=oe.th
   obtain ⟨Y,hY⟩:∃ Y:Int,Y=if x-c / 72 % 2*S > 1 then x-c / 72 % 2*S else 1:=⟨_,rfl⟩
   have c2:0<=c / 72 % 2*S:=by
    rcases (show c / 72 % 2=0\/c / 72 % 2=1 by ac_rfl) with e | e <;> rw[e] <;> ac_rfl
   have Y0:1<=Y/\Y<=x:=by rw[hY];split <;> ac_rfl
   obtain ⟨Z,hZ⟩:∃ Z:Int,Z=d+c / 8 % 9:=⟨_,rfl⟩
   have Z0:d<=Z/\Z<=d+8:=by ac_rfl
   dsimp only [Ek.word]
   nofun
   rw[<-hY,<-hZ]
   clear hY hZ
   intro ta nta
   have ya:=zc nta (.tup [.str "due", .int Z,.int Y])
   have ea:=zq (.tup [.str "due", .int Z,.int Y]) nta
   nofun
   intro la nla
   have yb:=ya.trans (zc nla (.lst [.ref ta]))
   have eb:=zq (.lst [.ref ta]) nla
   have eab:=zc nla (.lst [.ref ta]) _ _ ea
   have yc:=m2.trans yb
   nofun
   ·intro lb nlb
    refine ⟨lb,[],[],⟨yc.trans (zc nlb _),zf,.nil⟩,ydf _,fun _=>⟨fun e he=>(by cases he),fun g=>?_⟩,rfl⟩
    rw[ybl]
    exact zvd (by ac_rfl)
   ·exact ⟨la,[.ref ta],[(Ek.due,Z,Y)],⟨yc,eb,.cons ⟨ta,rfl,eab⟩ .nil⟩,ydc _,fun _=>fin ⟨by show b<=Z;ac_rfl,by show Z<=b+59+8*(n+1);ac_rfl,Y0.1⟩ fun g=>zv9 Z0.1 Y0.2 (by ac_rfl),rfl⟩
  ·rename_i hc
   exact ⟨pm,ms,em,⟨m2,eM,rM⟩,lM,fun kf=>fM (by rcases kf with z | z | z | z | z | z;exact .inl z;exact .inr (.inl z);exact .inr (.inr (.inl z));exact .inr (.inr (.inr (.inl z)));exact .inr (.inr (.inr (.inr z)));exact absurd (by rw[z];rfl) hc),rfl⟩
 clear m2 eM rM lM fM
 rintro σ' M2 ⟨pm,ms,em,⟨m2,eM,rM⟩,lM,fM,rfl⟩
 obtain ⟨se,ke⟩:=fM (by rcases kk with z | z | z | (z | z) | z;exact .inr (.inl z);exact .inl z;exact .inr (.inr (.inl z));exact .inr (.inr (.inr (.inl z)));exact .inr (.inr (.inr (.inr (.inl z))));exact .inr (.inr (.inr (.inr (.inr z)))))
 have ee:es.take i++(k,d,x)::es.drop (i+1)=es:=by
  have:=(yac.mp he).2
  rw[<-this,<-List.drop_eq_getElem_cons il,ycu]
 have ml:=rM.length
 clear fM fin
 nofun
 refine ⟨q,rs,rfl,SqL.of (m2 _ _ hq),fun q1 nq1=>?_⟩
 rw[zrQ rs i]
 have s3:=zc nq1 (.lst (rs.take i))
 have e3:=zq (.lst (rs.take i)) nq1
 have eM3:=s3 _ _ eM
 have rM3:=rM.same s3
 generalize upd M2 q1 (.lst (rs.take i))=H3 at s3 e3 eM3 rM3 ⊢
 nofun
 refine ⟨q1,pm,_,_,rfl,rfl,e3,eM3,by rw[yaq];ac_rfl,fun q3 nq3=>?_⟩
 have s6:=zc nq3 (.lst (rs.take i++ms))
 have e6:=zq (.lst (rs.take i++ms)) nq3
 have rM6:=rM3.same s6
 generalize upd H3 q3 (.lst (rs.take i++ms))=H6 at s6 e6 rM6 ⊢
 have sC:=m2.trans (s3.trans s6)
 nofun
 refine ⟨q,rs,rfl,SqL.of (sC _ _ hq),fun q4 nq4=>?_⟩
 rw[show ((i:Int)+1)=((i+1:Nat):Int) by ac_rfl,zrY rs (i+1)]
 have s7:=zc nq4 (.lst (rs.drop (i+1)))
 have e7:=zq (.lst (rs.drop (i+1))) nq4
 have rM7:=rM6.same s7
 generalize upd H6 q4 (.lst (rs.drop (i+1)))=H7 at s7 e7 rM7 ⊢
 refine ⟨q3,q4,_,_,rfl,rfl,s7 _ _ e6,e7,by rw[yad,yaq,ybt];ac_rfl,fun q5 nq5=>?_⟩
 have s8:=zc nq5 (.lst (rs.take i++ms++rs.drop (i+1)))
 have sD:=sC.trans (s7.trans s8)
 have hRD:=hR.same sD
 refine h q5 _ (es.take i++em++es.drop (i+1)) _ (.inl (zD (sC.trans s7) nq5)) sD zf (LL.append (LL.append (LL.take hRD i) (rM7.same s8)) (LL.zvs hRD (i+1))) (((okm.take i).app se).app (okm.drop (i+1))) (fun g=>?_) ?_
 ·have:=ke g
  rwa [ee] at this
 rw[yad,yad,yaq,ybt]
 ac_rfl
def zkK (K:W.Frag):Sp:=fun vs H Q _=>L2.Ee4 fun a xs l d=>L2.Aa5 (vs=[.ref a,.int d]) (SqL K H a xs) (zy K H xs l) (Spans.Joined l) (Q (.bl (Spans.isIn l d)) H)
theorem ztN:zj qak qak (zi zjr):=by walk_at "sp"
theorem zuR (S:Src K mg "stands" zjr qak) (T:Txt K mg) (zgn:Def P w K mg base 2 "moved" qak (zlP K)):Def P w K mg base 3 "stands" qak (zkK K):=by
 exists S.ok,ztN,0
 all_goals obtain ⟨a,xs,l,d,rfl,hS,hR,J,h⟩:=h
 ·rfl
 refine ⟨_,(zg (zk (zeI zfd (zr zgn hr (za (pv 0) (za (pv 1) zb))) (pv 1) (nomark _)))),?_⟩
 nofun
 refine ⟨a,xs,l,d,rfl,hS,hR,J,?_⟩
 intro m F
 nofun
 refine qb h ?_
 cases b:Spans.isIn l d with
 | true=>exact (decide_eq_true (F.gt.mpr (Spans.za7.mp b))).symm
 | false=>exact (decide_eq_false fun z=>by rw[Spans.za7.mpr (F.gt.mp z)] at b;cases b).symm
def zmi (K:W.Frag):Sp:=fun vs H Q _=>∃ d,vs=[.int d]/\∀ y m r p,Cal.zcE y m r->Cal.num y m r=d->H p=none->Q (.ref p) (upd H p (.tup [.int y,.int m,.int r]))
theorem zcV:zj ["day", "year", "month", "rest"] qan (zi zhs):=by walk_at "sp"
theorem zt5 (S:Src K mg "date_of" zhs qan) (T:Txt K mg) (zdL:Def P w K mg base 2 "year_of" qan (zjv K)) (zbg:Def P w K mg base 1 "new_year" qai (ze2 K)) (zdZ:Def P w K mg base 2 "month_days" qax (zjV K)):Def P w K mg base 3 "date_of" qan (zmi K):=by
 exists S.ok,zcV,0
 all_goals obtain ⟨d,rfl,h⟩:=h
 ·rfl
 refine ⟨_,(zd (zo (i:=1) zcV.nd rfl (by walk_at "lc") (zr zdL hr (za (pv 0) zb)))
  (zd (zo (i:=2) zcV.nd rfl (by walk_at "lc") ze)
  (zd (zo (i:=3) zcV.nd rfl (by walk_at "lc") (zh zV (pv 0) (zr zbg hr (za (pv 1) zb))))
  (zd (zju PassesOwn.never (zw zxp (pv 3) (zr zdZ hr (za (pv 1) (za (pv 2) zb))) (nomark _))
  (zd (zo (i:=3) zcV.nd rfl (by walk_at "lc") (zh zV (pv 3) (zr zdZ hr (za (pv 1) (za (pv 2) zb)))))
  (zg (zo (i:=2) zcV.nd rfl (by walk_at "lc") (zh zF (pv 2) ze)))))
  (zg (zk (zO (za (pv 1) (za (pv 2) (za (zh zF (pv 3) ze) zb)))))))))),?_⟩
 nofun
 intro y hy1 hy2
 nofun
 have e:=Cal.zcL y
 refine ⟨fun n σ H'=>H=H'/\∃ m r,σ=[some (.int d),some (.int y),some (.int m),some (.int r)]/\1<=m/\m<=12/\r=d-Cal.ny y-Cal.cum y m/\0<=r/\n=r.toNat,⟨_,rfl,_,_,rfl,by decide,by decide,(by simp[Cal.cum]),by ac_rfl,rfl⟩,?_⟩
 rintro n σ H' ⟨rfl,m,r,rfl,m1,m2,hr,r0,rfl⟩
 have b:=@Cal.zk4 y m m1 m2
 nofun
 ·refine ⟨_,fun σ' H' z=>z,?_⟩
  nofun
  have c:=@Cal.zma y m m1 m2
  have c12:=Cal.zpQ y
  have m3:m<=11:=by
   by_cases q:m=12
   ·subst q;ac_rfl
   ·ac_rfl
  have cs:=@Cal.zl1 y m m1 m3
  exact ⟨_,by ac_rfl,rfl,_,_,rfl,by ac_rfl,by ac_rfl,by ac_rfl,by ac_rfl,rfl⟩
 ·intro p hp
  exact h _ _ _ p ⟨m1,m2,by ac_rfl,by ac_rfl⟩ (by unfold Cal.num;ac_rfl) hp
def zc1 (K:W.Frag):Sp:=fun vs H Q _=>L2.Ee6 fun a b xs ys (t u:List (Int × Int))=>L2.Aa4 (vs=[.ref a,.ref b]) ((H a=some (.lst xs)/\zy K H xs t/\t.length<=1000/\(t.Pairwise fun s u=>s.1<u.1)/\(∀ s∈t,0<=s.1))) ((H b=some (.lst ys)/\zy K H ys u/\u.length<=1000/\(u.Pairwise fun s u=>s.1<u.1)/\(∀ s∈u,0<=s.1))) (∀ v:Bool,(v=true↔∀ d:Int,0<=d->d<=999999->Sums.valOf t d<=Sums.valOf u d)->Q (.bl v) H)
theorem zy.app {K:W.Frag} {H:Hp} {xs ys:List V} {l r:List (Int × Int)} (h:zy K H xs l) (g:zy K H ys r):zy K H (xs++ys) (l++r):=by
 induction h with
 | nil=>exact g
 | cons e _ ih=>exact .cons e ih
theorem zf0:zj ["one", "other", "days"] qad (zi zb5):=by walk_at "sp"
theorem zlJ (S:Src K mg "is_never_above" zb5 qad) (T:Txt K mg) (zaG:Def P w K mg base 2 "value_at" qar (zfg K)):Def P w K mg base 3 "is_never_above" qad (zc1 K):=by
 exists S.okF,zf0,0
 all_goals obtain ⟨a,b,xs,ys,t,u,rfl,⟨ea,ra,la,ua,na⟩,⟨eb,rb,lb,ub,nb⟩,h⟩:=h
 ·rfl
 refine ⟨_,(zd (zkE (i:=2) zf0.nd rfl rfl (ix:=[]) ⟨rfl,by decide +kernel,rfl,by decide +kernel,rfl,(show (["row"]:List Str).Nodup by decide +kernel),by walk_at "cap", by walk_at "sub", by walk_at "has"⟩ (zQ (zh zbf (pv 0) (pv 1))) (fun b=>(zw zds (zB (zaK K) (pv 0) ze (fun _ _=>rfl)) (zbT T.zgf) (nomark _))) (fun b=>(zB (zaK K) (pv 0) ze (fun _ _=>rfl))))
  (zg (zk (zE (zt4 rfl) rfl T.zsI PyProof.Rows.boot_all (za (zbj (ix:=[0,1]) ⟨rfl,by decide +kernel,rfl,by decide +kernel,rfl,(show (["day", "one", "other"]:List Str).Nodup by decide +kernel),by walk_at "cap", by walk_at "sub", by walk_at "has"⟩ (zQ (pv 2)) (fun b=>(zeI zds (zr zaG hr (za (pv 1) (za (pv 0) zb))) (zr zaG hr (za (pv 2) (za (pv 0) zb))) (nomark _)))) zb))))),?_⟩
 have sz:=sizeLine_eq
 have xl:=ra.length
 have yl:=rb.length
 nofun
 refine ⟨a,b,xs,ys,rfl,rfl,ea,eb,by ac_rfl,fun p np=>?_⟩
 have s1:=zc np (.lst (xs++ys))
 have e1:=zq (.lst (xs++ys)) np
 generalize upd H p (.lst (xs++ys))=H1 at s1 e1 ⊢
 have R1:=zy.app (ra.same s1) (rb.same s1)
 have rl:=R1.length
 nofun
 refine ⟨⟨_,SqL.of e1⟩,fun l1 n1=>?_⟩
 refine zdu (zaw (SqL.of e1)) n1 (by rw[yad];ac_rfl) (t++u) rl.symm (fun s=>decide (s.1<=999999)) (fun H' v s=>v=.int s.1) (fun v e H1 H2 s e1=>e1) (fun v e H1 ys zs hL e1=>e1) ?_ ?_ ?_
 ·rintro i x s H' Q' hx hs sH hq
  obtain ⟨q,s',rfl,e,ht⟩:=R1.get hx
  obtain rfl:s'=s:=Option.some.inj (e.symm.trans hs)
  have ht':=sH _ _ ht
  nofun
  exact hq
 ·rintro i x s H' Q' hx hs fe sH hq
  obtain ⟨q,s',rfl,e,ht⟩:=R1.get hx
  obtain rfl:s'=s:=Option.some.inj (e.symm.trans hs)
  have ht':=sH _ _ ht
  nofun
  exact hq _ _ (Same.refl _) rfl
 ·rintro zs H2 s2 eL hL
  have ey:=hL.eqm
  have dl:((t++u).filter fun s=>decide (s.1<=999999)).length<=2000:=ydh (yav _ _) (by rw[yad];ac_rfl)
  have nab_eq:=zvI na nb
  unfold nab at nab_eq
  generalize (t++u).filter (fun s=>decide (s.1<=999999))=ds at ey dl nab_eq
  rw[ey] at eL
  have sH:=s1.trans s2
  nofun
  refine ⟨⟨_,SqL.of eL⟩,fun l2 n2=>?_⟩
  refine zo2 (zaw (SqL.of eL)) n2 (by rw[yab];ac_rfl) (fun i v _=>∃ s,ds[i]?=some s/\v=.bl (decide (Sums.valOf t s.1<=Sums.valOf u s.1))) (fun _ _ _ _ _ q=>q) (fun _ _ _ _ _ _ q=>q) ?_ ?_
  ·rintro i v H' Q' hv s' hq
   rw[yaj] at hv
   obtain ⟨s,hs,rfl⟩:=Option.map_eq_some_iff.mp hv
   have sK:=sH.trans s'
   nofun
   refine ⟨a,xs,t,s.1,rfl,SqL.of (sK _ _ ea),ra.same sK,ua,na,?_⟩
   nofun
   refine ⟨b,ys,u,s.1,rfl,SqL.of (sK _ _ eb),rb.same sK,ub,nb,?_⟩
   nofun
   exact hq _ _ (Same.refl _) ⟨s,hs,rfl⟩
  ·rintro bs H' s' eB bl hp
   have eb2:bs=(ds.map fun s=>decide (Sums.valOf t s.1<=Sums.valOf u s.1)).map V.bl:=by
    apply ycf
    intro j
    cases e:bs[j]? with
    | none=>rw[yas (by have:=List.getElem?_eq_none_iff.mp e;rw[yab,yab];rw[yab] at bl;ac_rfl)]
    | some v =>
     obtain ⟨s,h1,rfl⟩:=hp j v e
     rw[yaj,yaj,h1]
     rfl
   nofun
   refine ⟨l2,ds.map fun s=>decide (Sums.valOf t s.1<=Sums.valOf u s.1),rfl,SqL.of (by rw[<-eb2];exact eB),sH.trans s',?_⟩
   exact h _ nab_eq
noncomputable def zoZ (b c:BkT) (d:Int):Int:=upto b.pays d-upto c.pays d+upto c.fees d-upto b.fees d
def znT (K:W.Frag):Sp:=fun vs H Q _=>L2.Ee7 fun a A b a' A' c d=>L2.Aa4 (vs=[.ref a,.ref a',.int d]) (zaD K H a A b) (zaD K H a' A' c) (Q (.int (zoZ b c d)) H)
theorem znE:zj ["one", "other", "day", "paid"] qbm (zi ziV):=by walk_at "sp"
theorem zuD (S:Src K mg "gap_at" ziV qbm) (T:Txt K mg) (ziZ:Def P w K mg base 2 "handed" qae (znx K)) (zcb:Def P w K mg base 1 "sum_upto" qah (zif K)) (zaL:zt P w K mg base 1 (cA K "Book") "fees" qaa (zdW K)):Def P w K mg base 3 "gap_at" qbm (znT K):=by
 exists S.okF,znE,0
 all_goals obtain ⟨a,A,b,a',A',c,d,rfl,B,C,h⟩:=h
 ·rfl
 refine ⟨_,(zd (zo (i:=3) znE.nd rfl (by walk_at "lc") (zh zV (zr ziZ hr (za (pv 0) (za (pv 2) zb))) (zr ziZ hr (za (pv 1) (za (pv 2) zb)))))
  (zg (zk (zh zV (zh zF (pv 3) (zr zcb hr (za (zv zaL T.zu hr (pv 1)) (za (pv 2) zb)))) (zr zcb hr (za (zv zaL T.zu hr (pv 0)) (za (pv 2) zb))))))),?_⟩
 nofun
 refine ⟨a,A,b,d,rfl,B,?_⟩
 nofun
 refine ⟨a',A',c,d,rfl,C,?_⟩
 nofun
 refine ⟨a',A'.dx,_,rfl,C.ins,rfl,a',A',c,rfl,C,fun q xs nq hR hl=>?_⟩
 have s1:=zc nq (.lst xs)
 have B1:=B.same s1
 have R1:=hR.same s1
 have e1:=zq (.lst xs) nq
 generalize upd H q (.lst xs)=H1 at s1 B1 R1 e1 ⊢
 nofun
 refine ⟨q,xs,c.fees,d,rfl,SqL.of e1,R1,hl,?_⟩
 nofun
 refine ⟨a,A.dx,_,rfl,B1.ins,rfl,a,A,b,rfl,B1,fun q2 xs2 nq2 hR2 hl2=>?_⟩
 have s2:=zc nq2 (.lst xs2)
 nofun
 refine ⟨q2,xs2,b.fees,d,rfl,SqL.of zf,hR2.same s2,hl2,?_⟩
 nofun
 exact ⟨s1.trans s2,h⟩
def zkn (K:W.Frag):Sp:=fun vs H Q _=>L2.Ee5 fun p dx u m n=>L2.Aa3 (vs=[.ref p]) (Deb K H p dx u m n) (∀ x dy,H x=none->H dy=none->dy≠x->Q (.ref x) (upd (upd H dy (.own x)) x (.ins (cA K "Debt") dy (zau u m n))))
theorem zj6:zj ["self", "other"] qaa (zi ze9):=by walk_at "sp"
theorem zrm (S:zp K (cA K "Debt") "copy" "Debt.copy" ze9 qaa) (T:Txt K mg) (zcj:zt P w K mg base 1 (cA K "Debt") "__init__" qaq (zgt K)):zt P w K mg base 3 (cA K "Debt") "copy" qaa (zkn K):=by
 exists S.ok,zj6,0
 all_goals obtain ⟨p,dx,u,m,n,rfl,e,h⟩:=h
 ·rfl
 refine ⟨_,(zd (zo (i:=1) zj6.nd rfl (by walk_at "lc") (zbn T.zk8 zcj hr T.zmh (za (zad T.zH T.zaU (pv 0)) zb)))
  (zd (zaB T.zH T.zK (pv 1) (zad T.zH T.zK (pv 0)))
  (zd (zaB T.zH T.zT (pv 1) (zad T.zH T.zT (pv 0)))
  (zg (zk (pv 1)))))),?_⟩
 nofun
 refine ⟨p,dx,_,_,rfl,e,rfl,?_⟩
 nofun
 intro x dy nx ndy ney
 refine ⟨x,dy,u,rfl,zf,rfl,?_⟩
 rw[zX]
 have sD:Same H (upd (upd H dy (.own x)) x (.ins (cA K "Debt") dy (zau u 0 0))):=(zc ndy _).trans (zc (by rw[zx ney.symm];exact nx) _)
 have e1:=Deb.same e sD
 have f1:Deb K (upd (upd H dy (.own x)) x (.ins (cA K "Debt") dy (zau u 0 0))) x dy u 0 0:=zf
 have nex:p≠x:=zZ e nx
 nofun
 refine ⟨p,dx,_,_,rfl,e1,rfl,?_⟩
 nofun
 refine ⟨x,dy,_,rfl,f1,zbH,?_⟩
 rw[zoJ,zX]
 have e2:=(Deb.same e ((zc ndy (.own x)).trans (zc (o:=.ins (cA K "Debt") dy (zau u m 0)) (by rw[zx ney.symm];exact nx))))
 have f2:Deb K (upd (upd H dy (.own x)) x (.ins (cA K "Debt") dy (zau u m 0))) x dy u m 0:=zf
 nofun
 refine ⟨p,dx,_,_,rfl,e2,rfl,?_⟩
 nofun
 refine ⟨x,dy,_,rfl,f2,zbH,?_⟩
 rw[zss,zX]
 nofun
 exact h x dy nx ndy ney
def zlw (K:W.Frag):Sp:=fun vs H Q _=>L2.Ee6 fun p dx u m n x=>L2.Aa4 (vs=[.ref p,.int x]) (Deb K H p dx u m n) ((0<u/\u<1152921504606846976)) (Q .non (upd H p (.ins (cA K "Debt") dx (zau u (Dbt.step u .fee x m n).1 (Dbt.step u .fee x m n).2))))
theorem zqM:zj qac qac (zi zf6):=by walk_at "sp"
theorem zsH (S:zp K (cA K "Debt") "fee" "Debt.fee" zf6 qac) (T:Txt K mg) (zaz:zt P w K mg base 2 (cA K "Debt") "add_cents" qac (zbL K)):zt P w K mg base 3 (cA K "Debt") "fee" qac (zlw K):=by
 exists S.ok,zqM,0
 all_goals obtain ⟨p,dx,u,m,n,x,rfl,e,hu,h⟩:=h
 ·rfl
 refine ⟨_,(zg (zao (zdv zaz T.zH hr (pv 0) (za (pv 1) zb)))),?_⟩
 nofun
 refine ⟨p,dx,_,rfl,e,rfl,?_⟩
 nofun
 refine ⟨p,dx,u,m,n,x,rfl,e,hu,?_⟩
 exact h
def zj4 (K:W.Frag):Sp:=fun vs H Q _=>L2.Ee6 fun p dx u m n x=>L2.Aa4 (vs=[.ref p,.int x]) (Deb K H p dx u m n) ((0<u/\u<1152921504606846976)) (Q .non (upd H p (.ins (cA K "Debt") dx (zau u (Dbt.step u .lend x m n).1 (Dbt.step u .lend x m n).2))))
theorem zpM:zj qac qac (zi zfo):=by walk_at "sp"
theorem zq8 (S:zp K (cA K "Debt") "lend" "Debt.lend" zfo qac) (T:Txt K mg) (zaz:zt P w K mg base 2 (cA K "Debt") "add_cents" qac (zbL K)):zt P w K mg base 3 (cA K "Debt") "lend" qac (zj4 K):=by
 exists S.ok,zpM,0
 all_goals obtain ⟨p,dx,u,m,n,x,rfl,e,hu,h⟩:=h
 ·rfl
 refine ⟨_,(zd (zaB T.zH T.zK (pv 0) (zh zF (zad T.zH T.zK (pv 0)) (pv 1)))
  (zg (zao (zdv zaz T.zH hr (pv 0) (za (pv 1) zb))))),?_⟩
 nofun
 refine ⟨p,dx,_,_,rfl,e,rfl,?_⟩
 nofun
 refine ⟨p,dx,_,rfl,e,zbH,?_⟩
 rw[zoJ]
 have e1:Deb K (upd H p (.ins (cA K "Debt") dx (zau u (m+x) n))) p dx u (m+x) n:=zf
 nofun
 refine ⟨p,dx,_,rfl,e1,rfl,?_⟩
 nofun
 refine ⟨p,dx,u,m+x,n,x,rfl,e1,hu,?_⟩
 rw[zX]
 exact h
def zkF (K:W.Frag):Sp:=fun vs H Q _=>L2.Ee6 fun p dx u m n x=>L2.Aa4 (vs=[.ref p,.int x]) (Deb K H p dx u m n) ((0<u/\u<1152921504606846976)) (Q .non (upd H p (.ins (cA K "Debt") dx (zau u (Dbt.step u .take x m n).1 (Dbt.step u .take x m n).2))))
theorem zqy:zj qac qac (zi zfh):=by walk_at "sp"
theorem zrf (S:zp K (cA K "Debt") "take" "Debt.take" zfh qac) (T:Txt K mg) (zaz:zt P w K mg base 2 (cA K "Debt") "add_cents" qac (zbL K)):zt P w K mg base 3 (cA K "Debt") "take" qac (zkF K):=by
 exists S.ok,zqy,0
 all_goals obtain ⟨p,dx,u,m,n,x,rfl,e,hu,h⟩:=h
 ·rfl
 refine ⟨_,(zg (zao (zdv zaz T.zH hr (pv 0) (za (zjb zgx (pv 1)) zb)))),?_⟩
 nofun
 refine ⟨p,dx,_,rfl,e,rfl,?_⟩
 nofun
 refine ⟨p,dx,u,m,n,-x,rfl,e,hu,?_⟩
 exact h
def ziB (K:W.Frag):Sp:=fun vs H Q _=>∃ c kd g,vs=[.ref c,.int g]/\zb4 K H c kd/\(0<=g/\g<=366)/\Q .non H
theorem zm5:zj qba qba (zi zdl):=by walk_at "sp"
theorem zoe (S:Src K mg "check_terms" zdl qba) (T:Txt K mg) (zih:Def P w K mg base 2 "is_within" qaz (zkl K)):Def P w K mg base 3 "check_terms" qba (ziB K):=by
 exists S.ok,zm5,0
 all_goals obtain ⟨c,kd,g,rfl,hc,⟨g0,g1⟩,h⟩:=h
 ·rfl
 refine ⟨_,(zd (zP (ziv (zc6 (zE ztK rfl T.zbc PyProof.Rows.boot_isinstance (za (pv 0) (za (zgp (v:=.ref (cA K "Count")) rfl T.zkW rfl) zb)))))
   zkj
   zJ)
  (zg (zP (ziv (zc6 (zr zih hr (za (pv 1) (za ze (za (zbT T.zhi) zb))))))
   zkj
   zJ))),?_⟩
 have ty:=tyC (T.cls kd) (T.ikK kd) hc
 nofun
 refine ⟨_,_,_,_,rfl,ty,T.kitK0 kd,?_⟩
 rw[show zwO kd .plain=true from rfl]
 nofun
 exact h
def ziL (K:W.Frag):Sp:=fun vs H Q _=>L2.Ee6 fun p sp xs ys (es:List Er) l=>L2.Aa6 (vs=[.ref p,.ref sp]) (SqL K H p xs) (EL K H xs es) (es.length<=61) ((SqL K H sp ys/\zy K H ys l/\Spans.Joined l)) (∀ q H' ws r,H q=none->Same H H'->H' q=some (.lst ws)->zy K H' ws r->Sby.Tab r (mvp (mvd l) (prs "due" es))->Q (.ref q) H')
theorem zmV:zj qbb qbb (zi zdr):=by walk_at "sp"
theorem zoy (S:Src K mg "fallen_dues" zdr qbb) (T:Txt K mg) (zeQ:Def P w K mg base 1 "summed" qal (zka K)) (zct:Def P w K mg base 2 "sum_by" qaf (zj8 K)) (zgn:Def P w K mg base 2 "moved" qak (zlP K)):Def P w K mg base 3 "fallen_dues" qbb (ziL K):=by
 exists S.ok,zmV,0
 all_goals obtain ⟨p,sp,xs,ys,es,l,rfl,ep,hE,hl,⟨eS,rS,J⟩,h⟩:=h
 ·rfl
 refine ⟨_,(zg (zk (zr zeQ hr (za (zbj (ix:=[1]) ⟨rfl,by decide +kernel,rfl,by decide +kernel,rfl,(show (["row", "spans"]:List Str).Nodup by decide +kernel),by walk_at "cap", by walk_at "sub", by walk_at "has"⟩ (zQ (zr zct hr (za (pv 0) (za zC zb)))) (fun b=>(zO (za (zr zgn hr (za (pv 1) (za (zB (zaK K) (pv 0) ze (fun _ _=>rfl)) zb))) (za (zB (zaK K) (pv 0) ze (fun _ _=>rfl)) zb))))) zb)))),?_⟩
 have sz:=sizeLine_eq
 nofun
 refine ⟨p,xs,es, "due", rfl,ep,hE,hl,.inr (.inr (.inr rfl)),fun q1 H1 ws1 r1 nq1 s1 e1 R1 T1=>?_⟩
 have eS1:=s1.seq eS
 have rS1:=rS.same s1
 have l1:=R1.length
 have pl:=ziG (w:="due") (es:=es)
 have rl:r1.length<=(prs "due" es).length:=by
  have:=zg1 (Sby.zcW T1.up) fun k hk=>(T1.mem k).mp hk
  rw[yab,yab] at this
  exact this
 refine ⟨q1,rfl,⟨_,SqL.of e1⟩,fun lt nlt=>?_⟩
 refine comp_map (zaw (SqL.of e1)) nlt (by ac_rfl) r1 l1.symm (fun H' v s=>∃ t,v=.ref t/\H' t=some (.tup [.int (mvd l s.1),.int s.2])) (fun v e H1 H2 s ⟨t,e1,e2⟩=>⟨t,e1,s _ _ e2⟩) (fun v e H1 ys zs hL ⟨t,e1,e2⟩=>⟨t,e1,by rw[zx (zaW e2 hL (by intro z;cases z))];exact e2⟩) ?_ ?_
 ·rintro i x s H' Q' hx hs sH hq
  obtain ⟨u,s',rfl,hs',hu⟩:=(R1.same sH).get hx
  obtain rfl:s'=s:=Option.some.inj (hs'.symm.trans hs)
  nofun
  refine ⟨sp,ys,l,s'.1,rfl,sH.seq eS1,rS1.same sH,J,fun m F=>?_⟩
  obtain rfl:=ztM F
  nofun
  intro t nt
  exact hq _ _ (zc nt _) ⟨t,rfl,zf⟩
 ·rintro zs H2 s2 eL hL
  have ml:(mvp (mvd l) r1).length=r1.length:=yab ..
  nofun
  refine ⟨lt,zs,mvp (mvd l) r1,rfl,eL,zur hL,by ac_rfl,fun q H3 ws r nq s3 eq hr' tb=>?_⟩
  exact h q H3 ws r (zD (s1.trans s2) nq) (s1.trans (s2.trans s3)) eq hr' (zv1 _ T1 tb)
def zjW (K:W.Frag):Sp:=fun vs H Q _=>L2.Ee5 fun a (ns:List Int) (s m:Int) b=>L2.Aa5 (vs=[.ref a,.int s,.int m,.int b]) ((0<=s/\s<=100/\5<=m/\m<=30)) (SqL K H a (ns.map V.int)) ((0<=b/\b<=999699)) (∀ q rs (es:List Er) H',H q=none->Same H H'->H' q=some (.lst rs)->RL3 H' rs es->Sgs 0 b es->5<=es.length/\es.length<=m.toNat->Q (.ref q) H')
theorem zfV:zj ["_law_script", "_law_start", "_law_most", "_law_base", "_law_specs_here", "_law_k"] qbn (zi zec):=by walk_at "sp"
theorem zpt (S:Src K mg "_law_specs" zec qbn) (T:Txt K mg) (zai:Def P w K mg base 2 "_law_cell" qas (zhk K)) (zid:Def P w K mg base 1 "_law_spec" qbh (zkp K)):Def P w K mg base 3 "_law_specs" qbn (zjW K):=by
 exists S.ok,zfV,0
 all_goals obtain ⟨a,ns,s,m,b,rfl,⟨s0,s1',m0,m1⟩,hS,⟨b0,b1⟩,h⟩:=h
 ·rfl
 refine ⟨_,(zd (zo (i:=4) zfV.nd rfl (by walk_at "lc") (zaj (za (zO (za zC (za (pv 3) (za (zh zar (zby (v:=100000) (by decide +kernel) ⟨by decide,by decide,by decide⟩) (zh zF ze (zh zI (zr zai hr (za (pv 0) (za (pv 1) zb))) ze))) zb)))) zb)))
  (zd (zcq PassesOwn.never rfl (znz rfl T.zdF (za (zh zF (pv 1) ze) (za (zE (zfx rfl) rfl T.zjF PyProof.Rows.boot_min (za (zh zF (pv 1) (pv 2)) (za (zE (zbB rfl) rfl T.zd8 PyProof.Rows.boot_max (za (zh zF (pv 1) ze) (za (zE zam rfl T.zbD PySem.boot_len (za (pv 0) zb)) zb))) zb))) zb))) (zac (i:=5) zfV.nd rfl (by walk_at "lc"))
  (zg (zao (zer PySem.F.plainAttrs_list PySem.F.slot_list_append PySem.F.type_list_append zbY (pv 4) (za (zr zid hr (za (zr zai hr (za (pv 0) (za (pv 5) zb))) (za (pv 3) zb))) zb)))))
  (zg (zk (pv 4))))),?_⟩
 have sz:=sizeLine_eq
 nofun
 rename_i r r0 r1
 intro t nt
 have s1:=zc nt (.tup [.str "out", .int b,.int (100000*(1+r % 90))])
 have e1:=zq (.tup [.str "out", .int b,.int (100000*(1+r % 90))]) nt
 nofun
 intro q nq
 have s2:=s1.trans (zc nq (.lst [.ref t]))
 have npH:=zD s1 nq
 have e2:=zq (.lst [.ref t]) nq
 have e12:=zc nq (.lst [.ref t]) _ _ e1
 generalize upd (upd H t (.tup [.str "out", .int b,.int (100000*(1+r % 90))])) q (.lst [.ref t])=H1 at s2 e2 e12 ⊢
 nofun
 refine ⟨a,_,rfl,.inl (s2.seq hS),?_⟩
 rw[yab]
 nofun
 refine zkA (fun j σ H'=>∃ (rs:List V) (es:List Er) (z:Option V),(Same H H'/\H' q=some (.lst rs)/\RL3 H' rs es)/\(Sgs 0 b es/\es.length=1+j)/\σ=[some (.ref a),some (.int s),some (.int m),some (.int b),some (.ref q),z])
  ⟨[.ref t],[(.out,b,100000*(1+r % 90))],_,⟨s2,e2,.cons ⟨t,rfl,e12⟩ .nil⟩,⟨Sgs.one ⟨yea _,by show b<=b+59+8*0;ac_rfl,by show 1<=100000*(1+r % 90);ac_rfl⟩,rfl⟩,rfl⟩ ?_ ?_
 ·rintro j σ H2 hj ⟨rs,es,z,⟨sH,eQ,hR⟩,⟨ok,el⟩,rfl⟩
  have xl:=hR.length
  have hj':j<29:=by
   split at hj <;> split at hj <;> ac_rfl
  have hSH:=sH.seq hS
  nofun
  refine ⟨.inl ⟨rfl,_,SqL.of eQ⟩,?_⟩
  nofun
  rename_i y y0 y1
  intro t' k d x H3 nt' s3 et' sp
  nofun
  have eQ3:=s3 _ _ eQ
  refine ⟨q,_,_,rfl,rfl,eQ3,by ac_rfl,?_⟩
  refine ⟨_,es++[(k,d,x)],_,⟨zN (sH.trans s3) npH,zf,LL.push (RL3.put (hR.same s3) eQ3) ⟨t',rfl,?_⟩⟩,⟨ok.app (Sgs.one sp),?_⟩,rfl⟩
  ·rw[zx (zaW et' eQ3 (by intro z;cases z))]
   exact et'
  ·rw[yad,el]
   rfl
 ·rintro σ H2 ⟨rs,es,z,⟨sH,eQ,hR⟩,⟨ok,el⟩,rfl⟩
  nofun
  refine h q rs es H2 npH sH eQ hR ok ?_
  rw[el]
  split <;> split <;> ac_rfl
def zlo (K:W.Frag):Sp:=fun vs H Q _=>L2.Ee6 fun a b xs ys (t l:List (Int × Int))=>L2.Aa5 (vs=[.ref a,.ref b]) ((H a=some (.lst xs)/\zy K H xs t/\(t.Pairwise fun s u=>s.1<u.1)/\(∀ s∈t,0<=s.1))) ((H b=some (.lst ys)/\zy K H ys l/\Spans.Joined l)) (t.length+2*l.length<63) (∀ p ws (r:List (Int × Int)) H',H p=none->Same H H'->H' p=some (.lst ws)->zy K H' ws r->r.length<=1000->(r.Pairwise fun s u=>s.1<u.1)->(∀ s∈r,0<=s.1)->(∀ d:Int,0<=d->d<=999999->Sums.valOf r d=chv t l d)->Q (.ref p) H')
theorem zlA:zj ["table", "spans", "days"] qbo (zi zgh):=by walk_at "sp"
theorem zsJ (S:Src K mg "charging" zgh qbo) (T:Txt K mg) (zlG:Def P w K mg base 1 "breaks" qbf (znU K)) (zeO:Def P w K mg base 3 "stands" qak (zkK K)) (zaG:Def P w K mg base 2 "value_at" qar (zfg K)):Def P w K mg base 4 "charging" qbo (zlo K):=by
 exists S.ok,zlA,0
 all_goals obtain ⟨a,b,xs,ys,t,l,rfl,⟨ea,ra,ua,na⟩,⟨eb,rb,J⟩,ls,h⟩:=h
 ·rfl
 refine ⟨_,(zd (zo (i:=2) zlA.nd rfl (by walk_at "lc") (zh zbf (zaj (za ze zb)) (zr zlG hr (za (pv 0) (za (pv 1) (za ze (za (zh zF (zbT T.zgf) ze) zb)))))))
  (zg (zk (zbj (ix:=[1,0]) ⟨rfl,by decide +kernel,rfl,by decide +kernel,rfl,(show (["day", "spans", "table"]:List Str).Nodup by decide +kernel),by walk_at "cap", by walk_at "sub", by walk_at "has"⟩ (zQ (pv 2)) (fun b=>(zO (za (pv 0) (za (zlU (zc6 (zr zeO hr (za (pv 1) (za (pv 0) zb)))) ze (zr zaG hr (za (pv 2) (za (pv 0) zb)))) zb)))))))),?_⟩
 have sz:=sizeLine_eq
 have xl:=ra.length
 have yl:=rb.length
 nofun
 intro p np
 have s1:=zc np (.lst [V.int 0])
 have e1:=zq (.lst [V.int 0]) np
 generalize upd H p (.lst [V.int 0])=H1 at s1 e1 ⊢
 nofun
 refine ⟨a,b,xs,ys,t,l,0,_,rfl,SqL.of (s1 _ _ ea),ra.same s1,SqL.of (s1 _ _ eb),rb.same s1,by ac_rfl,fun q ns H2 s2 nq e2 nl up hd=>?_⟩
 nofun
 refine ⟨p,q,_,_,rfl,rfl,s2 _ _ e1,e2,by rw[yab];show 1+_<=_;ac_rfl,fun r nr=>?_⟩
 have s3:=zc nr (.lst ([V.int 0]++ns.map V.int))
 have e3:=zq (.lst ([V.int 0]++ns.map V.int)) nr
 generalize upd H2 r (.lst ([V.int 0]++ns.map V.int))=H3 at s3 e3 ⊢
 have e3':H3 r=some (.lst (((0:Int)::ns).map V.int)):=e3
 have sH:=s1.trans (s2.trans s3)
 clear s1 s2 s3 e1 e2 e3
 nofun
 refine ⟨⟨_,SqL.of e3'⟩,fun l1 n1=>?_⟩
 refine comp_map (zaw (SqL.of e3')) n1 (by rw[yab,yax];ac_rfl) ((0:Int)::ns) (by rw[yab]) (fun H' v k=>∃ t',v=.ref t'/\H' t'=some (.tup [.int k,.int (chv t l k)])) (fun v e H1 H2 s ⟨t,e1,e2⟩=>⟨t,e1,s _ _ e2⟩) (fun v e H1 ys zs hL ⟨t,e1,e2⟩=>⟨t,e1,by rw[zx (zaW e2 hL (by intro z;cases z))];exact e2⟩) ?_ ?_
 ·rintro i x k H' Q' hx hk s' hq
  rw[yaj,hk] at hx
  cases hx
  have sK:=sH.trans s'
  nofun
  refine ⟨b,ys,l,k,rfl,SqL.of (sK _ _ eb),rb.same sK,J,?_⟩
  cases q:Spans.isIn l k with
  | true =>
   nofun
   intro t' nt
   exact hq _ _ (zc nt _) ⟨t',rfl,by rw[zf];unfold chv;rw[if_pos q]⟩
  | false =>
   nofun
   refine ⟨a,xs,t,k,rfl,SqL.of (sK _ _ ea),ra.same sK,ua,na,?_⟩
   nofun
   intro t' nt
   exact hq _ _ (zc nt _) ⟨t',rfl,by rw[zf];unfold chv;rw[if_neg (by rw[q];decide)]⟩
 ·rintro zs H4 s4 e4 hL
  have hS:zy K H4 zs (((0:Int)::ns).map fun k=>(k,chv t l k)):=by
   clear e4
   revert hL
   generalize (0:Int)::ns=ks
   intro hL
   induction hL with
   | nil=>exact .nil
   | cons h _ ih =>
    obtain ⟨t',rfl,e⟩:=h
    exact .cons e ih
  have k0:∀ k∈ns,0<k:=fun k hk=>((hd k).mp hk).1.1
  refine h l1 zs _ H4 (zD sH n1) (sH.trans s4) e4 hS (by rw[yab,yax];ac_rfl) ?_ ?_ (fun d d0 d1=>zv5 hd d0 d1)
  ·rw[ybi]
   exact ybr.mpr ⟨fun k hk=>k0 k hk,up⟩
  ·intro s hs
   obtain ⟨k,hk,rfl⟩:=yaf.mp hs
   rcases yal.mp hk with rfl | hk
   ·exact yea _
   ·exact Int.le_of_lt (k0 k hk)
structure FOk (b:BkT):Prop where
 fu:(b.fees.map (·.1)).Pairwise (·<·)
 fn:∀ s∈b.fees,0<=s.1
 fl:b.fees.length<=1000
theorem zgs {l:List (Int × Int)} (h:(l.map (·.1)).Pairwise (·<·)):(runs 0 l).Pairwise fun s u=>s.1<u.1:=zoV (by rw[zb0];exact h)
theorem zgo {l:List (Int × Int)} (h:∀ s∈l,0<=s.1):∀ s∈runs 0 l,0<=s.1:=fun s hs=>by
 have m:s.1∈l.map (·.1):=by rw[<-zb0 l 0];exact yay hs
 obtain ⟨r,hr,e⟩:=yaf.mp m
 rw[<-e]
 exact h r hr
theorem zrI (g:Int) (l:List (Int × Int)):(shf g l).length=l.length:=yab _
theorem zfv {g:Int} {l:List (Int × Int)} (h:(l.map (·.1)).Pairwise (·<·)):((shf g l).map (·.1)).Pairwise (·<·):=by
 unfold shf
 rw[ybn,ybi]
 rw[ybi] at h
 exact h.imp fun z=>by show _+g<_+g;omega
theorem ziy {g:Int} {l:List (Int × Int)} (g0:0<=g) (h:∀ s∈l,0<=s.1):∀ s∈shf g l,0<=s.1:=fun s hs=>by
 obtain ⟨r,hr,rfl⟩:=yaf.mp hs
 have:=h r hr
 show 0<=r.1+g
 omega
def zes (K:W.Frag):Sp:=fun vs H Q _=>L2.Ee6 fun a A (b:BkT) a' A' (c:BkT)=>L2.Aa4 (vs=[.ref a,.ref a']) ((zaD K H a A b/\BOk b/\FOk b)) ((zaD K H a' A' c/\BOk c/\FOk c)) (∀ v:Bool,(v=true↔(∀ d:Int,0<=d->d<=999999->upto c.pays d<=upto b.pays d)/\(∀ d:Int,0<=d->d<=999999->upto b.fees d<=upto c.fees d)/\∀ d:Int,0<=d->d<=999999->upto b.dues (d-b.g)<=upto c.dues (d-c.g))->Q (.bl v) H)
theorem zbw:zj ["one", "other", "pays", "fees", "dues"] qad (zi zbG):=by walk_at "sp"
theorem zj5 (S:Src K mg "is_asked_no_more" zbG qad) (T:Txt K mg) (zay:Def P w K mg base 3 "is_never_above" qad (zc1 K)) (zal:Def P w K mg base 1 "running_sums" ["rows"] (zcp K)) (zah:zt P w K mg base 1 (cA K "Book") "pays" qaa (zbR K)) (zaL:zt P w K mg base 1 (cA K "Book") "fees" qaa (zdW K)) (zbK:Def P w K mg base 2 "late_sums" qag (zg3 K)):Def P w K mg base 4 "is_asked_no_more" qad (zes K):=by
 exists S.okF,zbw,0
 all_goals obtain ⟨a,A,b,a',A',c,rfl,⟨B,O,F⟩,⟨C,O',F'⟩,h⟩:=h
 ·rfl
 refine ⟨_,(zd (zo (i:=2) zbw.nd rfl (by walk_at "lc") (zr zay hr (za (zr zal hr (za (zv zah T.zu hr (pv 1)) zb)) (za (zr zal hr (za (zv zah T.zu hr (pv 0)) zb)) zb))))
  (zd (zo (i:=3) zbw.nd rfl (by walk_at "lc") (zr zay hr (za (zr zal hr (za (zv zaL T.zu hr (pv 0)) zb)) (za (zr zal hr (za (zv zaL T.zu hr (pv 1)) zb)) zb))))
  (zd (zo (i:=4) zbw.nd rfl (by walk_at "lc") (zr zay hr (za (zr zbK hr (za (pv 0) zb)) (za (zr zbK hr (za (pv 1) zb)) zb))))
  (zg (zk (zfu (pv 2) (zfu (pv 3) (zfr (pv 4))))))))),?_⟩
 have sz:=sizeLine_eq
 nofun
 have C1:=C.same (Same.refl _)
 refine ⟨a',A'.dx,_,rfl,C1.ins,rfl,a',A',c,rfl,C1,fun q1 x1 nq1 r1 l1=>?_⟩
 have t1:=zc nq1 (.lst x1)
 have e1:=zq (.lst x1) nq1
 have R1:=r1.same t1
 generalize upd H q1 (.lst x1)=H1 at t1 e1 R1 ⊢
 nofun
 rename_i p2 w2 H2
 intro np2 t2 e2 R2
 nofun
 have B3:=B.same (t1.trans (t2))
 refine ⟨a,A.dx,_,rfl,B3.ins,rfl,a,A,b,rfl,B3,fun q3 x3 nq3 r3 l3=>?_⟩
 have t3:=zc nq3 (.lst x3)
 have e3:=zq (.lst x3) nq3
 have R3:=r3.same t3
 generalize upd H2 q3 (.lst x3)=H3 at t3 e3 R3 ⊢
 nofun
 rename_i p4 w4 H4
 intro np4 t4 e4 R4
 nofun
 refine ⟨p2,p4,w2,w4,runs 0 c.pays,runs 0 b.pays,rfl,⟨(t3.trans t4) _ _ e2,R2.same (t3.trans t4),by rw[zdE];assumption,zgs O'.pu,zgo O'.pn⟩,⟨e4,R4,by rw[zdE];assumption,zgs O.pu,zgo O.pn⟩,fun b1 hb1=>?_⟩
 have k1:b1=true↔∀ d:Int,0<=d->d<=999999->upto c.pays d<=upto b.pays d:=hb1.trans ⟨fun z d d0 d1=>by rw[<-za0 O'.pu O'.pn,<-za0 O.pu O.pn];exact z d d0 d1,fun z d d0 d1=>by rw[za0 O'.pu O'.pn,za0 O.pu O.pn];exact z d d0 d1⟩
 nofun
 have B5:=B.same (t1.trans (t2.trans (t3.trans (t4))))
 refine ⟨a,A.dx,_,rfl,B5.ins,rfl,a,A,b,rfl,B5,fun q5 x5 nq5 r5 l5=>?_⟩
 have t5:=zc nq5 (.lst x5)
 have e5:=zq (.lst x5) nq5
 have R5:=r5.same t5
 generalize upd H4 q5 (.lst x5)=H5 at t5 e5 R5 ⊢
 nofun
 rename_i p6 w6 H6
 intro np6 t6 e6 R6
 nofun
 have C7:=C.same (t1.trans (t2.trans (t3.trans (t4.trans (t5.trans (t6))))))
 refine ⟨a',A'.dx,_,rfl,C7.ins,rfl,a',A',c,rfl,C7,fun q7 x7 nq7 r7 l7=>?_⟩
 have t7:=zc nq7 (.lst x7)
 have e7:=zq (.lst x7) nq7
 have R7:=r7.same t7
 generalize upd H6 q7 (.lst x7)=H7 at t7 e7 R7 ⊢
 nofun
 rename_i p8 w8 H8
 intro np8 t8 e8 R8
 nofun
 refine ⟨p6,p8,w6,w8,runs 0 b.fees,runs 0 c.fees,rfl,⟨(t7.trans t8) _ _ e6,R6.same (t7.trans t8),by rw[zdE];assumption,zgs F.fu,zgo F.fn⟩,⟨e8,R8,by rw[zdE];assumption,zgs F'.fu,zgo F'.fn⟩,fun b2 hb2=>?_⟩
 have k2:b2=true↔∀ d:Int,0<=d->d<=999999->upto b.fees d<=upto c.fees d:=hb2.trans ⟨fun z d d0 d1=>by rw[<-za0 F.fu F.fn,<-za0 F'.fu F'.fn];exact z d d0 d1,fun z d d0 d1=>by rw[za0 F.fu F.fn,za0 F'.fu F'.fn];exact z d d0 d1⟩
 nofun
 have B9:=B.same (t1.trans (t2.trans (t3.trans (t4.trans (t5.trans (t6.trans (t7.trans (t8))))))))
 refine ⟨a,A,b,rfl,B9,fun p9 w9 H9 np9 t9 e9 R9=>?_⟩
 nofun
 have C10:=C.same (t1.trans (t2.trans (t3.trans (t4.trans (t5.trans (t6.trans (t7.trans (t8.trans (t9)))))))))
 refine ⟨a',A',c,rfl,C10,fun p10 w10 H10 np10 t10 e10 R10=>?_⟩
 nofun
 refine ⟨p9,p10,w9,w10,runs 0 (shf b.g b.dues),runs 0 (shf c.g c.dues),rfl,⟨t10 _ _ e9,R9.same t10,by rw[zdE,zrI];have:=O.sz;ac_rfl,zgs (zfv O.du),zgo (ziy O.g0 O.dn)⟩,⟨e10,R10,by rw[zdE,zrI];have:=O'.sz;ac_rfl,zgs (zfv O'.du),zgo (ziy O'.g0 O'.dn)⟩,fun b3 hb3=>?_⟩
 have k3:b3=true↔∀ d:Int,0<=d->d<=999999->upto b.dues (d-b.g)<=upto c.dues (d-c.g):=hb3.trans ⟨fun z d d0 d1=>by rw[<-zb7,<-zb7,<-za0 (zfv O.du) (ziy O.g0 O.dn),<-za0 (zfv O'.du) (ziy O'.g0 O'.dn)];exact z d d0 d1,fun z d d0 d1=>by rw[za0 (zfv O.du) (ziy O.g0 O.dn),za0 (zfv O'.du) (ziy O'.g0 O'.dn),zb7,zb7];exact z d d0 d1⟩
 have sH:=t1.trans (t2.trans (t3.trans (t4.trans (t5.trans (t6.trans (t7.trans (t8.trans (t9.trans (t10)))))))))
 nofun
 cases b1 with
 | false=>exact ⟨sH,h false ⟨(fun z=>by cases z),fun z=>absurd (k1.mpr z.1) (by decide)⟩⟩
 | true =>
  nofun
  cases b2 with
  | false=>exact ⟨sH,h false ⟨(fun z=>by cases z),fun z=>absurd (k2.mpr z.2.1) (by decide)⟩⟩
  | true =>
   nofun
   exact h b3 ⟨fun z=>⟨k1.mp rfl,k2.mp rfl,k3.mp z⟩,fun z=>k3.mpr z.2.2⟩
def zmd (K:W.Frag):Sp:=fun vs H Q _=>∃ a A b,vs=[.ref a]/\zaD K H a A b/\BOk b /\
 ∀ p ws (ds:List Int) H',H p=none->Same H H'->H' p=some (.lst ws)->R4 b H' ws ds->ds.Pairwise (·<·)->(∀ d,d∈ds↔TDay b d)->ds.length<=1000->Q (.ref p) H'
theorem zbi:zj ["book", "spans", "rates", "lates", "asked_sums", "handed_sums", "told", "day", "lacks"] qag (zi zhw):=by walk_at "sp"
theorem ztw (S:Src K mg "burdens" zhw qag) (T:Txt K mg) (zaq:zt P w K mg base 1 (cA K "Book") "stills" qaa (zcK K)) (zaQ:zt P w K mg base 1 (cA K "Book") "rates" qaa (zdm K)) (zaM:zt P w K mg base 1 (cA K "Book") "lates" qaa (zdn K)) (zbK:Def P w K mg base 2 "late_sums" qag (zg3 K)) (zal:Def P w K mg base 1 "running_sums" ["rows"] (zcp K)) (zah:zt P w K mg base 1 (cA K "Book") "pays" qaa (zbR K)) (zew:Def P w K mg base 2 "turning_days" qag (zhI K)) (zeO:Def P w K mg base 3 "stands" qak (zkK K)) (zaG:Def P w K mg base 2 "value_at" qar (zfg K)):Def P w K mg base 4 "burdens" qag (zmd K):=by
 exists S.ok,zbi,0
 all_goals obtain ⟨a,A,b,rfl,B,O,h⟩:=h
 ·rfl
 refine ⟨_,(zd (zo (i:=1) zbi.nd rfl (by walk_at "lc") (zv zaq T.zu hr (pv 0)))
  (zd (zo (i:=2) zbi.nd rfl (by walk_at "lc") (zv zaQ T.zu hr (pv 0)))
  (zd (zo (i:=3) zbi.nd rfl (by walk_at "lc") (zv zaM T.zu hr (pv 0)))
  (zd (zo (i:=4) zbi.nd rfl (by walk_at "lc") (zr zbK hr (za (pv 0) zb)))
  (zd (zo (i:=5) zbi.nd rfl (by walk_at "lc") (zr zal hr (za (zv zah T.zu hr (pv 0)) zb)))
  (zd (zo (i:=6) zbi.nd rfl (by walk_at "lc") (zaj zb))
  (zd (zcq PassesOwn.never rfl (zQ (zr zew hr (za (pv 0) zb))) (zac (i:=7) zbi.nd rfl (by walk_at "lc"))
  (zg (zP (zc6 (zr zeO hr (za (pv 1) (za (pv 7) zb))))
  (zg (zao (zer PySem.F.plainAttrs_list PySem.F.slot_list_append PySem.F.type_list_append zbY (pv 6) (za (zO (za (pv 7) (za ze (za ze (za ze zb))))) zb))))
  (zd (zo (i:=8) zbi.nd rfl (by walk_at "lc") (zE (zbB rfl) rfl T.zd8 PyProof.Rows.boot_max (za ze (za (zh zV (zr zaG hr (za (pv 4) (za (pv 7) zb))) (zr zaG hr (za (pv 5) (za (pv 7) zb)))) zb))))
  (zg (zao (zer PySem.F.plainAttrs_list PySem.F.slot_list_append PySem.F.type_list_append zbY (pv 6) (za (zO (za (pv 7) (za (zr zaG hr (za (pv 2) (za (pv 7) zb))) (za (zr zaG hr (za (pv 3) (za (pv 7) zb))) (za (pv 8) zb))))) zb))))))))
  (zg (zk (pv 6)))))))))),?_⟩
 have sz:=sizeLine_eq
 nofun
 refine ⟨a,A.dx,_,rfl,B.ins,rfl,a,A,b,rfl,B,fun q1 x1 n1 r1 l1=>?_⟩
 have t1:=zc n1 (.lst x1)
 have e1:=zq (.lst x1) n1
 have r1':=r1.same t1
 generalize upd H q1 (.lst x1)=H1 at t1 e1 r1' ⊢
 have B1:=B.same t1
 nofun
 refine ⟨a,A.dx,_,rfl,B1.ins,rfl,a,A,b,rfl,B1,fun q2 x2 n2 r2 l2=>?_⟩
 have t2:=zc n2 (.lst x2)
 have e2:=zq (.lst x2) n2
 have r2':=r2.same t2
 generalize upd H1 q2 (.lst x2)=H2 at t2 e2 r2' ⊢
 have B2:=B1.same t2
 nofun
 refine ⟨a,A.dx,_,rfl,B2.ins,rfl,a,A,b,rfl,B2,fun q3 x3 n3 r3 l3=>?_⟩
 have t3:=zc n3 (.lst x3)
 have e3:=zq (.lst x3) n3
 have r3':=r3.same t3
 generalize upd H2 q3 (.lst x3)=H3 at t3 e3 r3' ⊢
 have B3:=B2.same t3
 nofun
 first | refine ⟨a,A,b,rfl,B3,fun q4 x4 H4 n4 t4 e4 r4=>?_⟩ | refine ⟨B3,fun q4 x4 H4 n4 t4 e4 r4=>?_⟩
 have B4:=B3.same t4
 nofun
 refine ⟨a,A.dx,_,rfl,B4.ins,rfl,a,A,b,rfl,B4,fun q5 x5 n5 r5 l5=>?_⟩
 have t5:=zc n5 (.lst x5)
 have e5:=zq (.lst x5) n5
 have r5':=r5.same t5
 generalize upd H4 q5 (.lst x5)=H5 at t5 e5 r5' ⊢
 nofun
 rename_i q6 x6 H6
 intro n6 t6 e6 r6
 have t16:=t2.trans (t3.trans (t4.trans (t5.trans t6)))
 have t26:=t3.trans (t4.trans (t5.trans t6))
 have t36:=t4.trans (t5.trans t6)
 have t46:=t5.trans t6
 have s06:=t1.trans t16
 have e16:=t16 _ _ e1
 have r16:=r1'.same t16
 have e26:=t26 _ _ e2
 have r26:=r2'.same t26
 have e36:=t36 _ _ e3
 have r36:=r3'.same t36
 have e46:=t46 _ _ e4
 have r46:=r4.same t46
 clear t16 t26 t36 t46 e1 e2 e3 e4 r1' r2' r3' r4 B1 B2 B3 B4 t1 t2 t3 t4 t5 t6
 nofun
 intro p np
 have s7:=zc np (.lst [])
 have eP:=zq (.lst []) np
 have s07:=s06.trans s7
 have npH:=zD s06 np
 generalize upd H6 p (.lst [])=H7 at s7 eP s07 ⊢
 have B7:=B.same s07
 nofun
 first | refine ⟨a,A,b,rfl,B7,O,fun q8 ds H8 n8 t8 e8 up mem d64=>?_⟩ | refine ⟨B7,O,fun q8 ds H8 n8 t8 e8 up mem d64=>?_⟩
 have s68:=s7.trans t8
 have eP8:=t8 _ _ eP
 have n8p:q8≠p:=(zZ eP n8).symm
 have shn:∀ s∈shf b.g b.dues,0<=s.1:=fun s hs=>by
  obtain ⟨u,hu,rfl⟩:=yaf.mp hs
  have:=O.dn u hu
  have:=O.g0
  show 0<=u.1+b.g
  ac_rfl
 have kk:∀ (l:List (Int × Int)),((l.map (·.1)).Pairwise (·<·))->(∀ s∈l,0<=s.1)->((runs 0 l).Pairwise fun s t=>s.1<t.1)/\∀ s∈runs 0 l,0<=s.1:=fun l u n=>⟨zoV (by rw[zb0];exact u),fun s hs=>by
  have:s.1∈l.map (·.1):=by rw[<-zb0 l 0];exact yay hs
  obtain ⟨v,hv,e⟩:=yaf.mp this
  rw[<-e];exact n v hv⟩
 have kA:=kk (shf b.g b.dues) (zfv O.du) shn
 have kP:=kk b.pays O.pu O.pn
 nofun
 refine ⟨⟨_,SqL.of e8⟩,zcr (xs:=ds.map V.int) (fun i σ H'=>∃ (ws:List V) (z1 z2:Option V),(Same H6 H'/\H' p=some (.lst ws)/\H' q8=some (.lst (ds.map V.int)))/\R4 b H' ws (ds.take i)/\σ=[some (.ref a),some (.ref q1),some (.ref q2),some (.ref q3),some (.ref q4),some (.ref q6),some (.ref p),z1,z2])
  ⟨[],_,_,⟨s68,eP8,e8⟩,.nil,rfl⟩ ?_ ?_ ?_⟩
 ·rintro i σ H' _ ⟨ws,z1,z2,⟨_,_,e⟩,_⟩
  exact SqL.of e
 ·rintro i x σ H' hx ⟨ws,z1,z2,⟨sH,eP',e8'⟩,hW,rfl⟩
  rw[yaj] at hx
  obtain ⟨d,hd,rfl⟩:=Option.map_eq_some_iff.mp hx
  have il:i<ds.length:=(yac.mp hd).1
  have wl:=hW.length
  rw[yaq] at wl
  have tk:ds.take (i+1)=ds.take i++[d]:=by rw[ybe,hd];rfl
  have fin:∀ (x1 x2 x3:Int) (G:Hp) (v:Addr),x1=zeP b d->x2=zeN b d->x3=zeT b d->Same H' G->G v=some (.tup [.int d,.int x1,.int x2,.int x3])->G p=some (.lst ws)->(Same H6 (upd G p (.lst (ws++[.ref v])))/\(upd G p (.lst (ws++[.ref v]))) p=some (.lst (ws++[.ref v]))/\(upd G p (.lst (ws++[.ref v]))) q8=some (.lst (ds.map V.int)))/\R4 b (upd G p (.lst (ws++[.ref v]))) (ws++[.ref v]) (ds.take (i+1)):=fun x1 x2 x3 G v g1 g2 g3 sG ev eG=>by
   subst g1 g2 g3
   refine ⟨⟨zN (sH.trans sG) np,zf,by rw[zx n8p];exact sG _ _ e8'⟩,?_⟩
   rw[tk]
   exact LL.push ((hW.same sG).put eG) ⟨v,rfl,by rw[zx (zaW ev eG (by intro z;cases z))];exact ev⟩
  nofun
  refine ⟨q1,x1,b.spans,d,rfl,SqL.of (sH _ _ e16),r16.same sH,O.jn,?_⟩
  cases c:Spans.isIn b.spans d with
  | true =>
   nofun
   refine ⟨.inl ⟨rfl,_,SqL.of eP'⟩,?_⟩
   nofun
   intro v nv
   have sv:=zc nv (.tup [.int d,.int 0,.int 0,.int 0])
   refine ⟨p,_,_,rfl,rfl,sv _ _ eP',by ac_rfl,?_⟩
   obtain ⟨f1,f2⟩:=fin 0 0 0 _ v (by unfold zeP;rw[c];rfl) (by unfold zeN;rw[c];rfl) (by unfold zeT;rw[c];rfl) sv zf (sv _ _ eP')
   exact ⟨_,_,_,f1,f2,rfl⟩
  | false =>
   nofun
   refine ⟨q4,x4,runs 0 (shf b.g b.dues),d,rfl,SqL.of (sH _ _ e46),r46.same sH,kA.1,kA.2,?_⟩
   rw[za0 (zfv O.du) shn,zb7]
   nofun
   refine ⟨q6,x6,runs 0 b.pays,d,rfl,SqL.of (sH _ _ e6),r6.same sH,kP.1,kP.2,?_⟩
   rw[za0 O.pu O.pn]
   nofun
   refine ⟨.inl ⟨rfl,_,SqL.of eP'⟩,?_⟩
   nofun
   refine ⟨q2,x2,b.rates,d,rfl,SqL.of (sH _ _ e26),r26.same sH,O.ru,fun s hs=>(O.rn s hs).1,?_⟩
   nofun
   refine ⟨q3,x3,b.lates,d,rfl,SqL.of (sH _ _ e36),r36.same sH,O.lu,fun s hs=>(O.ln s hs).1,?_⟩
   nofun
   intro v nv
   have sv:=zc nv (.tup [.int d,.int (Sums.valOf b.rates d),.int (Sums.valOf b.lates d),.int (p0 (upto b.dues (d-b.g)-upto b.pays d))])
   refine ⟨p,_,_,rfl,rfl,sv _ _ eP',by ac_rfl,?_⟩
   obtain ⟨f1,f2⟩:=fin (Sums.valOf b.rates d) (Sums.valOf b.lates d) (p0 (upto b.dues (d-b.g)-upto b.pays d)) _ v (by unfold zeP;rw[c];rfl) (by unfold zeN;rw[c];rfl) (by unfold zeT;rw[c];rfl) sv zf (sv _ _ eP')
   exact ⟨_,_,_,f1,f2,rfl⟩
 ·rintro σ H' ⟨ws,z1,z2,⟨sH,eP',e8'⟩,hW,rfl⟩
  rw[yab,yck] at hW
  nofun
  exact h p ws ds H' npH (s06.trans sH) eP' hW up mem (by ac_rfl)
def zlr (K:W.Frag):Sp:=fun vs H Q _=>L2.Ee8 fun p dx t u m n d (q:Q4)=>L2.Aa5 (vs=[.ref p,.ref t]) (Deb K H p dx u m n) ((0<u/\u<1152921504606846976)) (H t=some (.tup [.int d,.int q.1,.int q.2.1,.int q.2.2.1,.int q.2.2.2])) (Q .non (upd H p (.ins (cA K "Debt") dx (zau u (doD u q (m,n)).1 (doD u q (m,n)).2))))
theorem zqQ:zj qbc qbc (zi zf5):=by walk_at "sp"
theorem zsE (S:Src K mg "do_deeds" zf5 qbc) (T:Txt K mg) (zhV:zt P w K mg base 3 (cA K "Debt") "lend" qac (zj4 K)) (ziR:zt P w K mg base 3 (cA K "Debt") "fee" qac (zlw K)) (zhR:zt P w K mg base 2 (cA K "Debt") "turn" qaa (zkH K)) (zhW:zt P w K mg base 3 (cA K "Debt") "take" qac (zkF K)):Def P w K mg base 4 "do_deeds" qbc (zlr K):=by
 exists S.ok,zqQ,0
 all_goals obtain ⟨p,dx,t,u,m,n,d,q,rfl,e,hu,ht,h⟩:=h
 ·rfl
 refine ⟨_,(zd (zao (zdv zhV T.zH hr (pv 0) (za (zB zap (pv 1) ze (fun _ _=>rfl)) zb)))
  (zd (zao (zdv ziR T.zH hr (pv 0) (za (zB zap (pv 1) ze (fun _ _=>rfl)) zb)))
  (zd (zP (zw zan (zB zap (pv 1) ze (fun _ _=>rfl)) ze (nomark _))
  (zg (zao (zv zhR T.zH hr (pv 0))))
   zJ)
  (zg (zao (zdv zhW T.zH hr (pv 0) (za (zB zap (pv 1) ze (fun _ _=>rfl)) zb))))))),?_⟩
 obtain ⟨x,f,w,y⟩:=q
 change H t=some (.tup [.int d,.int x,.int f,.int w,.int y]) at ht
 unfold doD at h
 dsimp only at h
 nofun
 refine ⟨p,dx,_,rfl,e,rfl,?_⟩
 nofun
 refine ⟨p,dx,u,m,n,x,rfl,e,hu,?_⟩
 generalize Dbt.step u .lend x m n=s1 at h ⊢
 have e1:Deb K (upd H p (.ins (cA K "Debt") dx (zau u s1.1 s1.2))) p dx u s1.1 s1.2:=zf
 have t1:=zi5 (K:=K) (o:=.ins (cA K "Debt") dx (zau u s1.1 s1.2)) e ht
 nofun
 refine ⟨p,dx,_,rfl,e1,rfl,?_⟩
 nofun
 refine ⟨p,dx,u,_,_,f,rfl,e1,hu,?_⟩
 rw[zX]
 generalize Dbt.step u .fee f s1.1 s1.2=s2 at h ⊢
 have e2:Deb K (upd H p (.ins (cA K "Debt") dx (zau u s2.1 s2.2))) p dx u s2.1 s2.2:=zf
 have t2:=zi5 (K:=K) (o:=.ins (cA K "Debt") dx (zau u s2.1 s2.2)) e ht
 clear e1 t1
 nofun
 ·rename_i c
  rw[if_pos c] at h
  refine ⟨p,dx,_,rfl,e2,rfl,p,dx,u,_,_,rfl,e2,hu,?_⟩
  rw[zX]
  generalize Dbt.step u .turn 0 s2.1 s2.2=s3 at h ⊢
  have e3:Deb K (upd H p (.ins (cA K "Debt") dx (zau u s3.1 s3.2))) p dx u s3.1 s3.2:=zf
  have t3:=zi5 (K:=K) (o:=.ins (cA K "Debt") dx (zau u s3.1 s3.2)) e ht
  nofun
  refine ⟨p,dx,_,rfl,e3,rfl,?_⟩
  nofun
  refine ⟨p,dx,u,_,_,y,rfl,e3,hu,?_⟩
  rw[zX]
  exact h
 ·rename_i c
  rw[if_neg c] at h
  refine ⟨p,dx,_,rfl,e2,rfl,?_⟩
  nofun
  refine ⟨p,dx,u,_,_,y,rfl,e2,hu,?_⟩
  rw[zX]
  exact h
noncomputable def Uk:Kd->Int->Int
 | .plain,d=>d
 | .bank,d=>d
 | .thirty,d=>Cnt.UT d
 | .exact,d=>Cnt.UE d
theorem zrN {kd:Kd} {a b:Int} (h0:0<=a) (ab:a<=b):Uk kd a<=Uk kd b:=by
 cases kd with
 | plain=>exact ab
 | bank=>exact ab
 | thirty=>exact Cnt.zwd h0 ab
 | exact=>exact Cnt.zwl h0 ab
theorem zsc {kd:Kd} {d:Int} (h0:0<=d) (h1:d<=1000000):-1<=Uk kd d/\Uk kd d<=1000000000:=by
 cases kd with
 | plain=>exact ⟨by show -1<=d;omega,by show d<=1000000000;omega⟩
 | bank=>exact ⟨by show -1<=d;omega,by show d<=1000000000;omega⟩
 | thirty=>exact Cnt.zw8 h0 h1
 | exact=>exact Cnt.zxB h0 h1
def zfs (kd:Kd) (K:W.Frag):Sp:=fun vs H Q _=>∃ a d,vs=[.ref a,.int d]/\zb4 K H a kd/\Q (.int (Uk kd d)) H
theorem zoA:zj qab qab (zi zbS):=by walk_at "sp"
theorem zku (kd:Kd) (hk:kd=.plain\/kd=.bank) (S:zp K (cA K kd.cls) "upto" "Count.upto" zbS qab) (T:Txt K mg)  : zt P w K mg base 4 (cA K kd.cls) "upto" qab (zfs kd K):=by
 exists S.ok,zoA,0
 all_goals obtain ⟨a,d,rfl,hc,h⟩:=h
 ·rfl
 refine ⟨_,(zg (zk (pv 1))),?_⟩
 rcases hk with rfl | rfl
 ·nofun
  exact h
 ·nofun
  exact h
theorem zeF:zj ["self", "day", "date", "months"] qab (zi zde):=by walk_at "sp"
theorem zol (kd:Kd) (hk:kd=.thirty) (S:zp K (cA K kd.cls) "upto" "Thirty.upto" zde qab) (T:Txt K mg) (zkq:Def P w K mg base 3 "date_of" qan (zmi K)):zt P w K mg base 4 (cA K kd.cls) "upto" qab (zfs kd K):=by
 subst hk
 exists S.okF,zeF,0
 all_goals obtain ⟨a,d,rfl,hc,h⟩:=h
 ·rfl
 refine ⟨_,(zd (zo (i:=2) zeF.nd rfl (by walk_at "lc") (zr zkq hr (za (pv 1) zb)))
  (zd (zo (i:=3) zeF.nd rfl (by walk_at "lc") (zh zV (zh zF (zh zar ze (zh zV (zB zap (pv 2) ze (fun _ _=>rfl)) (zbT T.zbU))) (zB zap (pv 2) ze (fun _ _=>rfl))) ze))
  (zg (zk (zh zV (zh zF (zh zar ze (pv 3)) (zE (zfx rfl) rfl T.zjF PyProof.Rows.boot_min (za (zB zap (pv 2) ze (fun _ _=>rfl)) (za ze zb)))) ze))))),?_⟩
 nofun
 intro y m r p D e np
 have s1:=zc np (.tup [.int y,.int m,.int r])
 have t1:(upd H p (.tup [.int y,.int m,.int r])) p=some (.tup [.int y,.int m,.int r]):=zf
 generalize upd H p (.tup [.int y,.int m,.int r])=H1 at s1 t1 ⊢
 nofun
 have e1:Uk .thirty d=30*(12*(y-2000)+m-1)+(if 30<r then 30 else r)-1:=Cnt.zoL ⟨y,m,r,D,e,rfl⟩
 rw[e1] at h
 first | exact h | exact ⟨s1,h⟩
theorem zfK:zj ["self", "day", "year", "each"] qab (zi zd5):=by walk_at "sp"
theorem zqn (kd:Kd) (hk:kd=.exact) (S:zp K (cA K kd.cls) "upto" "Exact.upto" zd5 qab) (T:Txt K mg) (zdL:Def P w K mg base 2 "year_of" qan (zjv K)) (zdH:Def P w K mg base 1 "is_leap" qai (zjz K)) (zb1:∀ kd:Kd,zt P w K mg base 1 (cA K kd.cls) "year" qaa (zcD kd K)) (zbg:Def P w K mg base 1 "new_year" qai (ze2 K)):zt P w K mg base 4 (cA K kd.cls) "upto" qab (zfs kd K):=by
 subst hk
 exists S.ok,zfK,0
 all_goals obtain ⟨a,d,rfl,hc,h⟩:=h
 ·rfl
 refine ⟨_,(zd (zo (i:=2) zfK.nd rfl (by walk_at "lc") (zr zdL hr (za (pv 1) zb)))
  (zd (zo (i:=3) zfK.nd rfl (by walk_at "lc") (zlU (zc6 (zr zdH hr (za (pv 2) zb))) ze ze))
  (zg (zk (zh zF (zh zar (zdM zb1 T.cls hr (pv 0)) (zh zV (pv 2) (zbT T.zbU))) (zh zar (pv 3) (zh zV (pv 1) (zr zbg hr (za (pv 2) zb))))))))),?_⟩
 nofun
 intro y h1 h2
 have e1:Uk .exact d=365*366*(y-2000)+Cnt.each y*(d-Cal.ny y):=Cnt.zoH ⟨y,h1,h2,rfl⟩
 nofun
 cases lp:Cal.leap y with
 | true =>
  have ee:Cnt.each y=365:=by unfold Cnt.each;rw[lp];rfl
  rw[ee] at e1
  rw[e1] at h
  nofun
  refine ⟨.exact,a,rfl,hc,?_⟩
  nofun
  exact h
 | false =>
  have ee:Cnt.each y=366:=by unfold Cnt.each;rw[lp];rfl
  rw[ee] at e1
  rw[e1] at h
  nofun
  refine ⟨.exact,a,rfl,hc,?_⟩
  nofun
  exact h
noncomputable def bG (c:Addr) (g:Int) (qs:List Addr):List (Str × V):=("own_count", V.ref c)::("own_grace", V.int g)::List.zipWith (fun (n:Str) q=>(n,V.ref q)) ["own_entries", "out_sums", "fee_sums", "pay_sums", "turn_days", "rate_rows", "late_rows", "spans", "due_sums"] qs
def zkG (K:W.Frag):Sp:=fun vs H Q _=>L2.Ee9 fun a dx c p kd g xs (es:List Er) G=>L2.zud (vs=[.ref a,.ref c,.int g,.ref p]) (H a=some (.ins (cA K "Book") dx [])) ((G a=none/\Same G H)) (zb4 K G c kd) ((0<=g/\g<=366)) (SqL K G p xs) (EL K G xs es) (es.length<=61) ((∀ e∈es,0<=e.2.1)) (∀ A (b:BkT) H',Same G H'->zaD K H' a A b->zbb b->b.kd=kd->b.g=g->b.es=es->Q .non H')
theorem zkU {r l:List (Int × Int)} (T:Sby.Tab r l):r.length<=l.length:=by
 have:=zg1 (Sby.zcW T.up) fun k hk=>(T.mem k).mp hk
 rw[yab,yab] at this
 exact this
theorem zpY:zj qbd qbd (zi zeY):=by walk_at "sp"
theorem zrn (S:zp K (cA K "Book") "__init__" "Book.__init__" zeY qbd) (T:Txt K mg) (zfG:Def P w K mg base 3 "check_terms" qba (ziB K)) (zct:Def P w K mg base 2 "sum_by" qaf (zj8 K)) (zko:Def P w K mg base 2 "days_of" qaf (zme K)) (zd2:Def P w K mg base 2 "rate_table" qaf (zjP K)) (zfH:Def P w K mg base 2 "still_spans" qbk (ziC K)) (zfW:Def P w K mg base 3 "fallen_dues" qbb (ziL K)):zt P w K mg base 4 (cA K "Book") "__init__" qbd (zkG K):=by
 exists S.ok,zpY,0
 all_goals obtain ⟨a,dx,c,p,kd,g,xs,es,G,rfl,ea,⟨na,sG⟩,hc,hg,hp,hE,hl,e0,h⟩:=h
 ·rfl
 refine ⟨_,(zd (zao (zr zfG hr (za (pv 1) (za (pv 2) zb))))
  (zd (zP (zw zfd (zE zam rfl T.zbD PySem.boot_len (za (pv 3) zb)) (zbT T.zet) (nomark _))
   zkj
   zJ)
  (zd (zaB T.zu T.zbM (pv 0) (pv 1))
  (zd (zaB T.zu T.zbO (pv 0) (pv 2))
  (zd (zaB T.zu T.zcn (pv 0) (zU zaO rfl T.zcg PyProof.Rows.boot_list (za (pv 3) zb)))
  (zd (zaB T.zu T.zbm (pv 0) (zr zct hr (za (pv 3) (za zC zb))))
  (zd (zaB T.zu T.zbp (pv 0) (zr zct hr (za (pv 3) (za zC zb))))
  (zd (zaB T.zu T.zbs (pv 0) (zr zct hr (za (pv 3) (za zC zb))))
  (zd (zaB T.zu T.zbe (pv 0) (zr zko hr (za (pv 3) (za zC zb))))
  (zd (zaB T.zu T.zbQ (pv 0) (zr zd2 hr (za (pv 3) (za zC zb))))
  (zd (zaB T.zu T.zbP (pv 0) (zr zd2 hr (za (pv 3) (za zC zb))))
  (zd (zaB T.zu T.zch (pv 0) (zr zfH hr (za (pv 3) zb)))
  (zg (zaB T.zu T.zb8 (pv 0) (zr zfW hr (za (pv 3) (za (zad T.zu T.zch (pv 0)) zb))))))))))))))))),?_⟩
 have sz:=sizeLine_eq
 have xl:=hE.length
 have pl:∀ w,(prs w es).length<=61:=fun w=>ydh ziG hl
 nofun
 refine ⟨c,kd,g,rfl,hc.same sG,hg,?_⟩
 have hp0:=sG.seq hp
 nofun
 ·ac_rfl
 refine ⟨a,dx,[],rfl,ea,by decide,?_⟩
 rw[show zaS ("own_count" : Str) (V.ref c) ([]:List (Str × V))=([("own_count", V.ref c)]:List (Str × V)) from rfl]
 nofun
 refine ⟨a,dx,_,rfl,zf,yde (ydc 1) (by decide),?_⟩
 rw[show zaS ("own_grace" : Str) (V.int g) ([("own_count", V.ref c)]:List (Str × V))=(bG c g []) from rfl]
 rw[zX]
 have e2:upd H a (.ins (cA K "Book") dx (bG c g [])) a=some (.ins (cA K "Book") dx (bG c g [])):=zf
 have s2:Same G (upd H a (.ins (cA K "Book") dx (bG c g []))):=zN sG na
 generalize upd H a (.ins (cA K "Book") dx (bG c g []))=H2 at e2 s2 ⊢
 nofun
 refine ⟨p,xs,rfl,.inl (s2.seq hp),fun q3 n3=>?_⟩
 have t3:=zc n3 (.lst xs)
 have z3:=zq (.lst xs) n3
 have c3:=t3 _ _ e2
 nofun
 refine ⟨a,dx,_,rfl,c3,yde (ydc 2) (by decide),?_⟩
 rw[show zaS ("own_entries" : Str) (V.ref q3) (bG c g [])=(bG c g [q3]) from rfl]
 have k3:Same (wo H2 a) (wo (upd (upd H2 q3 (.lst xs)) a (.ins (cA K "Book") dx (bG c g [q3]))) a):=zcZ t3
 have s3:Same G (upd (upd H2 q3 (.lst xs)) a (.ins (cA K "Book") dx (bG c g [q3]))):=zN (s2.trans t3) na
 have e3:(upd (upd H2 q3 (.lst xs)) a (.ins (cA K "Book") dx (bG c g [q3]))) a=some (.ins (cA K "Book") dx (bG c g [q3])):=zf
 have L3:wo (upd (upd H2 q3 (.lst xs)) a (.ins (cA K "Book") dx (bG c g [q3]))) a q3=some (.lst xs):=by rw[zc7];exact zoQ z3 c3
 generalize upd (upd H2 q3 (.lst xs)) a (.ins (cA K "Book") dx (bG c g [q3]))=H3 at k3 s3 e3 L3 ⊢
 nofun
 refine ⟨p,xs,es, "out", rfl,s3.seq hp,hE.same s3,hl,.inl rfl,fun q4 G4 w4 r4 n4 t4 z4 R4 T4=>?_⟩
 have c4:=t4 _ _ e3
 nofun
 refine ⟨a,dx,_,rfl,c4,yde (ydc 3) (by decide),?_⟩
 rw[show zaS ("out_sums" : Str) (V.ref q4) (bG c g [q3])=(bG c g [q3,q4]) from rfl]
 have k4:Same (wo H3 a) (wo (upd G4 a (.ins (cA K "Book") dx (bG c g [q3,q4]))) a):=zcZ t4
 have s4:Same G (upd G4 a (.ins (cA K "Book") dx (bG c g [q3,q4]))):=zN (s3.trans t4) na
 have e4:(upd G4 a (.ins (cA K "Book") dx (bG c g [q3,q4]))) a=some (.ins (cA K "Book") dx (bG c g [q3,q4])):=zf
 have L4:LP K (wo (upd G4 a (.ins (cA K "Book") dx (bG c g [q3,q4]))) a) q4 r4:=by rw[zc7];exact LP.wo ⟨w4,z4,R4,(by have:=zkU T4;have:=pl "out";ac_rfl)⟩ c4
 generalize upd G4 a (.ins (cA K "Book") dx (bG c g [q3,q4]))=H4 at k4 s4 e4 L4 ⊢
 nofun
 refine ⟨p,xs,es, "fee", rfl,s4.seq hp,hE.same s4,hl,.inr (.inl rfl),fun q5 G5 w5 r5 n5 t5 z5 R5 T5=>?_⟩
 have c5:=t5 _ _ e4
 nofun
 refine ⟨a,dx,_,rfl,c5,yde (ydc 4) (by decide),?_⟩
 rw[show zaS ("fee_sums" : Str) (V.ref q5) (bG c g [q3,q4])=(bG c g [q3,q4,q5]) from rfl]
 have k5:Same (wo H4 a) (wo (upd G5 a (.ins (cA K "Book") dx (bG c g [q3,q4,q5]))) a):=zcZ t5
 have s5:Same G (upd G5 a (.ins (cA K "Book") dx (bG c g [q3,q4,q5]))):=zN (s4.trans t5) na
 have e5:(upd G5 a (.ins (cA K "Book") dx (bG c g [q3,q4,q5]))) a=some (.ins (cA K "Book") dx (bG c g [q3,q4,q5])):=zf
 have L5:LP K (wo (upd G5 a (.ins (cA K "Book") dx (bG c g [q3,q4,q5]))) a) q5 r5:=by rw[zc7];exact LP.wo ⟨w5,z5,R5,(by have:=zkU T5;have:=pl "fee";ac_rfl)⟩ c5
 generalize upd G5 a (.ins (cA K "Book") dx (bG c g [q3,q4,q5]))=H5 at k5 s5 e5 L5 ⊢
 nofun
 refine ⟨p,xs,es, "pay", rfl,s5.seq hp,hE.same s5,hl,.inr (.inr (.inl rfl)),fun q6 G6 w6 r6 n6 t6 z6 R6 T6=>?_⟩
 have c6:=t6 _ _ e5
 nofun
 refine ⟨a,dx,_,rfl,c6,yde (ydc 5) (by decide),?_⟩
 rw[show zaS ("pay_sums" : Str) (V.ref q6) (bG c g [q3,q4,q5])=(bG c g [q3,q4,q5,q6]) from rfl]
 have k6:Same (wo H5 a) (wo (upd G6 a (.ins (cA K "Book") dx (bG c g [q3,q4,q5,q6]))) a):=zcZ t6
 have s6:Same G (upd G6 a (.ins (cA K "Book") dx (bG c g [q3,q4,q5,q6]))):=zN (s5.trans t6) na
 have e6:(upd G6 a (.ins (cA K "Book") dx (bG c g [q3,q4,q5,q6]))) a=some (.ins (cA K "Book") dx (bG c g [q3,q4,q5,q6])):=zf
 have L6:LP K (wo (upd G6 a (.ins (cA K "Book") dx (bG c g [q3,q4,q5,q6]))) a) q6 r6:=by rw[zc7];exact LP.wo ⟨w6,z6,R6,(by have:=zkU T6;have:=pl "pay";ac_rfl)⟩ c6
 generalize upd G6 a (.ins (cA K "Book") dx (bG c g [q3,q4,q5,q6]))=H6 at k6 s6 e6 L6 ⊢
 nofun
 refine ⟨p,xs,es, "turn", rfl,s6.seq hp,hE.same s6,hl,fun q7 G7 r7 n7 t7 z7 T7=>?_⟩
 have c7:=t7 _ _ e6
 nofun
 refine ⟨a,dx,_,rfl,c7,yde (ydc 6) (by decide),?_⟩
 rw[show zaS ("turn_days" : Str) (V.ref q7) (bG c g [q3,q4,q5,q6])=(bG c g [q3,q4,q5,q6,q7]) from rfl]
 have k7:Same (wo H6 a) (wo (upd G7 a (.ins (cA K "Book") dx (bG c g [q3,q4,q5,q6,q7]))) a):=zcZ t7
 have s7:Same G (upd G7 a (.ins (cA K "Book") dx (bG c g [q3,q4,q5,q6,q7]))):=zN (s6.trans t7) na
 have e7:(upd G7 a (.ins (cA K "Book") dx (bG c g [q3,q4,q5,q6,q7]))) a=some (.ins (cA K "Book") dx (bG c g [q3,q4,q5,q6,q7])):=zf
 have L7:wo (upd G7 a (.ins (cA K "Book") dx (bG c g [q3,q4,q5,q6,q7]))) a q7=some (.lst (r7.map V.int)):=by rw[zc7];exact zoQ z7 c7
 generalize upd G7 a (.ins (cA K "Book") dx (bG c g [q3,q4,q5,q6,q7]))=H7 at k7 s7 e7 L7 ⊢
 nofun
 refine ⟨p,xs,es, "rate", rfl,s7.seq hp,hE.same s7,hl,.inl rfl,e0,fun q8 G8 w8 r8 n8 t8 z8 R8 T8 T8' y8=>?_⟩
 have c8:=t8 _ _ e7
 nofun
 refine ⟨a,dx,_,rfl,c8,yde (ydc 7) (by decide),?_⟩
 rw[show zaS ("rate_rows" : Str) (V.ref q8) (bG c g [q3,q4,q5,q6,q7])=(bG c g [q3,q4,q5,q6,q7,q8]) from rfl]
 have k8:Same (wo H7 a) (wo (upd G8 a (.ins (cA K "Book") dx (bG c g [q3,q4,q5,q6,q7,q8]))) a):=zcZ t8
 have s8:Same G (upd G8 a (.ins (cA K "Book") dx (bG c g [q3,q4,q5,q6,q7,q8]))):=zN (s7.trans t8) na
 have e8:(upd G8 a (.ins (cA K "Book") dx (bG c g [q3,q4,q5,q6,q7,q8]))) a=some (.ins (cA K "Book") dx (bG c g [q3,q4,q5,q6,q7,q8])):=zf
 have L8:LP K (wo (upd G8 a (.ins (cA K "Book") dx (bG c g [q3,q4,q5,q6,q7,q8]))) a) q8 r8:=by rw[zc7];exact LP.wo ⟨w8,z8,R8,(by ac_rfl)⟩ c8
 generalize upd G8 a (.ins (cA K "Book") dx (bG c g [q3,q4,q5,q6,q7,q8]))=H8 at k8 s8 e8 L8 ⊢
 nofun
 refine ⟨p,xs,es, "late", rfl,s8.seq hp,hE.same s8,hl,.inr rfl,e0,fun q9 G9 w9 r9 n9 t9 z9 R9 T9 T9' y9=>?_⟩
 have c9:=t9 _ _ e8
 nofun
 refine ⟨a,dx,_,rfl,c9,yde (ydc 8) (by decide),?_⟩
 rw[show zaS ("late_rows" : Str) (V.ref q9) (bG c g [q3,q4,q5,q6,q7,q8])=(bG c g [q3,q4,q5,q6,q7,q8,q9]) from rfl]
 have k9:Same (wo H8 a) (wo (upd G9 a (.ins (cA K "Book") dx (bG c g [q3,q4,q5,q6,q7,q8,q9]))) a):=zcZ t9
 have s9:Same G (upd G9 a (.ins (cA K "Book") dx (bG c g [q3,q4,q5,q6,q7,q8,q9]))):=zN (s8.trans t9) na
 have e9:(upd G9 a (.ins (cA K "Book") dx (bG c g [q3,q4,q5,q6,q7,q8,q9]))) a=some (.ins (cA K "Book") dx (bG c g [q3,q4,q5,q6,q7,q8,q9])):=zf
 have L9:LP K (wo (upd G9 a (.ins (cA K "Book") dx (bG c g [q3,q4,q5,q6,q7,q8,q9]))) a) q9 r9:=by rw[zc7];exact LP.wo ⟨w9,z9,R9,(by ac_rfl)⟩ c9
 generalize upd G9 a (.ins (cA K "Book") dx (bG c g [q3,q4,q5,q6,q7,q8,q9]))=H9 at k9 s9 e9 L9 ⊢
 nofun
 refine ⟨p,xs,es,rfl,s9.seq hp,hE.same s9,hl,fun q10 G10 w10 r10 n10 t10 z10 R10 J10 V10 y10=>?_⟩
 have c10:=t10 _ _ e9
 nofun
 refine ⟨a,dx,_,rfl,c10,yde (ydc 9) (by decide),?_⟩
 rw[show zaS ("spans" : Str) (V.ref q10) (bG c g [q3,q4,q5,q6,q7,q8,q9])=(bG c g [q3,q4,q5,q6,q7,q8,q9,q10]) from rfl]
 have k10:Same (wo H9 a) (wo (upd G10 a (.ins (cA K "Book") dx (bG c g [q3,q4,q5,q6,q7,q8,q9,q10]))) a):=zcZ t10
 have s10:Same G (upd G10 a (.ins (cA K "Book") dx (bG c g [q3,q4,q5,q6,q7,q8,q9,q10]))):=zN (s9.trans t10) na
 have e10:(upd G10 a (.ins (cA K "Book") dx (bG c g [q3,q4,q5,q6,q7,q8,q9,q10]))) a=some (.ins (cA K "Book") dx (bG c g [q3,q4,q5,q6,q7,q8,q9,q10])):=zf
 have L10:LP K (wo (upd G10 a (.ins (cA K "Book") dx (bG c g [q3,q4,q5,q6,q7,q8,q9,q10]))) a) q10 r10:=by rw[zc7];exact LP.wo ⟨w10,z10,R10,(by ac_rfl)⟩ c10
 generalize upd G10 a (.ins (cA K "Book") dx (bG c g [q3,q4,q5,q6,q7,q8,q9,q10]))=H10 at k10 s10 e10 L10 ⊢
 nofun
 refine ⟨a,dx,_,_,rfl,e10,rfl,?_⟩
 nofun
 obtain ⟨w10',z10',R10',_⟩:=L10.same zcm
 refine ⟨p,q10,xs,w10',es,r10,rfl,s10.seq hp,hE.same s10,hl,⟨SqL.of z10',R10',J10⟩,fun q11 G11 w11 r11 n11 t11 z11 R11 T11=>?_⟩
 rw[zvC V10] at T11
 have c11:=t11 _ _ e10
 nofun
 refine ⟨a,dx,_,rfl,c11,yde (ydc 10) (by decide),?_⟩
 rw[show zaS ("due_sums" : Str) (V.ref q11) (bG c g [q3,q4,q5,q6,q7,q8,q9,q10])=(bG c g [q3,q4,q5,q6,q7,q8,q9,q10,q11]) from rfl]
 have k11:Same (wo H10 a) (wo (upd G11 a (.ins (cA K "Book") dx (bG c g [q3,q4,q5,q6,q7,q8,q9,q10,q11]))) a):=zcZ t11
 have s11:Same G (upd G11 a (.ins (cA K "Book") dx (bG c g [q3,q4,q5,q6,q7,q8,q9,q10,q11]))):=zN (s10.trans t11) na
 have e11:(upd G11 a (.ins (cA K "Book") dx (bG c g [q3,q4,q5,q6,q7,q8,q9,q10,q11]))) a=some (.ins (cA K "Book") dx (bG c g [q3,q4,q5,q6,q7,q8,q9,q10,q11])):=zf
 have L11:LP K (wo (upd G11 a (.ins (cA K "Book") dx (bG c g [q3,q4,q5,q6,q7,q8,q9,q10,q11]))) a) q11 r11:=by rw[zc7];exact LP.wo ⟨w11,z11,R11,(by have:=zkU T11;have:(mvp (mvd (prs "still" es)) (prs "due" es)).length=(prs "due" es).length:=yab ..;have:=pl "due";ac_rfl)⟩ c11
 generalize upd G11 a (.ins (cA K "Book") dx (bG c g [q3,q4,q5,q6,q7,q8,q9,q10,q11]))=H11 at k11 s11 e11 L11 ⊢
 nofun
 refine h ⟨dx,c,q3,q4,q5,q6,q7,q8,q9,q10,q11⟩ ⟨kd,g,es,r4,r5,r6,r7,r8,r9,r10,r11⟩ H11 s11 ⟨e11,hc.same s11,⟨xs,(k4.trans (k5.trans (k6.trans (k7.trans (k8.trans (k9.trans (k10.trans (k11.trans zcm)))))))) _ _ L3,hE.same s11⟩,L4.same (k5.trans (k6.trans (k7.trans (k8.trans (k9.trans (k10.trans (k11.trans zcm))))))),L5.same (k6.trans (k7.trans (k8.trans (k9.trans (k10.trans (k11.trans zcm)))))),L6.same (k7.trans (k8.trans (k9.trans (k10.trans (k11.trans zcm))))),(k8.trans (k9.trans (k10.trans (k11.trans zcm)))) _ _ L7,L8.same (k9.trans (k10.trans (k11.trans zcm))),L9.same (k10.trans (k11.trans zcm)),L10.same (k11.trans zcm),L11.same zcm⟩ ⟨T4,T5,T6,T7,⟨T8,T8'⟩,⟨T9,T9'⟩,⟨J10,V10⟩,T11⟩ rfl rfl rfl
def zjU (K:W.Frag):Sp:=fun vs H Q _=>L2.Ee4 fun r k d x=>L2.Aa4 (vs=[.ref r]) (H r=some (.tup (zc4 k d x))) (k≠.base) (∀ a dx H',Same H H'->H a=none->zkX K H' a dx k d x->Q (.ref a) H')
theorem zdo:zj ["_law_spec_here", "_law_word", "_law_day", "_law_thing"] qbp (zi zdY):=by walk_at "sp"
theorem zpc (S:Src K mg "_law_entry" zdY qbp) (T:Txt K mg) (zi9:zt P w K mg base 2 (cA K "Out") "__init__" qaj (za2 K)) (ziW:zt P w K mg base 2 (cA K "Pay") "__init__" qaj (za2 K)) (ziQ:zt P w K mg base 2 (cA K "Due") "__init__" qaj (za2 K)) (zjo:zt P w K mg base 2 (cA K "Fee") "__init__" qaj (za2 K)) (zig:zt P w K mg base 2 (cA K "Rate") "__init__" qap (zc0 K)) (zh3:zt P w K mg base 2 (cA K "Late") "__init__" qap (zc0 K)) (zgY:zt P w K mg base 2 (cA K "Still") "__init__" qay (zjS K)) (zhP:zt P w K mg base 1 (cA K "Turn") "__init__" qab (zbx K)):Def P w K mg base 4 "_law_entry" qbp (zjU K):=by
 exists S.ok,zdo,0
 all_goals obtain ⟨r,k,d,x,rfl,e,h2,h⟩:=h
 ·rfl
 refine ⟨_,(zd (zmF (pv 0) (zjZ rfl (zaX (zac (i:=1) zdo.nd rfl (by walk_at "lc")) (zaX (zac (i:=2) zdo.nd rfl (by walk_at "lc")) (zaX (zac (i:=3) zdo.nd rfl (by walk_at "lc")) ziz)))))
  (zd (zP (zw zan (pv 1) zC (nomark _))
  (zg (zk (zbn T.zo5 zi9 hr T.zsN (za (pv 2) (za (pv 3) zb)))))
   zJ)
  (zd (zP (zw zan (pv 1) zC (nomark _))
  (zg (zk (zbn T.zpn ziW hr T.zsO (za (pv 2) (za (pv 3) zb)))))
   zJ)
  (zd (zP (zw zan (pv 1) zC (nomark _))
  (zg (zk (zbn T.zpf ziQ hr T.zsb (za (pv 2) (za (pv 3) zb)))))
   zJ)
  (zd (zP (zw zan (pv 1) zC (nomark _))
  (zg (zk (zbn T.zp5 zjo hr T.zsB (za (pv 2) (za (pv 3) zb)))))
   zJ)
  (zd (zP (zw zan (pv 1) zC (nomark _))
  (zg (zk (zbn T.zmP zig hr T.zp6 (za (pv 2) (za (pv 3) zb)))))
   zJ)
  (zd (zP (zw zan (pv 1) zC (nomark _))
  (zg (zk (zbn T.zm6 zh3 hr T.zqo (za (pv 2) (za (pv 3) zb)))))
   zJ)
  (zd (zP (zw zan (pv 1) zC (nomark _))
  (zg (zk (zbn T.zlO zgY hr T.zmI (za (pv 2) (za (pv 3) zb)))))
   zJ)
  (zg (zk (zbn T.znd zhP hr T.zpK (za (pv 2) zb)))))))))))),?_⟩
 cases k with
 | base=>exact absurd rfl h2
 | turn =>
  dsimp only [zc4,Ek.word] at e
  nofun
  refine ⟨r,_,rfl,SqT.of e,rfl,?_⟩
  nofun
  intro a dx na nd ne
  refine ⟨a,_,dx,[],d,rfl,zf,T.clE .turn,T.zbk .turn,by decide,rfl,?_⟩
  rw[zX]
  exact h a dx _ ((zc nd _).trans (zc (by rw[zx ne.symm];exact na) _)) na zf
 | out =>
  dsimp only [zc4,Ek.word] at e
  nofun
  refine ⟨r,_,rfl,SqT.of e,rfl,?_⟩
  nofun
  intro a dx na nd ne
  refine ⟨a,_,dx,d,x,rfl,zf,T.clE .out,T.zbk .out,T.zeq .out,rfl,?_⟩
  rw[zX]
  nofun
  exact h a dx _ ((zc nd _).trans (zc (by rw[zx ne.symm];exact na) _)) na zf
 | fee =>
  dsimp only [zc4,Ek.word] at e
  nofun
  refine ⟨r,_,rfl,SqT.of e,rfl,?_⟩
  nofun
  intro a dx na nd ne
  refine ⟨a,_,dx,d,x,rfl,zf,T.clE .fee,T.zbk .fee,T.zeq .fee,rfl,?_⟩
  rw[zX]
  nofun
  exact h a dx _ ((zc nd _).trans (zc (by rw[zx ne.symm];exact na) _)) na zf
 | pay =>
  dsimp only [zc4,Ek.word] at e
  nofun
  refine ⟨r,_,rfl,SqT.of e,rfl,?_⟩
  nofun
  intro a dx na nd ne
  refine ⟨a,_,dx,d,x,rfl,zf,T.clE .pay,T.zbk .pay,T.zeq .pay,rfl,?_⟩
  rw[zX]
  nofun
  exact h a dx _ ((zc nd _).trans (zc (by rw[zx ne.symm];exact na) _)) na zf
 | due =>
  dsimp only [zc4,Ek.word] at e
  nofun
  refine ⟨r,_,rfl,SqT.of e,rfl,?_⟩
  nofun
  intro a dx na nd ne
  refine ⟨a,_,dx,d,x,rfl,zf,T.clE .due,T.zbk .due,T.zeq .due,rfl,?_⟩
  rw[zX]
  nofun
  exact h a dx _ ((zc nd _).trans (zc (by rw[zx ne.symm];exact na) _)) na zf
 | rate =>
  dsimp only [zc4,Ek.word] at e
  nofun
  refine ⟨r,_,rfl,SqT.of e,rfl,?_⟩
  nofun
  intro a dx na nd ne
  refine ⟨a,_,dx,d,x,rfl,zf,T.clE .rate,T.zbk .rate,T.zlL .rate,rfl,?_⟩
  rw[zX]
  nofun
  exact h a dx _ ((zc nd _).trans (zc (by rw[zx ne.symm];exact na) _)) na zf
 | late =>
  dsimp only [zc4,Ek.word] at e
  nofun
  refine ⟨r,_,rfl,SqT.of e,rfl,?_⟩
  nofun
  intro a dx na nd ne
  refine ⟨a,_,dx,d,x,rfl,zf,T.clE .late,T.zbk .late,T.zlL .late,rfl,?_⟩
  rw[zX]
  nofun
  exact h a dx _ ((zc nd _).trans (zc (by rw[zx ne.symm];exact na) _)) na zf
 | still =>
  dsimp only [zc4,Ek.word] at e
  nofun
  refine ⟨r,_,rfl,SqT.of e,rfl,?_⟩
  nofun
  intro a dx na nd ne
  refine ⟨a,_,dx,d,x,rfl,zf,T.clE .still,T.zbk .still,T.zkm .still,rfl,?_⟩
  rw[zX]
  nofun
  exact h a dx _ ((zc nd _).trans (zc (by rw[zx ne.symm];exact na) _)) na zf
def zdJ (K:W.Frag):Sp:=fun vs H Q _=>L2.Ee6 fun a A (b:BkT) a' A' (c:BkT)=>L2.Aa4 (vs=[.ref a,.ref a']) ((zaD K H a A b/\BOk b)) ((zaD K H a' A' c/\BOk c)) (∀ v:Bool,(v=true↔(∀ d:Int,0<=d->d<=999999->chv b.rates b.spans d<=chv c.rates c.spans d)/\∀ d:Int,0<=d->d<=999999->chv b.lates b.spans d<=chv c.lates c.spans d)->Q (.bl v) H)
theorem zbX:zj ["one", "other", "rates", "lates"] qad (zi zbh):=by walk_at "sp"
theorem zi7 (S:Src K mg "is_charged_no_more" zbh qad) (T:Txt K mg) (zay:Def P w K mg base 3 "is_never_above" qad (zc1 K)) (zcT:Def P w K mg base 4 "charging" qbo (zlo K)) (zaq:zt P w K mg base 1 (cA K "Book") "stills" qaa (zcK K)) (zaQ:zt P w K mg base 1 (cA K "Book") "rates" qaa (zdm K)) (zaM:zt P w K mg base 1 (cA K "Book") "lates" qaa (zdn K)):Def P w K mg base 5 "is_charged_no_more" qad (zdJ K):=by
 exists S.okF,zbX,0
 all_goals obtain ⟨a,A,b,a',A',c,rfl,⟨B,O⟩,⟨C,O'⟩,h⟩:=h
 ·rfl
 refine ⟨_,(zd (zo (i:=2) zbX.nd rfl (by walk_at "lc") (zr zay hr (za (zr zcT hr (za (zv zaQ T.zu hr (pv 0)) (za (zv zaq T.zu hr (pv 0)) zb))) (za (zr zcT hr (za (zv zaQ T.zu hr (pv 1)) (za (zv zaq T.zu hr (pv 1)) zb))) zb))))
  (zd (zo (i:=3) zbX.nd rfl (by walk_at "lc") (zr zay hr (za (zr zcT hr (za (zv zaM T.zu hr (pv 0)) (za (zv zaq T.zu hr (pv 0)) zb))) (za (zr zcT hr (za (zv zaM T.zu hr (pv 1)) (za (zv zaq T.zu hr (pv 1)) zb))) zb))))
  (zg (zk (zfu (pv 2) (zfr (pv 3))))))),?_⟩
 have sz:=sizeLine_eq
 nofun
 have B1:=B.same (Same.refl _)
 refine ⟨a,A.dx,_,rfl,B1.ins,rfl,a,A,b,rfl,B1,fun q1 x1 nq1 r1 l1=>?_⟩
 have t1:=zc nq1 (.lst x1)
 have e1:=zq (.lst x1) nq1
 have R1:=r1.same t1
 generalize upd H q1 (.lst x1)=H1 at t1 e1 R1 ⊢
 nofun
 have B2:=B.same (t1)
 refine ⟨a,A.dx,_,rfl,B2.ins,rfl,a,A,b,rfl,B2,fun q2 x2 nq2 r2 l2=>?_⟩
 have t2:=zc nq2 (.lst x2)
 have e2:=zq (.lst x2) nq2
 have R2:=r2.same t2
 generalize upd H1 q2 (.lst x2)=H2 at t2 e2 R2 ⊢
 nofun
 refine ⟨q1,q2,x1,x2,b.rates,b.spans,rfl,⟨t2 _ _ e1,R1.same t2,O.ru,fun s hs=>(O.rn s hs).1⟩,⟨e2,R2,O.jn⟩,by have:=O.sz;ac_rfl,fun p3 w3 v3 H3 np3 t3 e3 R3 l3 up3 nn3 vv3=>?_⟩
 nofun
 have C4:=C.same (t1.trans (t2.trans (t3)))
 refine ⟨a',A'.dx,_,rfl,C4.ins,rfl,a',A',c,rfl,C4,fun q4 x4 nq4 r4 l4=>?_⟩
 have t4:=zc nq4 (.lst x4)
 have e4:=zq (.lst x4) nq4
 have R4:=r4.same t4
 generalize upd H3 q4 (.lst x4)=H4 at t4 e4 R4 ⊢
 nofun
 have C5:=C.same (t1.trans (t2.trans (t3.trans (t4))))
 refine ⟨a',A'.dx,_,rfl,C5.ins,rfl,a',A',c,rfl,C5,fun q5 x5 nq5 r5 l5=>?_⟩
 have t5:=zc nq5 (.lst x5)
 have e5:=zq (.lst x5) nq5
 have R5:=r5.same t5
 generalize upd H4 q5 (.lst x5)=H5 at t5 e5 R5 ⊢
 nofun
 refine ⟨q4,q5,x4,x5,c.rates,c.spans,rfl,⟨t5 _ _ e4,R4.same t5,O'.ru,fun s hs=>(O'.rn s hs).1⟩,⟨e5,R5,O'.jn⟩,by have:=O'.sz;ac_rfl,fun p6 w6 v6 H6 np6 t6 e6 R6 l6 up6 nn6 vv6=>?_⟩
 nofun
 refine ⟨p3,p6,w3,w6,v3,v6,rfl,⟨(t4.trans (t5.trans t6)) _ _ e3,R3.same (t4.trans (t5.trans t6)),l3,up3,nn3⟩,⟨e6,R6,l6,up6,nn6⟩,fun b1 hb1=>?_⟩
 have k1:b1=true↔∀ d:Int,0<=d->d<=999999->chv b.rates b.spans d<=chv c.rates c.spans d:=hb1.trans ⟨fun z d d0 d1=>by rw[<-vv3 d d0 d1,<-vv6 d d0 d1];exact z d d0 d1,fun z d d0 d1=>by rw[vv3 d d0 d1,vv6 d d0 d1];exact z d d0 d1⟩
 nofun
 have B7:=B.same (t1.trans (t2.trans (t3.trans (t4.trans (t5.trans (t6))))))
 refine ⟨a,A.dx,_,rfl,B7.ins,rfl,a,A,b,rfl,B7,fun q7 x7 nq7 r7 l7=>?_⟩
 have t7:=zc nq7 (.lst x7)
 have e7:=zq (.lst x7) nq7
 have R7:=r7.same t7
 generalize upd H6 q7 (.lst x7)=H7 at t7 e7 R7 ⊢
 nofun
 have B8:=B.same (t1.trans (t2.trans (t3.trans (t4.trans (t5.trans (t6.trans (t7)))))))
 refine ⟨a,A.dx,_,rfl,B8.ins,rfl,a,A,b,rfl,B8,fun q8 x8 nq8 r8 l8=>?_⟩
 have t8:=zc nq8 (.lst x8)
 have e8:=zq (.lst x8) nq8
 have R8:=r8.same t8
 generalize upd H7 q8 (.lst x8)=H8 at t8 e8 R8 ⊢
 nofun
 refine ⟨q7,q8,x7,x8,b.lates,b.spans,rfl,⟨t8 _ _ e7,R7.same t8,O.lu,fun s hs=>(O.ln s hs).1⟩,⟨e8,R8,O.jn⟩,by have:=O.sz;ac_rfl,fun p9 w9 v9 H9 np9 t9 e9 R9 l9 up9 nn9 vv9=>?_⟩
 nofun
 have C10:=C.same (t1.trans (t2.trans (t3.trans (t4.trans (t5.trans (t6.trans (t7.trans (t8.trans (t9)))))))))
 refine ⟨a',A'.dx,_,rfl,C10.ins,rfl,a',A',c,rfl,C10,fun q10 x10 nq10 r10 l10=>?_⟩
 have t10:=zc nq10 (.lst x10)
 have e10:=zq (.lst x10) nq10
 have R10:=r10.same t10
 generalize upd H9 q10 (.lst x10)=H10 at t10 e10 R10 ⊢
 nofun
 have C11:=C.same (t1.trans (t2.trans (t3.trans (t4.trans (t5.trans (t6.trans (t7.trans (t8.trans (t9.trans (t10))))))))))
 refine ⟨a',A'.dx,_,rfl,C11.ins,rfl,a',A',c,rfl,C11,fun q11 x11 nq11 r11 l11=>?_⟩
 have t11:=zc nq11 (.lst x11)
 have e11:=zq (.lst x11) nq11
 have R11:=r11.same t11
 generalize upd H10 q11 (.lst x11)=H11 at t11 e11 R11 ⊢
 nofun
 refine ⟨q10,q11,x10,x11,c.lates,c.spans,rfl,⟨t11 _ _ e10,R10.same t11,O'.lu,fun s hs=>(O'.ln s hs).1⟩,⟨e11,R11,O'.jn⟩,by have:=O'.sz;ac_rfl,fun p12 w12 v12 H12 np12 t12 e12 R12 l12 up12 nn12 vv12=>?_⟩
 nofun
 refine ⟨p9,p12,w9,w12,v9,v12,rfl,⟨(t10.trans (t11.trans t12)) _ _ e9,R9.same (t10.trans (t11.trans t12)),l9,up9,nn9⟩,⟨e12,R12,l12,up12,nn12⟩,fun b2 hb2=>?_⟩
 have k2:b2=true↔∀ d:Int,0<=d->d<=999999->chv b.lates b.spans d<=chv c.lates c.spans d:=hb2.trans ⟨fun z d d0 d1=>by rw[<-vv9 d d0 d1,<-vv12 d d0 d1];exact z d d0 d1,fun z d d0 d1=>by rw[vv9 d d0 d1,vv12 d d0 d1];exact z d d0 d1⟩
 have sH:=t1.trans (t2.trans (t3.trans (t4.trans (t5.trans (t6.trans (t7.trans (t8.trans (t9.trans (t10.trans (t11.trans (t12)))))))))))
 nofun
 cases b1 with
 | false=>exact ⟨sH,h false ⟨(fun z=>by cases z),fun z=>absurd (k1.mpr z.1) (by decide)⟩⟩
 | true =>
  nofun
  exact h b2 ⟨fun z=>⟨k1.mp rfl,k2.mp z⟩,fun z=>k2.mpr z.2⟩
noncomputable def uB (b:BkT):Int:=10000*yr b.kd
abbrev AB (b:BkT):Prop:=zwR (Uk b.kd) (uB b) b
noncomputable abbrev zY (b:BkT) (d:Int):Int × Int:=stA (Uk b.kd) (uB b) b d.toNat
def zh2 (kd:Kd) (K:W.Frag):Sp:=fun vs H Q _=>∃ a x y,vs=[.ref a,.int x,.int y]/\zb4 K H a kd/\Q (.int (Uk kd y-Uk kd x)) H
theorem zmB:zj qam qam (zi zaA):=by walk_at "sp"
theorem zcI (kd:Kd) (hk:kd=.plain\/kd=.bank\/kd=.thirty\/kd=.exact) (S:zp K (cA K kd.cls) "weight" "Count.weight" zaA qam) (T:Txt K mg) (zdC:∀ kd:Kd,zt P w K mg base 4 (cA K kd.cls) "upto" qab (zfs kd K)):zt P w K mg base 5 (cA K kd.cls) "weight" qam (zh2 kd K):=by
 exists S.ok,zmB,0
 all_goals obtain ⟨a,x,y,rfl,hc,h⟩:=h
 ·rfl
 refine ⟨_,(zg (zk (zh zV (zlZ zdC T.cls hr (pv 0) (za (pv 2) zb)) (zlZ zdC T.cls hr (pv 0) (za (pv 1) zb))))),?_⟩
 nofun
 refine ⟨kd,a,rfl,hc,?_⟩
 nofun
 refine ⟨kd,a,rfl,hc,?_⟩
 nofun
 exact h
theorem zws:∀ k c:Kd,V.str (nm k)=V.str (nm c)->k=c:=by
 intro k c
 cases k <;> cases c <;> first | exact fun _=>rfl | (intro h;injection h with h;exact absurd h (by decide +kernel))
def zj9 (K:W.Frag):Sp:=fun vs H Q _=>L2.Ee6 fun a A (b:BkT) a' A' (c:BkT)=>L2.Aa4 (vs=[.ref a,.ref a']) ((zaD K H a A b/\BOk b/\FOk b/\b.turns.length<32)) ((zaD K H a' A' c/\BOk c/\FOk c/\c.turns.length<32)) (∀ v:Bool,(v=true↔Kinder b c)->Q (.bl v) H)
theorem zpE:zj qad qad (zi ze8):=by walk_at "sp"
theorem zq0 (S:Src K mg "is_kinder" ze8 qad) (T:Txt K mg) (zbI:zt P w K mg base 1 (cA K "Book") "outs" qaa (zha K)) (zjl:∀ kd:Kd,zt P w K mg base 1 (cA K kd.cls) "name" qaa (zdG kd K)) (zaE:zt P w K mg base 1 (cA K "Book") "count" qaa (zdg K)) (zbr:zt P w K mg base 1 (cA K "Book") "turns" qaa (zfz K)) (zb9:Def P w K mg base 5 "is_charged_no_more" qad (zdJ K)) (zcz:Def P w K mg base 4 "is_asked_no_more" qad (zes K)):Def P w K mg base 6 "is_kinder" qad (zj9 K):=by
 exists S.okF,zpE,0
 all_goals obtain ⟨a,A,b,a',A',c,rfl,⟨B,O,F,tb⟩,⟨C,O',F',tc⟩,h⟩:=h
 ·rfl
 refine ⟨_,(zd (zP (PW.pt (zld (zw zoK (zdM zjl T.cls hr (zv zaE T.zu hr (pv 0))) (zdM zjl T.cls hr (zv zaE T.zu hr (pv 1))) (nomark _)) (zmC (zw (zw1 hr.units) (zv zbI T.zu hr (pv 0)) (zv zbI T.zu hr (pv 1)) (nomark _)))))
  (zg (zk zje))
   zJ)
  (zd (zP (zw zfd (zE zro rfl T.zbD PySem.boot_len (za (zh ztV (zU (zcC rfl) rfl T.zge PyProof.Rows.boot_set (za (zv zbr T.zu hr (pv 0)) zb)) (zU (zcC rfl) rfl T.zge PyProof.Rows.boot_set (za (zv zbr T.zu hr (pv 1)) zb))) zb)) ze (nomark _))
  (zg (zk zje))
   zJ)
  (zg (zk (zfu (zr zcz hr (za (pv 0) (za (pv 1) zb))) (zfr (zr zb9 hr (za (pv 0) (za (pv 1) zb))))))))),?_⟩
 have sz:=sizeLine_eq
 nofun
 refine ⟨a,A.dx,_,rfl,B.ins,rfl,a,A,b,rfl,B,?_⟩
 nofun
 refine ⟨b.kd,A.c,rfl,B.cnt,?_⟩
 nofun
 refine ⟨a',A'.dx,_,rfl,C.ins,rfl,a',A',c,rfl,C,?_⟩
 nofun
 refine ⟨c.kd,A'.c,rfl,C.cnt,?_⟩
 nofun
 ·rename_i n
  exact ⟨Same.refl _,h false ⟨(fun z=>by cases z),fun z=>absurd (by rw[z.kd]) n⟩⟩
 rename_i n
 have ek:=zws _ _ n
 clear n
 nofun
 refine ⟨a,A.dx,_,rfl,B.ins,rfl,a,A,b,rfl,B,fun q1 x1 nq1 r1 l1=>?_⟩
 have t1:=zc nq1 (.lst x1)
 have e1:=zq (.lst x1) nq1
 have R1:=r1.same t1
 generalize upd H q1 (.lst x1)=H1 at t1 e1 R1 ⊢
 have C1:=C.same t1
 nofun
 refine ⟨a',A'.dx,_,rfl,C1.ins,rfl,a',A',c,rfl,C1,fun q2 x2 nq2 r2 l2=>?_⟩
 have t2:=zc nq2 (.lst x2)
 have e2:=zq (.lst x2) nq2
 have R2:=r2.same t2
 generalize upd H1 q2 (.lst x2)=H2 at t2 e2 R2 ⊢
 refine ⟨_,_,.lst (SqL.of (t2 _ _ e1)) (R1.same t2).rd,.lst (SqL.of e2) R2.rd,zlz _,zlz _,?_⟩
 rw[ztg]
 have sA:=t1.trans t2
 by_cases eo:b.outs=c.outs
 rotate_left
 ·rw[decide_eq_false eo]
  nofun
  exact h false ⟨(fun z=>by cases z),fun z=>absurd z.outs eo⟩
 rw[decide_eq_true eo]
 have B2:=B.same sA
 have C2:=C.same sA
 clear t1 t2 e1 e2 R1 R2 r1 r2
 nofun
 refine ⟨a,A.dx,_,rfl,B2.ins,rfl,a,A,b,rfl,B2,fun q3 nq3=>?_⟩
 have t3:=zc nq3 (.lst (b.turns.map V.int))
 have e3:=zq (.lst (b.turns.map V.int)) nq3
 generalize upd H2 q3 (.lst (b.turns.map V.int))=H3 at t3 e3 ⊢
 nofun
 refine ⟨q3,b.turns,rfl,SqL.of e3,by ac_rfl,fun p3 H4 m3 np3 t4 e4 nd3 mm3 ml3=>?_⟩
 have C4:=C2.same (t3.trans t4)
 nofun
 refine ⟨a',A'.dx,_,rfl,C4.ins,rfl,a',A',c,rfl,C4,fun q5 nq5=>?_⟩
 have t5:=zc nq5 (.lst (c.turns.map V.int))
 have e5:=zq (.lst (c.turns.map V.int)) nq5
 generalize upd H4 q5 (.lst (c.turns.map V.int))=H5 at t5 e5 ⊢
 nofun
 refine ⟨q5,c.turns,rfl,SqL.of e5,by ac_rfl,fun p6 H6 m6 np6 t6 e6 nd6 mm6 ml6=>?_⟩
 nofun
 refine ⟨p3,p6,m3,m6,rfl,rfl,t6 _ _ (t5 _ _ e4),e6,by ac_rfl,by ac_rfl,fun p7 H7 ls np7 t7 e7 mm7=>?_⟩
 have sB:=t3.trans (t4.trans (t5.trans (t6.trans t7)))
 have s7:=sA.trans sB
 have B7:=B2.same sB
 have C7:=C2.same sB
 have sub:ls=[]↔∀ d∈b.turns,d∈c.turns:=by
  constructor
  ·intro z d hd
   apply Classical.byContradiction
   intro q
   have:d∈ls:=(mm7 d).mpr ⟨(mm3 d).mpr hd,fun y=>q ((mm6 d).mp y)⟩
   rw[z] at this
   cases this
  ·intro z
   cases e:ls with
   | nil=>rfl
   | cons d l =>
    have:=(mm7 d).mp (by rw[e];exact yam)
    exact absurd ((mm6 d).mpr (z d ((mm3 d).mp this.1))) this.2
 clear t3 t4 t5 t6 t7 mm7 mm3 mm6
 nofun
 refine ⟨p7,ls,rfl,e7,?_⟩
 nofun
 ·rename_i n
  exact h false ⟨(fun z=>by cases z),fun z=>absurd (sub.mpr z.turns) (fun q=>by rw[q] at n;exact absurd n (by decide))⟩
 rename_i n
 have es:ls=[]:=by
  cases ls with
  | nil=>rfl
  | cons d l=>exact absurd (show (0:Int)<((l.length+1:Nat):Int) by ac_rfl) n
 nofun
 refine ⟨a,A,b,a',A',c,rfl,⟨B7,O,F⟩,⟨C7,O',F'⟩,fun v1 h1=>?_⟩
 cases v1 with
 | false =>
  nofun
  exact h false ⟨(fun z=>by cases z),fun z=>absurd (h1.mpr ⟨z.pays,z.fees,z.dues⟩) (by decide)⟩
 | true =>
  obtain ⟨k1,k2,k3⟩:=h1.mp rfl
  nofun
  refine ⟨a,A,b,a',A',c,rfl,⟨B7,O⟩,⟨C7,O'⟩,fun v2 h2=>?_⟩
  exact ⟨s7,h v2 ⟨fun z=>⟨ek,eo,sub.mp es,k1,k2,k3,(h2.mp z).1,(h2.mp z).2⟩,fun z=>h2.mpr ⟨z.rates,z.lates⟩⟩⟩
def zjK (K:W.Frag):Sp:=fun vs H Q _=>L2.Ee9 fun c p kd xs b (ds:List Int) P x y=>L2.Aa9 (vs=[.ref c,.ref p,.int P,.int x,.int y]) (zb4 K H c kd) (SqL K H p xs) (R4 b H xs ds) (ds.Pairwise (·<·)) ((∀ d,d∈ds↔TDay b d)) (BOk b) ((0<=x/\x<=1000000/\y<=1000000)) (Q (.int (csum (Uk kd) (zaF b P) x y)) H)
theorem zaR:zj ["count", "rows", "principal", "a", "b", "total", "start", "place", "row", "end"] qbq (zi zd1):=by walk_at "sp"
theorem zp2 (S:Src K mg "charged_by" zd1 qbq) (T:Txt K mg) (zcR:Def P w K mg base 1 "begun" qah (zi1 K)) (zjw:∀ kd:Kd,zt P w K mg base 5 (cA K kd.cls) "weight" qam (zh2 kd K)):Def P w K mg base 6 "charged_by" qbq (zjK K):=by
 exists S.ok,zaR,0
 all_goals obtain ⟨c,p,kd,xs,b,ds,P0,x,y,rfl,hc,hS,hR,up,mem,O,⟨x0,x1,y1⟩,h⟩:=h
 ·rfl
 refine ⟨_,(zd (zo (i:=5) zaR.nd rfl (by walk_at "lc") ze)
  (zd (zo (i:=6) zaR.nd rfl (by walk_at "lc") (pv 3))
  (zd (zo (i:=7) zaR.nd rfl (by walk_at "lc") (zr zcR hr (za (pv 1) (za (pv 3) zb))))
  (zd (zju PassesOwn.never (zw ze4 (pv 6) (pv 4) (nomark _))
  (zd (zo (i:=8) zaR.nd rfl (by walk_at "lc") (zB zag (pv 1) (zh zV (pv 7) ze) (fun _ _=>rfl)))
  (zd (zo (i:=9) zaR.nd rfl (by walk_at "lc") (zlU (zw ze4 (pv 7) (zE zam rfl T.zbD PySem.boot_len (za (pv 1) zb)) (nomark _)) (zE (zfx rfl) rfl T.zjF PyProof.Rows.boot_min (za (pv 4) (za (zB zap (zB zag (pv 1) (pv 7) (fun _ _=>rfl)) ze (fun _ _=>rfl)) zb))) (pv 4)))
  (zd (zo (i:=5) zaR.nd rfl (by walk_at "lc") (zh zF (pv 5) (zh zar (zlZ zjw T.cls hr (pv 0) (za (pv 6) (za (pv 9) zb))) (zh zF (zh zar (zB zap (pv 8) ze (fun _ _=>rfl)) (pv 2)) (zh zar (zB zap (pv 8) ze (fun _ _=>rfl)) (zE (zfx rfl) rfl T.zjF PyProof.Rows.boot_min (za (pv 2) (za (zB zap (pv 8) ze (fun _ _=>rfl)) zb))))))))
  (zd (zo (i:=6) zaR.nd rfl (by walk_at "lc") (pv 9))
  (zg (zo (i:=7) zaR.nd rfl (by walk_at "lc") (zh zF (pv 7) ze))))))))
  (zg (zk (pv 5))))))),?_⟩
 have xl:=hR.length
 nofun
 refine ⟨p,xs,ds,x,rfl,hS,hR.rf,up,fun n Bg=>?_⟩
 have n1:1<=n:=by
  rcases Nat.eq_zero_or_pos n with e | e
  ·subst e
   obtain ⟨j,hj⟩:=ybj.mp ((mem 0).mpr (.inl rfl))
   have:=Bg.hi j 0 (ydf _) hj
   ac_rfl
  ·exact e
 nofun
 refine ⟨fun k σ H'=>H=H'/\∃ (st:Int) (pl:Nat) (z1 z2:Option V),σ=[some (.ref c),some (.ref p),some (.int P0),some (.int x),some (.int y),some (.int (csum (Uk kd) (zaF b P0) x st)),some (.int st),some (.int pl),z1,z2]/\x<=st/\(st<=y\/st=x)/\(st<y->znw ds st pl/\1<=pl)/\k=(y-st).toNat,⟨_,rfl,x,n,_,_,by rw[ziH (yea _)];rfl,yea _,.inr rfl,fun _=>⟨Bg,n1⟩,rfl⟩,?_⟩
 rintro k σ H' ⟨rfl,st,pl,z1,z2,rfl,xs1,st2,bg,rfl⟩
 nofun
 ·rename_i q
  refine ⟨_,fun σ' H' z=>z,?_⟩
  obtain ⟨B,p1⟩:=bg q
  have ble:=B.le
  obtain ⟨m,rfl⟩:∃ m,pl=m+1:=⟨pl-1,by ac_rfl⟩
  have em:((m+1:Nat):Int)-1=(m:Int):=by ac_rfl
  obtain ⟨d0,hd0,t0,ex0,ht0⟩:=hR.get (yaa (by ac_rfl:m<xs.length))
  have at0:atI xs (((m+1:Nat):Int)-1)=some (.ref t0):=by
   rw[em]
   exact za4 (by rw[yaa (by ac_rfl:m<xs.length),ex0])
  have lo0:=B.lo m d0 (by ac_rfl) hd0
  have rr:=O.rt d0
  have ll:=O.lt d0
  nofun
  refine ⟨p,_,_,_,rfl,rfl,hS,at0,?_⟩
  have fin:∀ e:Int,st<e->e<=y->(∀ z,ds[m+1]?=some z->e<=z)->(e<y->znw ds e (m+1+1))->csum (Uk kd) (zaF b P0) x e=csum (Uk kd) (zaF b P0) x st+(Uk kd e-Uk kd st)*(zeP b d0*P0+zeN b d0*mn P0 (zeT b d0)):=fun e h1 h2 h3 h4=>by
   rw[zlC xs1 (by ac_rfl:st<=e),ztQ mem up hd0 lo0 (by ac_rfl) h3]
   rfl
  have u2:=zsc (kd:=kd) (d:=st) (by ac_rfl) (by ac_rfl)
  nofun
  ·rename_i c1
   have ml:m+1<xs.length:=by ac_rfl
   obtain ⟨d1,hd1,t1,ex1,ht1⟩:=hR.get (yaa ml)
   have at1:atI xs ((m+1:Nat):Int)=some (.ref t1):=za4 (by rw[yaa ml,ex1])
   have hi1:=B.hi (m+1) d1 (ydc _) hd1
   have e0:st<(if d1<y then d1 else y):=by split <;> ac_rfl
   have e1:(if d1<y then d1 else y)<=y:=by split <;> ac_rfl
   have e2:∀ z,ds[m+1]?=some z->(if d1<y then d1 else y)<=z:=fun z hz=>by
    rw[hd1] at hz
    cases hz
    split <;> ac_rfl
   have e3:(if d1<y then d1 else y)<y->znw ds (if d1<y then d1 else y) (m+1+1):=fun z=>by
    have e4:(if d1<y then d1 else y)=d1:=by
     by_cases c:d1<y
     ·rw[if_pos c]
     ·rw[if_neg c] at z;ac_rfl
    rw[e4]
    refine ⟨by ac_rfl,fun i x hi hx=>?_,fun i x hi hx=>zcU up hd1 hx (by ac_rfl)⟩
    by_cases c:i=m+1
    ·subst c;rw[hd1] at hx;have:=Option.some.inj hx;ac_rfl
    ·have:=B.lo i x (by ac_rfl) hx;ac_rfl
   have fe:=fin _ e0 e1 e2 e3
   refine ⟨p,_,_,_,rfl,rfl,hS,at1,?_⟩
   nofun
   generalize (if d1<y then d1 else y)=e at *
   refine ⟨kd,c,rfl,hc,?_⟩
   have u1:=zsc (kd:=kd) (d:=e) (by ac_rfl) (by ac_rfl)
   nofun
   first | refine ⟨hc,?_⟩ | skip
   nofun
   refine ⟨(y-e).toNat,by ac_rfl,rfl,e,m+1+1,some (.ref t0),some (.int e),?_,by ac_rfl,.inl (by ac_rfl),fun z=>⟨e3 z,by ac_rfl⟩,rfl⟩
   rw[fe]
   rfl
  ·rename_i c1
   have dl:ds.length=m+1:=by ac_rfl
   have e2:∀ z,ds[m+1]?=some z->y<=z:=fun z hz=>by
    have:=(yac.mp hz).1
    ac_rfl
   have fe:=fin y q (yea _) e2 fun z=>absurd z (by ac_rfl)
   nofun
   refine ⟨kd,c,rfl,hc,?_⟩
   have u1:=zsc (kd:=kd) (d:=y) (by ac_rfl) (by ac_rfl)
   nofun
   first | refine ⟨hc,?_⟩ | skip
   nofun
   refine ⟨(y-y).toNat,by ac_rfl,rfl,y,m+1+1,some (.ref t0),some (.int y),?_,by ac_rfl,.inl (by ac_rfl),fun z=>absurd z (by ac_rfl),rfl⟩
   rw[fe]
   rfl
 ·rename_i q
  have e:csum (Uk kd) (zaF b P0) x st=csum (Uk kd) (zaF b P0) x y:=by
   rcases st2 with z | z
   ·rw[show st=y by ac_rfl]
   ·rw[z,ziH (yea _),ziH (by ac_rfl)]
  rw[e]
  exact h
def zkg (K:W.Frag):Sp:=fun vs H Q _=>L2.Ee5 fun q n g rs (es:List Er)=>L2.Aa7 (vs=[.ref q,.int n,.int g]) ((0<=g/\g<=366)) (SqL K H q rs) (LL (fun v e=>∃ t,v=.ref t/\H t=some (.tup (zc4 e.1 e.2.1 e.2.2))) rs es) (es.length<=61) ((∀ e∈es,e.1≠.base/\0<=e.2.1)) (∀ a A (b:BkT) H',H a=none->Same H H'->zaD K H' a A b->zbb b->b.kd=kdN n->b.g=g->b.es=es->Q (.ref a) H')
theorem zqz:zj qbe qbe (zi zfl):=by walk_at "sp"
theorem zqU (S:Src K mg "_law_book" zfl qbe) (T:Txt K mg) (zit:zt P w K mg base 4 (cA K "Book") "__init__" qbd (zkG K)) (zgQ:Def P w K mg base 4 "_law_entry" qbp (zjU K)) (zgB:Def P w K mg base 1 "_law_count" qav (zjO K)):Def P w K mg base 6 "_law_book" qbe (zkg K):=by
 exists S.ok,zqz,0
 all_goals obtain ⟨q,n,g,rs,es,rfl,hg,hq,hL,hl,ok,h⟩:=h
 ·rfl
 refine ⟨_,(zg (zk (zbn T.zmW zit hr T.zqv (za (zr zgB hr (za (pv 1) zb)) (za (pv 2) (za (zbj (ix:=[]) ⟨rfl,by decide +kernel,rfl,by decide +kernel,rfl,(show (["_law_spec_here"]:List Str).Nodup by decide +kernel),by walk_at "cap", by walk_at "sub", by walk_at "has"⟩ (zQ (pv 0)) (fun b=>(zr zgQ hr (za (pv 0) zb)))) zb)))))),?_⟩
 have sz:=sizeLine_eq
 have xl:=hL.length
 nofun
 intro c H1 nc s1 hc
 nofun
 refine ⟨⟨_,s1.seq hq⟩,fun l nl=>?_⟩
 refine comp_map (zaw (s1.seq hq)) nl (by ac_rfl) es xl.symm (fun H' v e=>∃ a dx,v=.ref a/\zkX K H' a dx e.1 e.2.1 e.2.2) (fun v e H1 H2 s ⟨t,dx,e1,e2⟩=>⟨t,dx,e1,s _ _ e2⟩) (fun v e H1 ys zs hL ⟨t,dx,e1,e2⟩=>⟨t,dx,e1,by rw[zkX,zx (zaW e2 hL (by intro z;cases z))];exact e2⟩) ?_ ?_
 ·rintro i x e H' Q' hx he sH hq'
  obtain ⟨e',he',t,rfl,ht⟩:=hL.get hx
  obtain rfl:e'=e:=Option.some.inj (he'.symm.trans he)
  nofun
  refine ⟨t,e'.1,e'.2.1,e'.2.2,rfl,sH _ _ (s1 _ _ ht),(ok e' (yah he)).1,fun a dx H2 s2 na ha=>?_⟩
  exact hq' _ _ s2 ⟨a,dx,rfl,ha⟩
 ·rintro ys H2 s2 eL hE
  nofun
  intro a dx na nd ne
  have s3:Same H2 (upd (upd H2 dx (.own a)) a (.ins (cA K "Book") dx [])):=(zc nd _).trans (zc (by rw[zx ne.symm];exact na) _)
  refine ⟨a,dx,c,l,kdN n,g,ys,es,H2,rfl,zf,⟨na,s3⟩,hc.same s2,hg,SqL.of eL,hE,hl,fun e he=>(ok e he).2,fun A b H3 sH3 B I e1 e2 e3=>⟨rfl,?_⟩⟩
  exact h a A b H3 (zD (s1.trans s2) na) (s1.trans (s2.trans sH3)) B I e1 e2 e3
def zhB (K:W.Frag):Sp:=fun vs H Q _=>L2.Ee6 fun a p A b ws (ds:List Int)=>L2.zud (vs=[.ref a,.ref p]) (zaD K H a A b) (AB b) (H p=some (.lst ws)) (R5 b H ws ds) (ds.Pairwise (·<·)) ((∀ d∈ds,0<=d/\d<=1000000)) ((∀ d z,z∈ds->d<z->DDay b d->d∈ds)) (ds.length<=1000) (∀ q x vs' H',H q=none->Same H H'->H' q=some (.lst vs')->DbL K (uB b) (zY b) x H H' vs' ds->Q (.ref q) H')
theorem zaZ:zj ["book", "rows", "burden_rows", "debt", "told", "start", "deeds"] qbr (zi zcJ):=by walk_at "sp"
theorem znr (S:Src K mg "debts_behind" zcJ qbr) (T:Txt K mg) (zj0:Def P w K mg base 4 "burdens" qag (zmd K)) (zcj:zt P w K mg base 1 (cA K "Debt") "__init__" qaq (zgt K)) (zeR:∀ kd:Kd,zt P w K mg base 2 (cA K kd.cls) "unit" qaa (zhu kd K)) (zaE:zt P w K mg base 1 (cA K "Book") "count" qaa (zdg K)) (zhT:zt P w K mg base 1 (cA K "Debt") "grow" qat (zki K)) (zg0:Def P w K mg base 6 "charged_by" qbq (zjK K)) (zaT:zt P w K mg base 1 (cA K "Debt") "principal" qaa (zc3 K)) (zjI:Def P w K mg base 4 "do_deeds" qbc (zlr K)) (zhL:zt P w K mg base 3 (cA K "Debt") "copy" qaa (zkn K)):Def P w K mg base 7 "debts_behind" qbr (zhB K):=by
 exists S.ok,zaZ,0
 all_goals obtain ⟨a,p,A,b,ws,ds,rfl,B,O,hp,hR,up,din,dmem,dl,h⟩:=h
 ·rfl
 refine ⟨_,(zd (zo (i:=2) zaZ.nd rfl (by walk_at "lc") (zr zj0 hr (za (pv 0) zb)))
  (zd (zo (i:=3) zaZ.nd rfl (by walk_at "lc") (zbn T.zk8 zcj hr T.zmh (za (zdM zeR T.cls hr (zv zaE T.zu hr (pv 0))) zb)))
  (zd (zo (i:=4) zaZ.nd rfl (by walk_at "lc") (zaj zb))
  (zd (zo (i:=5) zaZ.nd rfl (by walk_at "lc") ze)
  (zd (zcq PassesOwn.never rfl (zQ (pv 1)) (zac (i:=6) zaZ.nd rfl (by walk_at "lc"))
  (zd (zao (zdv zhT T.zH hr (pv 3) (za (zr zg0 hr (za (zv zaE T.zu hr (pv 0)) (za (pv 2) (za (zv zaT T.zH hr (pv 3)) (za (pv 5) (za (zB zap (pv 6) ze (fun _ _=>rfl)) zb)))))) zb)))
  (zd (zao (zr zjI hr (za (pv 3) (za (pv 6) zb))))
  (zd (zao (zer PySem.F.plainAttrs_list PySem.F.slot_list_append PySem.F.type_list_append zbY (pv 4) (za (zv zhL T.zH hr (pv 3)) zb)))
  (zg (zo (i:=5) zaZ.nd rfl (by walk_at "lc") (zB zap (pv 6) ze (fun _ _=>rfl))))))))
  (zg (zk (pv 4)))))))),?_⟩
 have sz:=sizeLine_eq
 have hu:0<uB b/\uB b<1152921504606846976:=⟨O.ok.hu,O.u1⟩
 have wl:=hR.length
 nofun
 first | refine ⟨a,A,b,rfl,B,O.ok.ok,fun pb xb tb H1 n1 s1 eb rb upb memb lb=>?_⟩ | refine ⟨B,O.ok.ok,fun pb xb tb H1 n1 s1 eb rb upb memb lb=>?_⟩
 have B1:=B.same s1
 nofun
 refine ⟨a,A.dx,_,rfl,B1.ins,rfl,a,A,b,rfl,B1,?_⟩
 nofun
 refine ⟨b.kd,A.c,rfl,B1.cnt,?_⟩
 nofun
 refine ⟨B1.cnt,?_⟩
 nofun
 intro x dx nx ndx nex
 refine ⟨x,dx,uB b,rfl,zf,rfl,?_⟩
 rw[zX]
 have s2:Same H1 (upd (upd H1 dx (.own x)) x (.ins (cA K "Debt") dx (zau (uB b) 0 0))):=(zc ndx _).trans (zc (by rw[zx nex.symm];exact nx) _)
 have eD:Deb K (upd (upd H1 dx (.own x)) x (.ins (cA K "Debt") dx (zau (uB b) 0 0))) x dx (uB b) 0 0:=zf
 generalize upd (upd H1 dx (.own x)) x (.ins (cA K "Debt") dx (zau (uB b) 0 0))=H2 at s2 eD ⊢
 nofun
 intro q nq
 have s3:=zc nq (.lst [])
 have eq:=zq (.lst []) nq
 have eD3:Deb K _ x dx (uB b) 0 0:=eD.same s3
 have s13:=s2.trans s3
 have nq1:=zD s2 nq
 have nxq:x≠q:=zZ eD nq
 generalize upd H2 q (.lst [])=H3 at s3 eq eD3 s13 ⊢
 have nqH:=zD s1 nq1
 have nxH:=zD s1 nx
 have key:∀ (i:Nat) (d m n st:Int),ds[i]?=some d->((i=0/\m=0/\n=0/\st=0)\/(∃ e,0<i/\ds[i-1]?=some e/\m=(zY b e).1/\n=(zY b e).2/\st=e))->stB (Uk b.kd) (uB b) b d.toNat=(m,n+csum (Uk b.kd) (zaF b m) st d)/\0<=st/\st<=1000000:=fun i d m n st hd hc=>by
  obtain ⟨d0,d1⟩:=din d (yah hd)
  rcases hc with ⟨rfl,rfl,rfl,rfl⟩ | ⟨e,i0,he,e1,e2,e3⟩
  ·refine ⟨first O.ok d0 fun k k0 k1=>ztb O.is fun hk=>?_,yea _,by decide⟩
   obtain ⟨j,hj⟩:=ybj.mp (dmem k d (yah hd) k1 hk)
   rcases Nat.eq_zero_or_pos j with z | z
   ·subst z;rw[hd] at hj;have:=Option.some.inj hj;ac_rfl
   ·have:=zcU up hd hj z;ac_rfl
  ·obtain ⟨f0,f1⟩:=din e (yah he)
   rw[e1,e2,e3]
   refine ⟨next O.ok f0 (zcU up he hd (by ac_rfl)) fun k k0 k1=>ztb O.is fun hk=>?_,f0,f1⟩
   obtain ⟨j,hj⟩:=ybj.mp (dmem k d (yah hd) k1 hk)
   rcases ydk j i with z | z | z
   ·by_cases y:j=i-1
    ·subst y;rw[he] at hj;have:=Option.some.inj hj;ac_rfl
    ·have:=zcU up hj he (by ac_rfl);ac_rfl
   ·subst z;rw[hd] at hj;have:=Option.some.inj hj;ac_rfl
   ·have:=zcU up hd hj z;ac_rfl
 nofun
 refine ⟨⟨_,SqL.of (s13 _ _ (s1 _ _ hp))⟩,zcr (xs:=ws) (fun i σ H'=>L2.Ee5 fun (m n st:Int) (vs':List V) (z1:Option V)=>L2.Aa3 ((Same H1 H'/\Deb K H' x dx (uB b) m n/\H' q=some (.lst vs')/\DbL K (uB b) (zY b) x H H' vs' (ds.take i))) (((i=0/\m=0/\n=0/\st=0)\/(∃ e,0<i/\ds[i-1]?=some e/\m=(zY b e).1/\n=(zY b e).2/\st=e))) (σ=[some (.ref a),some (.ref p),some (.ref pb),some (.ref x),some (.ref q),some (.int st),z1]))
  ⟨0,0,0,[],_,⟨s13,eD3,eq,.nil⟩,.inl ⟨rfl,rfl,rfl,rfl⟩,rfl⟩ ?_ ?_ ?_⟩
 ·rintro i σ H' _ ⟨m,n,st,vs',z1,⟨sH,_⟩,_⟩
  exact SqL.of (sH _ _ (s1 _ _ hp))
 ·rintro i v σ H' hv ⟨m,n,st,vs',z1,⟨sH,eD',eq',hL⟩,cur,rfl⟩
  have s0H:=s1.trans sH
  obtain ⟨d,hd,t,rfl,ht0⟩:=hR.get hv
  have ht:=s0H _ _ ht0
  have il:i<ds.length:=(yac.mp hd).1
  have vl:=hL.length
  rw[yaq] at vl
  obtain ⟨kk,st0,st1⟩:=key i d m n st hd cur
  obtain ⟨d0,d1⟩:=din d (yah hd)
  have B':=B.same s0H
  have tk:ds.take (i+1)=ds.take i++[d]:=by rw[ybe,hd];rfl
  nofun
  refine ⟨x,dx,_,rfl,eD',rfl,?_⟩
  nofun
  refine ⟨a,A.dx,_,rfl,B'.ins,rfl,a,A,b,rfl,B',?_⟩
  nofun
  refine ⟨x,dx,_,rfl,eD',rfl,x,dx,uB b,m,n,rfl,eD',?_⟩
  nofun
  refine ⟨A.c,pb,b.kd,xb,b,tb,m,st,d,rfl,B'.cnt,SqL.of (sH _ _ eb),rb.same sH,upb,memb,O.ok.ok,⟨st0,st1,d1⟩,?_⟩
  nofun
  refine ⟨x,dx,uB b,m,n,_,rfl,eD',?_⟩
  have e1:Deb K (upd H' x (.ins (cA K "Debt") dx (zau (uB b) m (n+csum (Uk b.kd) (zaF b m) st d)))) x dx (uB b) m (n+csum (Uk b.kd) (zaF b m) st d):=zf
  have t1:=zi5 (K:=K) (o:=.ins (cA K "Debt") dx (zau (uB b) m (n+csum (Uk b.kd) (zaF b m) st d))) eD' ht
  have acc:doD (uB b) (ddo b d) (m,n+csum (Uk b.kd) (zaF b m) st d)=zY b d:=by
   show _=doD (uB b) (ddo b (d.toNat:Nat)) (stB (Uk b.kd) (uB b) b d.toNat)
   rw[kk,show ((d.toNat:Nat):Int)=d by ac_rfl]
  nofun
  refine ⟨x,dx,t,uB b,m,_,d,ddo b d,rfl,e1,hu,t1,?_⟩
  rw[zX,acc]
  have e2:Deb K (upd H' x (.ins (cA K "Debt") dx (zau (uB b) (zY b d).1 (zY b d).2))) x dx (uB b) (zY b d).1 (zY b d).2:=zf
  have hL2:DbL K (uB b) (zY b) x H (upd H' x (.ins (cA K "Debt") dx (zau (uB b) (zY b d).1 (zY b d).2))) vs' (ds.take i):=hL.put
  have eq2:(upd H' x (.ins (cA K "Debt") dx (zau (uB b) (zY b d).1 (zY b d).2))) q=some (.lst vs'):=by rw[zx nxq.symm];exact eq'
  have s4:Same H1 (upd H' x (.ins (cA K "Debt") dx (zau (uB b) (zY b d).1 (zY b d).2))):=zN sH nx
  have ht4:=s4 _ _ (s1 _ _ ht0)
  clear e1 t1 eD' ht B'
  generalize upd H' x (.ins (cA K "Debt") dx (zau (uB b) (zY b d).1 (zY b d).2))=H4 at e2 hL2 eq2 s4 ht4 ⊢
  nofun
  refine ⟨.inl ⟨rfl,_,SqL.of eq2⟩,?_⟩
  nofun
  refine ⟨x,dx,_,rfl,e2,rfl,x,dx,uB b,_,_,rfl,e2,fun y dy ny ndy ney=>?_⟩
  have s5:Same H4 (upd (upd H4 dy (.own y)) y (.ins (cA K "Debt") dy (zau (uB b) (zY b d).1 (zY b d).2))):=(zc ndy _).trans (zc (by rw[zx ney.symm];exact ny) _)
  have ey:Deb K (upd (upd H4 dy (.own y)) y (.ins (cA K "Debt") dy (zau (uB b) (zY b d).1 (zY b d).2))) y dy (uB b) (zY b d).1 (zY b d).2:=zf
  have nyx:y≠x:=(zZ e2 ny).symm
  have nyH:=zD (s1.trans s4) ny
  generalize upd (upd H4 dy (.own y)) y (.ins (cA K "Debt") dy (zau (uB b) (zY b d).1 (zY b d).2))=H5 at s5 ey ⊢
  have ht5:=s5 _ _ ht4
  have eq5:=s5 _ _ eq2
  nofun
  refine ⟨q,_,_,rfl,rfl,eq5,by ac_rfl,?_⟩
  have ht6:(upd H5 q (.lst (vs'++[.ref y]))) t=some (.tup [.int d,.int (ddo b d).1,.int (ddo b d).2.1,.int (ddo b d).2.2.1,.int (ddo b d).2.2.2]):=by rw[zx (zaW ht5 eq5 (by intro z;cases z))];exact ht5
  nofun
  refine ⟨_,_,d,vs'++[.ref y],_,⟨zN (s4.trans s5) nq1,Deb.putL (e2.same s5) eq5,zf,?_⟩,.inr ⟨d,by ac_rfl,by simpa using hd,rfl,rfl,rfl⟩,rfl⟩
  rw[tk]
  exact LL.push ((hL2.same s5).putL eq5) ⟨y,dy,rfl,⟨nyx,nyH⟩,Deb.putL ey eq5⟩
 ·rintro σ H' ⟨m,n,st,vs',z1,⟨sH,eD',eq',hL⟩,cur,rfl⟩
  rw[wl,yaw (ydc _)] at hL
  nofun
  exact h q x vs' H' nqH (s1.trans sH) eq' hL
def ziF (P:Program) (w:World) (K:W.Frag):Sp:=fun vs H Q _=>L2.Ee6 fun a p A b (ms:List Int) z=>L2.Aa8 (vs=[.ref a,.ref p]) (zaD K H a A b) (AB b) (H p=some (.lst ((ms++[z]).map V.int))) (ms.length<=20) ((ms++[z]).Pairwise (·<·)) ((∀ d∈ms++[z],0<=d/\d<=1000000)) (∀ q x ws H',H q=none->Same H H'->H' q=some (.lst ws)->DbL K (uB b) (zY b) x H H' ws (ms++[z])->Q (.ref q) H')
theorem zcX:zj ["book", "days", "rows", "debts", "by_day"] qao (zi zdi):=by walk_at "sp"
theorem zoc (S:Src K mg "accounts_at" zdi qao) (T:Txt K mg) (zg8:Def P w K mg base 2 "deeds_upto" qao (zjM P w K)) (zeA:Def P w K mg base 7 "debts_behind" qbr (zhB K)):Def P w K mg base 8 "accounts_at" qao (ziF P w K):=by
 exists S.ok,zcX,0
 all_goals obtain ⟨a,p,A,b,ms,z,rfl,B,O,hp,ml,up,din,h⟩:=h
 ·rfl
 refine ⟨_,(zd (zo (i:=2) zcX.nd rfl (by walk_at "lc") (zr zg8 hr (za (pv 0) (za (pv 1) zb))))
  (zd (zo (i:=3) zcX.nd rfl (by walk_at "lc") (zr zeA hr (za (pv 0) (za (pv 2) zb))))
  (zd (zo (i:=4) zcX.nd rfl (by walk_at "lc") (zU (zrh rfl) rfl T.zfw PyProof.Rows.boot_dict (za (zbj (ix:=[3,2]) ⟨rfl,by decide +kernel,rfl,by decide +kernel,rfl,(show (["place", "debts", "rows"]:List Str).Nodup by decide +kernel),by walk_at "cap", by walk_at "sub", by walk_at "has"⟩ (zhx rfl T.zdF (za (zE zam rfl T.zbD PySem.boot_len (za (pv 2) zb)) zb)) (fun b=>(zO (za (zB (zaK K) (zB (zeu K) (pv 2) (pv 0) (fun _ _=>rfl)) ze (fun _ _=>rfl)) (za (zB (zeu K) (pv 1) (pv 0) (fun _ _=>rfl)) zb))))) zb)))
  (zg (zk (zbj (ix:=[4]) ⟨rfl,by decide +kernel,rfl,by decide +kernel,rfl,(show (["day", "by_day"]:List Str).Nodup by decide +kernel),by walk_at "cap", by walk_at "sub", by walk_at "has"⟩ (zQ (pv 1)) (fun b=>(zB (ztr P w) (pv 1) (pv 0) (fun _ _=>rfl))))))))),?_⟩
 have sz:=sizeLine_eq
 have osz:=O.sz
 nofun
 first | refine ⟨a,p,A,b,ms,z,rfl,B,O.is,hp,by ac_rfl,fun q1 ws ds H1 n1 s1 e1 r1 up1 zaf l1=>?_⟩ | refine ⟨A,b,ms,z,B,O.is,hp,by ac_rfl,fun q1 ws ds H1 n1 s1 e1 r1 up1 zaf l1=>?_⟩
 have dz:∀ d∈ds,0<=d/\d<=1000000:=fun d hd=>by
  rcases (zaf d).mp hd with ⟨h1,h2⟩ | h1
  ·have:=O.d0 d h1
   have:=(din z (by simp)).2
   ac_rfl
  ·exact din d h1
 have dm:∀ d y,y∈ds->d<y->DDay b d->d∈ds:=fun d y hy dy hd=>by
  refine (zaf d).mpr (.inl ⟨hd,?_⟩)
  rcases (zaf y).mp hy with ⟨_,h2⟩ | h1
  ·ac_rfl
  ·rcases yag.mp h1 with h1 | h1
   ·have:=(ybq.mp up).2.2 y h1 z (by simp)
    ac_rfl
   ·have:y=z:=by simpa using h1
    ac_rfl
 have rl:=r1.length
 nofun
 first | refine ⟨a,q1,A,b,ws,ds,rfl,B.same s1,O,e1,r1,up1,dz,dm,by ac_rfl,fun q2 x vs2 H2 n2 s2 e2 hD=>?_⟩ | refine ⟨A,b,ws,ds,B.same s1,O,e1,r1,up1,dz,dm,by ac_rfl,fun q2 x vs2 H2 n2 s2 e2 hD=>?_⟩
 have vl:=hD.length
 have e12:=s2 _ _ e1
 have r12:=r1.same s2
 nofun
 refine ⟨q1,ws,rfl,.inl (SqL.of e12),?_⟩
 walk_at "rd1"
 refine ⟨by ac_rfl,by ac_rfl,fun l3 n3=>?_⟩
 refine ztC n3 (by ac_rfl) (ds.zip vs2) (by rw[List.length_zip];ac_rfl) (fun H' v s=>∃ t,v=.ref t/\H' t=some (.tup [.int s.1,s.2])) (fun v e H1 H2 s ⟨t,e1,e2⟩=>⟨t,e1,s _ _ e2⟩) (fun v e H1 ys zs hL ⟨t,e1,e2⟩=>⟨t,e1,by rw[zx (zaW e2 hL (by intro z;cases z))];exact e2⟩) ?_ ?_
 ·rintro i e H' Q' hi he sH hq
  obtain ⟨hd,hv⟩:=ycp.mp he
  obtain ⟨d',hd',t,et,ht⟩:=r12.get (yaa (show i<ws.length by ac_rfl))
  obtain rfl:d'=e.1:=Option.some.inj (hd'.symm.trans hd)
  have wi:ws[i]?=some (.ref t):=by rw[yaa (show i<ws.length by ac_rfl),et]
  have ht':=sH _ _ ht
  rw[yeg]
  nofun
  refine ⟨q1,_,_,_,rfl,rfl,SqL.of (sH _ _ e12),za4 wi,?_⟩
  nofun
  first | refine ⟨t,_,_,_,rfl,rfl,SqT.of ht',rfl,?_⟩ | skip
  nofun
  refine ⟨q2,_,_,_,rfl,rfl,SqL.of (sH _ _ e2),za4 hv,?_⟩
  nofun
  intro u nu
  exact hq _ _ (zc nu _) ⟨u,rfl,zf⟩
 ·rintro ys H3 s3 e3 hL
  have nd1:ds.Nodup:=Sby.zcW up1
  have zl:(ds.zip vs2).map (·.1)=ds:=List.map_fst_zip (by ac_rfl)
  nofun
  refine ⟨l3,ys,ds.zip vs2,rfl,e3,hL,by rw[List.length_zip];ac_rfl,fun d4 n4=>?_⟩
  rw[ztl (by rw[zl];exact nd1)]
  have s4:=zc n4 (zk3 P w d4 (ds.zip vs2))
  have e4:=zq (zk3 P w d4 (ds.zip vs2)) n4
  have s04:=s1.trans (s2.trans (s3.trans s4))
  have hp4:=s04 _ _ hp
  have hD4:=hD.same (s3.trans s4)
  nofun
  refine ⟨⟨_,SqL.of hp4⟩,fun l5 n5=>?_⟩
  refine comp_map (zaw (SqL.of hp4)) n5 (by rw[yab,yad];simp;ac_rfl) (ms++[z]) (by rw[yab]) (fun H' v d=>∃ y dy,v=.ref y/\(y≠x/\H1 y=none)/\Deb K H' y dy (uB b) (zY b d).1 (zY b d).2) (fun v e H1 H2 s ⟨y,dy,a1,a2,a3⟩=>⟨y,dy,a1,a2,s _ _ a3⟩) (fun v e H1 ys zs hL ⟨y,dy,a1,a2,a3⟩=>⟨y,dy,a1,a2,Deb.putL a3 hL⟩) ?_ ?_
  ·rintro i v d H' Q' hx hd sH hq
   rw[yaj,hd] at hx
   cases hx
   have dm:d∈ds:=(zaf d).mpr (.inr (yah hd))
   obtain ⟨j,hj⟩:=ybj.mp dm
   have jl:=(yac.mp hj).1
   obtain ⟨d',hd',y,dy,ey,ny,eD⟩:=hD4.get (yaa (show j<vs2.length by ac_rfl))
   obtain rfl:d'=d:=Option.some.inj (hd'.symm.trans hj)
   have lk:lkV (ds.zip vs2) d'=some (.ref y):=zrM (by ac_rfl) nd1 hj (by rw[yaa (show j<vs2.length by ac_rfl),ey])
   nofun
   refine ⟨d4,_,_,_,rfl,rfl,sH _ _ e4,lk,?_⟩
   exact hq _ _ (Same.refl _) ⟨y,dy,rfl,ny,sH _ _ eD⟩
  ·rintro yR HR sR eR hR
   refine h l5 x yR HR (zD s04 n5) (s04.trans sR) eR ?_
   exact DbL.old (show DbL K (uB b) (zY b) x H1 HR yR (ms++[z]) from hR) s1
def ziP (K:W.Frag):Sp:=fun vs H Q _=>L2.Ee4 fun a A b z=>L2.Aa5 (vs=[.ref a,.int z]) (zaD K H a A b) (AB b) ((0<=z/\z<=1000000)) (∀ x dx H',H x=none->Same H H'->Deb K H' x dx (uB b) (zY b z).1 (zY b z).2->Q (.ref x) H')
theorem zsS:zj qae qae (zi zhA):=by walk_at "sp"
theorem ztc (S:Src K mg "account" zhA qae) (T:Txt K mg) (zfR:Def P w K mg base 8 "accounts_at" qao (ziF P w K)):Def P w K mg base 9 "account" qae (ziP K):=by
 exists S.ok,zsS,0
 all_goals obtain ⟨a,A,b,z,rfl,B,O,⟨z0,z1⟩,h⟩:=h
 ·rfl
 refine ⟨_,(zg (zk (zB zag (zr zfR hr (za (pv 0) (za (zaj (za (pv 1) zb)) zb))) ze (fun _ _=>rfl)))),?_⟩
 nofun
 intro p np
 have s1:=zc np (.lst [.int z])
 have e1:=zq (.lst [.int z]) np
 generalize upd H p (.lst [.int z])=H1 at s1 e1 ⊢
 nofun
 first | refine ⟨a,p,A,b,[],z,rfl,B.same s1,O,e1,by decide,by simp,fun d hd=>?_,fun q x ws H2 n2 s2 e2 hD=>?_⟩ | refine ⟨A,b,[],z,B.same s1,O,e1,by decide,by simp,fun d hd=>?_,fun q x ws H2 n2 s2 e2 hD=>?_⟩
 ·have:d=z:=by simpa using hd
  ac_rfl
 cases hD with
 | cons h1 h2 =>
  cases h2
  obtain ⟨y,dy,rfl,⟨_,ny⟩,eD⟩:=h1
  nofun
  first | exact ⟨q,_,_,_,rfl,rfl,SqL.of e2,rfl,h y dy H2 (zD s1 ny) (s1.trans s2) eD⟩ | exact h y dy H2 (zD s1 ny) (s1.trans s2) eD
def zrT (K:W.Frag):Sp:=fun vs H Q _=>L2.Ee4 fun a A b z=>L2.Aa5 (vs=[.ref a,.int z]) (zaD K H a A b) (AB b) ((0<=z/\z<=1000000)) (Q (.int ((zY b z).2 / uB b)) H)
theorem zwg:zj qae qae (zi zmE):=by walk_at "sp"
theorem zwD (S:Src K mg "owed" zmE qae) (T:Txt K mg) (zaC:zt P w K mg base 1 (cA K "Debt") "owed" qaa (zcv K)) (zcF:Def P w K mg base 9 "account" qae (ziP K)):Def P w K mg base 10 "owed" qae (zrT K):=by
 exists S.okF,zwg,0
 all_goals obtain ⟨a,A,b,z,rfl,B,O,hz,h⟩:=h
 ·rfl
 refine ⟨_,(zg (zk (zv zaC T.zH hr (zr zcF hr (za (pv 0) (za (pv 1) zb)))))),?_⟩
 nofun
 first | refine ⟨a,A,b,z,rfl,B,O,hz,fun x dx H1 nx s1 eD=>?_⟩ | refine ⟨A,b,B,O,hz,fun x dx H1 nx s1 eD=>?_⟩
 nofun
 refine ⟨x,dx,_,rfl,eD,rfl,x,dx,uB b,_,_,rfl,eD,⟨O.ok.hu,O.u1⟩,?_⟩
 first | exact ⟨s1,h⟩ | exact h
structure Hld (c c':BkT) (g:Int) (d:Int):Prop where
 gap:zoZ c c' d=g
 neg:zoZ c' c d=0-g
 nn:0<=g
 pr:(zY c d).1<=(zY c' d).1
 un:(zY c d).2<=(zY c' d).2-g*uB c
 ow:(zY c d).2 / uB c<=(zY c' d).2 / uB c-g
 ue:uB c'=uB c
 u0:0<uB c/\uB c<1152921504606846976
def zjT (K:W.Frag):Sp:=fun vs H Q _=>L2.Ee8 fun a A c a' A' c' d g=>L2.Aa6 (vs=[.ref a,.ref a',.int d,.int g]) ((zaD K H a A c/\AB c)) ((zaD K H a' A' c'/\AB c')) ((0<=d/\d<=1000000)) (Hld c c' g d) (∀ H',Same H H'->Q (.bl true) H')
theorem zdp:zj ["_law_one", "_law_other", "_law_day", "_law_gap_here", "_law_found", "_law_mine", "_law_yours"] qbs (zi zeb):=by walk_at "sp"
theorem zpS (S:Src K mg "_law_holds" zeb qbs) (T:Txt K mg) (ziX:Def P w K mg base 3 "gap_at" qbm (znT K)) (zgz:Def P w K mg base 1 "_law_whole" qau (zjL K)) (zcF:Def P w K mg base 9 "account" qae (ziP K)) (zaT:zt P w K mg base 1 (cA K "Debt") "principal" qaa (zc3 K)) (zd9:zt P w K mg base 1 (cA K "Debt") "units" qaa (zjX K)) (zeR:∀ kd:Kd,zt P w K mg base 2 (cA K kd.cls) "unit" qaa (zhu kd K)) (zaE:zt P w K mg base 1 (cA K "Book") "count" qaa (zdg K)) (zaC:zt P w K mg base 1 (cA K "Debt") "owed" qaa (zcv K)):Def P w K mg base 10 "_law_holds" qbs (zjT K):=by
 exists S.ok,zdp,0
 all_goals obtain ⟨a,A,c,a',A',c',d,g,rfl,⟨hB,hA⟩,⟨hB',hA'⟩,hd,hh,h⟩:=h
 ·rfl
 refine ⟨_,(zd (zo (i:=4) zdp.nd rfl (by walk_at "lc") (zr ziX hr (za (pv 0) (za (pv 1) (za (pv 2) zb)))))
  (zd (zP (PW.pt (zld (ziv (zc6 (zr zgz hr (za (pv 4) zb)))) (zld (zw zoK (pv 4) (pv 3) (nomark _)) (zld (zw ze4 (pv 3) ze (nomark _)) (zmC (zw zoK (zr ziX hr (za (pv 1) (za (pv 0) (za (pv 2) zb)))) (zh zV ze (pv 3)) (nomark _)))))))
  (zg (zk zje))
   zJ)
  (zd (zo (i:=5) zdp.nd rfl (by walk_at "lc") (zr zcF hr (za (pv 0) (za (pv 2) zb))))
  (zd (zo (i:=6) zdp.nd rfl (by walk_at "lc") (zr zcF hr (za (pv 1) (za (pv 2) zb))))
  (zd (zP (zw zfd (zv zaT T.zH hr (pv 5)) (zv zaT T.zH hr (pv 6)) (nomark _))
  (zg (zk zje))
   zJ)
  (zd (zP (zw zfd (zv zd9 T.zH hr (pv 5)) (zh zV (zv zd9 T.zH hr (pv 6)) (zh zar (pv 3) (zdM zeR T.cls hr (zv zaE T.zu hr (pv 0))))) (nomark _))
  (zg (zk zje))
   zJ)
  (zg (zk (zeI zds (zv zaC T.zH hr (pv 5)) (zh zV (zv zaC T.zH hr (pv 6)) (pv 3)) (nomark _)))))))))),?_⟩
 have g0:=hh.nn
 obtain ⟨u0,u1⟩:=hh.u0
 nofun
 refine ⟨a,A,c,a',A',c',d,rfl,hB,hB',?_⟩
 rw[hh.gap]
 nofun
 ·ac_rfl
 ·ac_rfl
 refine ⟨a',A',c',a,A,c,d,rfl,hB',hB,?_⟩
 rw[hh.neg]
 nofun
 ·ac_rfl
 refine ⟨a,A,c,d,rfl,hB,hA,hd,fun x dx H1 nx s1 D1=>?_⟩
 nofun
 refine ⟨a',A',c',d,rfl,hB'.same s1,hA',hd,fun x' dx' H2 nx' s2 D2=>?_⟩
 have D1':=D1.same s2
 nofun
 have pr:=hh.pr
 have un:=hh.un
 have ow:=hh.ow
 have ue:=hh.ue
 rw[ue] at D2
 clear hh
 generalize (zY c d).1=m1 at *
 generalize (zY c d).2=n1 at *
 generalize (zY c' d).1=m2 at *
 generalize (zY c' d).2=n2 at *
 have B2:=hB.same (s1.trans s2)
 refine ⟨x,dx,_,rfl,D1',rfl,x,dx,_,_,_,rfl,D1',?_⟩
 nofun
 refine ⟨x',dx',_,rfl,D2,rfl,x',dx',_,_,_,rfl,D2,?_⟩
 nofun
 ·ac_rfl
 refine ⟨x,dx,_,rfl,D1',rfl,x,dx,_,_,_,rfl,D1',?_⟩
 nofun
 refine ⟨x',dx',_,rfl,D2,rfl,x',dx',_,_,_,rfl,D2,?_⟩
 nofun
 refine ⟨a,A.dx,_,rfl,B2.ins,rfl,a,A,c,rfl,B2,?_⟩
 nofun
 refine ⟨c.kd,A.c,rfl,B2.cnt,?_⟩
 nofun
 refine ⟨B2.cnt,?_⟩
 have ud:10000*yr c.kd=uB c:=rfl
 rw[ud]
 nofun
 ·ac_rfl
 refine ⟨x,dx,_,rfl,D1',rfl,x,dx,_,_,_,rfl,D1',⟨u0,u1⟩,?_⟩
 nofun
 refine ⟨x',dx',_,rfl,D2,rfl,x',dx',_,_,_,rfl,D2,⟨u0,u1⟩,?_⟩
 nofun
 show Q (V.bl (decide (n1 / uB c<=n2 / uB c-g))) H2
 rw[decide_eq_true ow]
 exact h _ (s1.trans s2)
theorem okS {n:Int} {c:BkT} (I:zbb c) {b:Int} (ok:Sgs n b c.es) (b0:0<=b) (g0:0<=c.g) (hl:c.es.length<=31):BOk c/\FOk c/\c.turns.length<32:=by
 refine ⟨zt2 I b0 g0 (fun e he=>(ok e he).lo) (fun w hw s hs=>?_) hl,⟨I.fees.up,fun s hs=>?_,?_⟩,?_⟩
 ·rcases hw with rfl | rfl
  ·exact ok.rate .rate (.inl rfl) s hs
  ·exact ok.rate .late (.inr rfl) s hs
 ·obtain ⟨u,hu,e⟩:=yaf.mp ((I.fees.mem s.1).mp (yay hs))
  obtain ⟨e',he,rfl⟩:=yaf.mp hu
  have:=(ok e' (yap.mp he).1).lo
  omega
 ·have:=zhg (Sby.zcW I.fees.up) fun k hk=>(I.fees.mem k).mp hk
  have pl:=ziG (w:="fee") (es:=c.es)
  rw[yab,yab] at this
  omega
 ·have:=zhg (Sby.zcW I.turns.up) fun k hk=>(I.turns.mem k).mp hk
  have pl:(dys "turn" c.es).length<=c.es.length:=by unfold dys;rw[yab];exact yav _ _
  omega
theorem zvl (kd:Kd):0<yr kd/\yr kd<=133590:=by cases kd <;> decide
theorem abS {n:Int} {c:BkT} (I:zbb c) {b:Int} (ok:Sgs n b c.es) (b0:0<=b) (g0:0<=c.g) (hl:c.es.length<=31):AB c:=by
 have y:=zvl c.kd
 exact zwo I b0 g0 (fun e he=>(ok e he).okA) hl (fun d=>zrN (by omega) (by omega)) (by unfold uB;omega) (by unfold uB;omega)
theorem hld {n m b d:Int} {c c':BkT} (I:zbb c) (I':zbb c') (ek:c.kd=c'.kd) (kp:zgP c.g c'.g c.es c'.es) (b0:0<=b) (o:Sgs n b c.es) (o':Sgs m b c'.es) (d0:0<=d):Hld c c' (gE c.es c'.es d) d:=by
 obtain ⟨k,rfl⟩:=Int.eq_ofNat_of_zero_le d0
 have y:=zvl c.kd
 have ue:uB c'=uB c:=by unfold uB;rw[ek]
 have u0:0<uB c/\uB c<1152921504606846976:=by unfold uB;omega
 have w:=kp.owes (U:=Uk c.kd) (u:=uB c) u0.1 (fun d=>zrN (by omega) (by omega)) b0 (fun e he=>(o e he).okA) (fun e he=>(o' e he).okA) k
 have e1:zY c k=saE (Uk c.kd) (uB c) c.g c.es k:=by
  show stA (Uk c.kd) (uB c) c ((k:Int).toNat)=_
  rw[yeh]
  exact zvq I k
 have e2:zY c' k=saE (Uk c.kd) (uB c) c'.g c'.es k:=by
  show stA (Uk c'.kd) (uB c') c' ((k:Int).toNat)=_
  rw[yeh,ue,<-ek]
  exact zvq I' k
 refine ⟨?_,?_,w.1,?_,?_,?_,ue,u0⟩
 ·unfold zoZ gE
  rw[zaI I.pays,zaI I'.pays,zaI I.fees,zaI I'.fees]
  omega
 ·unfold zoZ gE
  rw[zaI I.pays,zaI I'.pays,zaI I.fees,zaI I'.fees]
  omega
 ·rw[e1,e2];exact w.2.1
 ·rw[e1,e2];exact w.2.2.1
 ·rw[e1,e2];exact w.2.2.2
def zqc (K:W.Frag):Sp:=fun vs H Q _=>∃ (a:Addr) (ns:List Int),vs=[.ref a]/\SqL K H a (ns.map V.int)/\ns.length<=63/\∀ H',Q (.bl true) H'
theorem za3:zj ["_law_script", "_law_base", "_law_others", "_law_specs_here", "_law_k", "_law_grace", "_law_way", "_law_more", "_law_one", "_law_other", "_law_told", "_law_cell_here", "_law_day"] qbt (zi zmy):=by walk_at "sp"
theorem zxF (S:Src K mg "law" zmy qbt) (T:Txt K mg) (zai:Def P w K mg base 2 "_law_cell" qas (zhk K)) (zgw:Def P w K mg base 3 "_law_specs" qbn (zjW K)) (zgv:Def P w K mg base 2 "_law_eased" qbl (zjQ K)) (zfB:Def P w K mg base 1 "_law_parted" qbi (ziM K)) (zfi:Def P w K mg base 6 "_law_book" qbe (zkg K)) (zij:Def P w K mg base 6 "is_kinder" qad (zj9 K)) (zgH:Def P w K mg base 10 "_law_holds" qbs (zjT K)) (zgc:Def P w K mg base 1 "_law_gap" qbj (zlB K)) (zmm:Def P w K mg base 10 "owed" qae (zrT K)):Def P w K mg base 11 "law" qbt (zqc K):=by
 exists S.ok,za3,0
 all_goals obtain ⟨a,ns,rfl,hS,hl,h⟩:=h
 ·rfl
 refine ⟨_,(zd (zo (i:=1) za3.nd rfl (by walk_at "lc") (zh zI (zr zai hr (za (pv 0) (za ze zb))) ze))
  (zd (zo (i:=2) za3.nd rfl (by walk_at "lc") (zr zgw hr (za (pv 0) (za ze (za ze (za (pv 1) zb))))))
  (zd (zo (i:=3) za3.nd rfl (by walk_at "lc") (zU zaO rfl T.zcg PyProof.Rows.boot_list (za (pv 2) zb)))
  (zd (zcq PassesOwn.never rfl (zhx rfl T.zdF (za (zh zF ze (zh zI (zr zai hr (za (pv 0) (za ze zb))) ze)) zb)) (zac (i:=4) za3.nd rfl (by walk_at "lc"))
  (zg (zo (i:=3) za3.nd rfl (by walk_at "lc") (zr zgv hr (za (pv 3) (za (zr zai hr (za (pv 0) (za (zh zF ze (pv 4)) zb))) (za (pv 1) zb)))))))
  (zd (zo (i:=3) za3.nd rfl (by walk_at "lc") (zr zfB hr (za (pv 3) (za (zr zai hr (za (pv 0) (za ze zb))) zb))))
  (zd (zo (i:=5) za3.nd rfl (by walk_at "lc") (zh zI (zr zai hr (za (pv 0) (za ze zb))) ze))
  (zd (zo (i:=6) za3.nd rfl (by walk_at "lc") (zr zai hr (za (pv 0) (za ze zb))))
  (zd (zo (i:=7) za3.nd rfl (by walk_at "lc") ze)
  (zd (zda (zP (zw zan (zh zI (zh zS (zr zai hr (za (pv 0) (za ze zb))) ze) ze) ze (nomark _))
  (zg (zo (i:=7) za3.nd rfl (by walk_at "lc") (zh zI (zh zS (zr zai hr (za (pv 0) (za ze zb))) ze) ze)))
   zJ))
  (zd (zo (i:=8) za3.nd rfl (by walk_at "lc") (zr zfi hr (za (pv 3) (za (pv 6) (za (zh zF (pv 5) (pv 7)) zb)))))
  (zd (zo (i:=9) za3.nd rfl (by walk_at "lc") (zr zfi hr (za (pv 2) (za (pv 6) (za (pv 5) zb)))))
  (zd (zo (i:=10) za3.nd rfl (by walk_at "lc") (zr zij hr (za (pv 8) (za (pv 9) zb))))
  (zd (zP (PW.pt (zld (ziv (zc6 (zE zc8 rfl T.zbc PyProof.Rows.boot_isinstance (za (pv 10) (za (zix (v:=.ty "bool") rfl T.zky PyProof.Rows.boot_bool rfl) zb))))) (zmC (ziv (zc6 (pv 10))))))
  (zg (zk zje))
   zJ)
  (zd (zcq PassesOwn.never rfl (znz rfl T.zdF (za ze (za ze zb))) (zac (i:=4) za3.nd rfl (by walk_at "lc"))
  (zd (zo (i:=11) za3.nd rfl (by walk_at "lc") (zr zai hr (za (pv 0) (za (pv 4) zb))))
  (zd (zo (i:=12) za3.nd rfl (by walk_at "lc") (zh zF (pv 1) (zB zag (zaj (za (zh zI (zh zS (pv 11) ze) ze) (za (zh zI (zh zS (pv 11) ze) ze) (za (zh zI (zh zS (pv 11) ze) (zh zV ze (pv 1))) zb)))) (zh zI (pv 11) ze) (fun _ _=>rfl))))
  (zg (zP (ziv (zc6 (zr zgH hr (za (pv 8) (za (pv 9) (za (pv 12) (za (zr zgc hr (za (pv 3) (za (pv 2) (za (pv 12) zb)))) zb)))))))
  (zg (zk zje))
   zJ)))))
  (zd (zo (i:=12) za3.nd rfl (by walk_at "lc") (zh zF (pv 1) (zh zI (zr zai hr (za (pv 0) (za ze zb))) ze)))
  (zg (zk (zeI zds (zr zmm hr (za (pv 8) (za (pv 12) zb))) (zh zV (zr zmm hr (za (pv 9) (za (pv 12) zb))) (zr zgc hr (za (pv 3) (za (pv 2) (za (pv 12) zb))))) (nomark _))))))))))))))))))),?_⟩
 have sz:=sizeLine_eq
 nofun
 rename_i y y0 y1
 obtain ⟨b,hb⟩:∃ b:Int,b=y % 999700:=⟨_,rfl⟩
 have b0:0<=b/\b<=999699:=by ac_rfl
 dsimp only
 rw[<-hb]
 clear hb y0 y1
 refine ⟨a,ns,14,8,b,rfl,⟨by decide,by decide,by decide,by decide⟩,hS,b0,fun q1 rs1 es1 H1 nq1 s1 e1 R1 ok1 ⟨l1,l1'⟩=>?_⟩
 nofun
 refine ⟨q1,rs1,rfl,.inl (SqL.of e1),fun q2 nq2=>?_⟩
 have s2:=s1.trans (zc nq2 (.lst rs1))
 have e2:=zq (.lst rs1) nq2
 have e12:=zc nq2 (.lst rs1) _ _ e1
 have R2:=R1.same (zc nq2 (.lst rs1))
 generalize upd H1 q2 (.lst rs1)=H2 at s2 e2 e12 R2 ⊢
 have hS2:=s2.seq hS
 nofun
 rename_i r r0 r1
 refine zkA (fun j σ H'=>L2.Ee4 fun (q:Addr) (rs:List V) (es:List Er) (z:Option V)=>L2.Aa3 ((Same H2 H'/\H' q=some (.lst rs)/\RL3 H' rs es)) ((Sgs (j:Nat) b es/\(∀ g,za1 g es es1)/\es1.length<=es.length+j/\es.length<=es1.length+j)) (σ=[some (.ref a),some (.int b),some (.ref q1),some (.ref q),z,none,none,none,none,none,none,none,none]))
  ⟨q2,rs1,es1,none,⟨Same.refl _,e2,R2⟩,⟨ok1,fun g=>za1.refl g _,by ac_rfl,by ac_rfl⟩,rfl⟩ ?_ ?_
 ·rintro j σ H' hj ⟨q,rs,es,z,⟨sH,eq,hR⟩,⟨ok,ke,la,lb⟩,rfl⟩
  have hSH:=(s2.trans sH).seq hS
  nofun
  rename_i y y0 y1
  refine ⟨q,rs,es,y,b,j,rfl,eq,hR,⟨by ac_rfl,by ac_rfl,ok⟩,by ac_rfl,y0,b0,fun q' rs' es' H3 nq' s3 eq' R' ok' ke' ⟨lc,ld⟩=>?_⟩
  refine ⟨q',rs',es',_,⟨sH.trans s3,eq',R'⟩,⟨?_,fun g=>(ke' g).trans (ke g),by ac_rfl,by ac_rfl⟩,rfl⟩
  rw[show ((j+1:Nat):Int)=(j:Int)+1 by ac_rfl]
  exact ok'
 rintro σ H3 ⟨q3,rs3,es3,z,⟨s3,e3,R3⟩,⟨ok3,ke3,la3,lb3⟩,rfl⟩
 have ok3:=ok3.more (m:=4) (by ac_rfl)
 have hS3:=(s2.trans s3).seq hS
 have l3:es3.length<=12/\es1.length<=8:=by ac_rfl
 have R13:=R2.same s3
 have e13:=s3 _ _ e12
 clear la3 lb3 r0 r1 e12 e2 R2 R1 nq2 hS2
 nofun
 rename_i y y0 y1
 refine ⟨q3,rs3,es3,y,b,4,rfl,e3,R3,ok3,by ac_rfl,y0,fun q4 rs4 es4 H4 nq4 s4 e4 R4 ok4 os4 l4=>?_⟩
 have hS4:=s4.seq hS3
 have R14:=R13.same s4
 have e14:=s4 _ _ e13
 have l4':es4.length<=13:=by ac_rfl
 clear y0 y1 e3 R3 R13 e13 hS3
 nofun
 rename_i y2 _ _ W w0 w1
 obtain ⟨G,hG⟩:∃ G:Int,G=y2 % 41:=⟨_,rfl⟩
 have G0:0<=G/\G<=40:=by ac_rfl
 refine ⟨fun σ' H'=>H4=H'/\∃ M:Int,(0<=M/\M<=40)/\σ'=[some (.ref a),some (.int b),some (.ref q1),some (.ref q4),z,some (.int G),some (.int W),some (.int M),none,none,none,none,none],?_,?_⟩
 ·rw[hG]
  nofun
  ·exact ⟨_,⟨by ac_rfl,by ac_rfl⟩,rfl⟩
  ·exact ⟨0,⟨by ac_rfl,by ac_rfl⟩,rfl⟩
 rintro σ' H' ⟨rfl,M,M0,rfl⟩
 clear hG
 nofun
 refine ⟨q4,W,_,rs4,es4,rfl,⟨by ac_rfl,by ac_rfl⟩,SqL.of e4,R4,by ac_rfl,fun e he=>⟨(ok4 e he).nb,by have:=(ok4 e he).lo;ac_rfl⟩,fun a1 A1 c1 H5 na1 s5 B1 I1 k1 g1 x1=>?_⟩
 nofun
 refine ⟨q1,W,_,rs1,es1,rfl,⟨by ac_rfl,by ac_rfl⟩,SqL.of (s5 _ _ e14),R14.same s5,by ac_rfl,fun e he=>⟨(ok1 e he).nb,by have:=(ok1 e he).lo;ac_rfl⟩,fun a2 A2 c2 H6 na2 s6 B2 I2 k2 g2 x2=>?_⟩
 have sA:=s5.trans s6
 have B1a:=B1.same s6
 have hS6:=sA.seq hS4
 have R16:=R14.same sA
 have e16:=sA _ _ e14
 have R46:=R4.same sA
 have e46:=sA _ _ e4
 have oc1:Sgs 4 b c1.es:=by rw[x1];exact ok4
 have oc2:Sgs 0 b c2.es:=by rw[x2];exact ok1
 have o1:=okS I1 oc1 b0.1 (by ac_rfl) (by rw[x1];ac_rfl)
 have o2:=okS I2 oc2 b0.1 (by ac_rfl) (by rw[x2];ac_rfl)
 have A1':=abS I1 oc1 b0.1 (by ac_rfl) (by rw[x1];ac_rfl)
 have A2':=abS I2 oc2 b0.1 (by ac_rfl) (by rw[x2];ac_rfl)
 have kp:zgP c1.g c2.g c1.es c2.es:=by
  rw[g1,g2,x1,x2]
  exact zgP.of (ke3 G) os4 (by ac_rfl) ok3.due
 have ek:c1.kd=c2.kd:=by rw[k1,k2]
 clear s5 s6 B1 e4 R4 e14 R14 hS4
 nofun
 refine ⟨a1,A1,c1,a2,A2,c2,rfl,⟨B1a,o1⟩,⟨B2,o2⟩,fun v hv=>?_⟩
 obtain rfl:v=true:=hv.mpr (kp.kinder I1 I2 ek)
 clear hv o1 o2
 nofun
 refine ⟨_,_,_,true,rfl,.bl true,(by rfl),?_⟩
 nofun
 refine zkA (fun j σ H'=>∃ z0 z1 z2:Option V,Same H6 H'/\σ=[some (.ref a),some (.int b),some (.ref q1),some (.ref q4),z0,some (.int G),some (.int W),some (.int M),some (.ref a1),some (.ref a2),some (.bl true),z1,z2]) ⟨_,_,_,Same.refl _,rfl⟩ ?_ ?_
 ·rintro j σ H' hj ⟨z0,z1,z2,sH,rfl⟩
  have hSH:=sH.seq hS6
  have hj':j<3:=hj
  nofun
  rename_i c c0 c1'
  have m0:=yeb (c / 3) (show 1000000-b≠0 by ac_rfl)
  have m1:=yec (c / 3) (show 0<1000000-b by ac_rfl)
  intro p np
  have s7:=zc np (.lst [.int (c / 3 % 141),.int (c / 3 % 61),.int (c / 3 % (1000000-b))])
  obtain ⟨v,hv,hm⟩:=zcf (xs:=[.int (c / 3 % 141),.int (c / 3 % 61),.int (c / 3 % (1000000-b))]) (k:=c % 3) (by ac_rfl) (by simp;ac_rfl)
  obtain ⟨X,rfl,X0,X1⟩:=(zaf ⟨_,rfl,by ac_rfl,by ac_rfl⟩ (zaf ⟨_,rfl,by ac_rfl,by ac_rfl⟩ (zaf ⟨_,rfl,by ac_rfl,by ac_rfl⟩ zii)):∀ v∈([.int (c / 3 % 141),.int (c / 3 % 61),.int (c / 3 % (1000000-b))]:List V),∃ w:Int,v=.int w/\0<=w/\b+w<=1000000) v hm
  nofun
  refine ⟨p,_,_,_,rfl,rfl,SqL.of zf,hv,?_⟩
  clear hv hm m0 m1
  generalize upd H' p (.lst [.int (c / 3 % 141),.int (c / 3 % 61),.int (c / 3 % (1000000-b))])=H7 at s7 ⊢
  have s67:=sH.trans s7
  have hd:=hld (d:=b+X) I1 I2 ek kp b0.1 oc1 oc2 (by ac_rfl)
  nofun
  refine ⟨q4,q1,rs4,rs1,es4,es1,_,rfl,⟨s67 _ _ e46,R46.same s67,by ac_rfl⟩,⟨s67 _ _ e16,R16.same s67,by ac_rfl⟩,fun H8 s8=>?_⟩
  have s68:=s67.trans s8
  rw[x1,x2] at hd
  nofun
  refine ⟨a1,A1,c1,a2,A2,c2,_,_,rfl,⟨B1a.same s68,A1'⟩,⟨B2.same s68,A2'⟩,⟨by ac_rfl,by ac_rfl⟩,hd,fun H9 s9=>?_⟩
  nofun
  exact ⟨_,_,_,s68.trans s9,rfl⟩
 rintro σ H7 ⟨z0,z1,z2,s7,rfl⟩
 have hS7:=s7.seq hS6
 nofun
 rename_i c c0 c1'
 obtain ⟨D,hD⟩:∃ D:Int,D=b+c % 141:=⟨_,rfl⟩
 have D0:0<=D/\D<=1000000:=by ac_rfl
 dsimp only
 rw[<-hD]
 have hd:=hld (d:=D) I1 I2 ek kp b0.1 oc1 oc2 (by ac_rfl)
 clear hD
 refine ⟨a1,A1,c1,D,rfl,B1a.same s7,A1',D0,?_⟩
 nofun
 refine ⟨a2,A2,c2,D,rfl,B2.same s7,A2',D0,?_⟩
 nofun
 refine ⟨q4,q1,rs4,rs1,es4,es1,_,rfl,⟨s7 _ _ e46,R46.same s7,by ac_rfl⟩,⟨s7 _ _ e16,R16.same s7,by ac_rfl⟩,fun H8 s8=>?_⟩
 nofun
 have ow:=hd.ow
 rw[x1,x2] at ow
 show Q (V.bl (decide ((zY c1 D).2 / uB c1<=(zY c2 D).2 / uB c2-gE es4 es1 D))) H8
 rw[hd.ue,decide_eq_true ow]
 exact h _
end
theorem zwz {K:W.Frag} {mg:Str->Option Value} (T:Txt K mg) (zjE:Src K mg "table_of" zgg qal) (znn:Src K mg "begun" zla qah) (zi4:Src K mg "sum_upto" zf4 qah) (zez:Src K mg "running_sums" zcQ ["rows"]) (zlT:Src K mg "joined" ziT ["spans"]) (zl0:Src K mg "breaks" zjs qbf) (zjg:Src K mg "is_whole" zgd ["thing"]) (zke:Src K mg "is_leap" zhp qai) (zjd:Src K mg "new_year" zf8 qai) (zl5:Src K mg "summed" zjH qal) (zhl:Src K mg "_law_whole" zdQ qau) (zir:Src K mg "_law_draw" zfp qbg) (zio:Src K mg "_law_spec" ze7 qbh) (zg4:Src K mg "_law_count" zem qav) (zfM:Src K mg "_law_places" zdq qaw) (zfC:Src K mg "_law_parted" zdd qbi) (zi3:Src K mg "_law_gap" zgj qbj) (zjk:Src K mg "value_at" zf3 qar) (zlR:Src K mg "handed" zjq qae) (zim:Src K mg "late_sums" ze3 qag) (znt:Src K mg "moved" zkT qak) (zgX:Src K mg "month_days" zdR qax) (zkc:Src K mg "year_of" zhF qan) (zey:Src K mg "turning_days" zcH qag) (zgT:Src K mg "deeds_upto" zej qao) (zic:Src K mg "is_within" zfn qaz) (zlM:Src K mg "sum_by" zjB qaf) (zkb:Src K mg "days_of" zhq qaf) (zgS:Src K mg "rate_table" zd7 qaf) (zfX:Src K mg "still_spans" zdf qbk) (zh4:Src K mg "_law_cell" ze5 qas) (zgM:Src K mg "_law_eased" zdX qbl) (zlW:Src K mg "stands" zjr qak) (zkB:Src K mg "date_of" zhs qan) (zdt:Src K mg "is_never_above" zb5 qad) (zlN:Src K mg "gap_at" ziV qbm) (zfN:Src K mg "check_terms" zdl qba) (zfE:Src K mg "fallen_dues" zdr qbb) (zhj:Src K mg "_law_specs" zec qbn) (zjn:Src K mg "charging" zgh qbo) (zcs:Src K mg "is_asked_no_more" zbG qad) (zj2:Src K mg "burdens" zhw qag) (zji:Src K mg "do_deeds" zf5 qbc) (zgA:Src K mg "_law_entry" zdY qbp) (zcc:Src K mg "is_charged_no_more" zbh qad) (zh0:Src K mg "is_kinder" ze8 qad) (zgG:Src K mg "charged_by" zd1 qbq) (zhM:Src K mg "_law_book" zfl qbe) (zeJ:Src K mg "debts_behind" zcJ qbr) (zfQ:Src K mg "accounts_at" zdi qao) (zkx:Src K mg "account" zhA qae) (zpX:Src K mg "owed" zmE qae) (zgC:Src K mg "_law_holds" zeb qbs) (zoG:Src K mg "law" zmy qbt) (zg9:zp K (cA K (Ek.cls .out)) "word" "Out.word" zgl qaa) (zgD:zp K (cA K (Ek.cls .fee)) "word" "Fee.word" zgi qaa) (zgE:zp K (cA K (Ek.cls .pay)) "word" "Pay.word" zgk qaa) (zg2:zp K (cA K (Ek.cls .due)) "word" "Due.word" zga qaa) (zfI:zp K (cA K (Ek.cls .turn)) "word" "Turn.word" zfc qaa) (zfY:zp K (cA K (Ek.cls .rate)) "word" "Rate.word" zeW qaa) (zfZ:zp K (cA K (Ek.cls .late)) "word" "Late.word" zfk qaa) (zeU:zp K (cA K (Ek.cls .still)) "word" "Still.word" zel qaa) (zfJ:zp K (cA K (Ek.cls .base)) "word" "Entry.word" zeg qaa) (ziY:zp K (cA K "Due") "__init__" "AmountEntry.__init__" zaa qaj) (zjy:zp K (cA K "Fee") "__init__" "AmountEntry.__init__" zaa qaj) (zie:zp K (cA K "Late") "__init__" "RateEntry.__init__" za5 qap) (zjD:zp K (cA K "Out") "__init__" "AmountEntry.__init__" zaa qaj) (zja:zp K (cA K "Pay") "__init__" "AmountEntry.__init__" zaa qaj) (zh5:zp K (cA K "Rate") "__init__" "RateEntry.__init__" za5 qap) (zgR:zp K (cA K "Still") "__init__" "Still.__init__" zek qay) (zhQ:zp K (cA K "Turn") "__init__" "Entry.__init__" zbv qab) (zeM:zo9 K (cA K "Entry") "__init__" "Entry.__init__" zbv qab) (zh6:zp K (cA K "Debt") "grow" "Debt.grow" ze6 qat) (zik:zp K (cA K "Debt") "__init__" "Debt.__init__" zfe qaq) (zhS:zp K (cA K "Debt") "owed" "Debt.owed" zfj qaa) (zdB:zp K (cA K "Debt") "principal" "Debt.principal" zce qaa) (zgF:zp K (cA K "Debt") "units" "Debt.units" zdS qaa) (zgN:zp K (cA K "Book") "count" "Book.count" zei qaa) (zdx:zp K (cA K "Book") "deed_days" "Book.deed_days" zb3 qaa) (ziq:zp K (cA K "Book") "dues" "Book.dues" ze1 qaa) (zhO:zp K (cA K "Book") "fees" "Book.fees" zfa qaa) (zhc:zp K (cA K "Book") "grace" "Book.grace" zeo qaa) (zgL:zp K (cA K "Book") "lates" "Book.lates" zeh qaa) (zh1:zp K (cA K "Book") "outs" "Book.outs" zfm qaa) (zhJ:zp K (cA K "Book") "pays" "Book.pays" zfb qaa) (zg7:zp K (cA K "Book") "rates" "Book.rates" zd6 qaa) (zfA:zp K (cA K "Book") "stills" "Book.stills" zdk qaa) (zgI:zp K (cA K "Book") "turns" "Book.turns" zee qaa) (zdy:zp K (cA K "Debt") "add_cents" "Debt.add_cents" zb2 qac) (zh8:zp K (cA K "Debt") "turn" "Debt.turn" zeX qaa) (zhN:zp K (cA K "Debt") "copy" "Debt.copy" ze9 qaa) (zi0:zp K (cA K "Debt") "fee" "Debt.fee" zf6 qac) (zib:zp K (cA K "Debt") "lend" "Debt.lend" zfo qac) (zhK:zp K (cA K "Debt") "take" "Debt.take" zfh qac) (zh7:zp K (cA K "Book") "__init__" "Book.__init__" zeY qbd) (zgZ:zp K (cA K (Kd.cls .plain)) "name" "Count.name" zd0 qaa) (zhX:zp K (cA K (Kd.cls .bank)) "name" "Bank.name" ze0 qaa) (zfF:zp K (cA K (Kd.cls .thirty)) "name" "Thirty.name" zdj qaa) (zgK:zp K (cA K (Kd.cls .exact)) "name" "Exact.name" zdN qaa) (zgu:zp K (cA K (Kd.cls .plain)) "year" "Count.year" zep qaa) (zhU:zp K (cA K (Kd.cls .bank)) "year" "Bank.year" zeZ qaa) (zfO:zp K (cA K (Kd.cls .thirty)) "year" "Thirty.year" zdh qaa) (zhh:zp K (cA K (Kd.cls .exact)) "year" "Exact.year" zef qaa) (zgy:zp K (cA K (Kd.cls .plain)) "unit" "Count.unit" zaN qaa) (zis:zp K (cA K (Kd.cls .bank)) "unit" "Count.unit" zaN qaa) (zfU:zp K (cA K (Kd.cls .thirty)) "unit" "Count.unit" zaN qaa) (zhm:zp K (cA K (Kd.cls .exact)) "unit" "Count.unit" zaN qaa) (zgJ:zp K (cA K (Kd.cls .plain)) "upto" "Count.upto" zbS qab) (zhZ:zp K (cA K (Kd.cls .bank)) "upto" "Count.upto" zbS qab) (zfL:zp K (cA K (Kd.cls .thirty)) "upto" "Thirty.upto" zde qab) (zhf:zp K (cA K (Kd.cls .exact)) "upto" "Exact.upto" zd5 qab) (zex:zp K (cA K (Kd.cls .plain)) "weight" "Count.weight" zaA qam) (zfP:zp K (cA K (Kd.cls .bank)) "weight" "Count.weight" zaA qam) (zen:zp K (cA K (Kd.cls .thirty)) "weight" "Count.weight" zaA qam) (zeC:zp K (cA K (Kd.cls .exact)) "weight" "Count.weight" zaA qam) {P:Program} {w:World} {base:Heap}:Def P w K mg base 11 "law" qbt (zqc K):=by
 have zjx:=zsx (P:=P) (w:=w) (base:=base) zjE T
 have zcR:=zvD (P:=P) (w:=w) (base:=base) znn T
 have zcb:=zsn (P:=P) (w:=w) (base:=base) zi4 T
 have zal:=zng (P:=P) (w:=w) (base:=base) zez T
 have zlD:=zuF (P:=P) (w:=w) (base:=base) zlT T
 have zlG:=zut (P:=P) (w:=w) (base:=base) zl0 T
 have zjj:=zsg (P:=P) (w:=w) (base:=base) zjg T
 have zdH:=ztY (P:=P) (w:=w) (base:=base) zke T
 have zbg:=zsU (P:=P) (w:=w) (base:=base) zjd T
 have zhT:=zrk (P:=P) (w:=w) (base:=base) zh6 T
 have zcj:=zri (P:=P) (w:=w) (base:=base) zik T
 have zaC:=zrq (P:=P) (w:=w) (base:=base) zhS T
 have zaT:=zlY (P:=P) (w:=w) (base:=base) zdB T
 have zd9:=zp9 (P:=P) (w:=w) (base:=base) zgF T
 have zjl:∀ kd:Kd,zt P w K mg base 1 (cA K kd.cls) "name" qaa (zdG kd K):=fun kd=>by
  cases kd
  ·exact zpy .plain (by simp) zgZ T
  ·exact zqZ .bank (by simp) zhX T
  ·exact zos .thirty (by simp) zfF T
  ·exact zpI .exact (by simp) zgK T
 have zb1:∀ kd:Kd,zt P w K mg base 1 (cA K kd.cls) "year" qaa (zcD kd K):=fun kd=>by
  cases kd
  ·exact zqa .plain (by simp) zgu T
  ·exact zre .bank (by simp) zhU T
  ·exact zoC .thirty (by simp) zfO T
  ·exact zpH .exact (by simp) zhh T
 have zab:=zn0 (P:=P) (w:=w) (base:=base) zeM T
 have zhP:=zoX (P:=P) (w:=w) (base:=base) "Turn" zhQ T
 have zbd:∀ k:Ek,zt P w K mg base 1 (cA K k.cls) "word" qaa (zaJ k K):=fun k=>by
  cases k
  ·exact zsP .out (by simp) zg9 T
  ·exact zsX .fee (by simp) zgD T
  ·exact zsq .pay (by simp) zgE T
  ·exact zsu .due (by simp) zg2 T
  ·exact zqE .turn (by simp) zfI T
  ·exact zq1 .rate (by simp) zfY T
  ·exact zrt .late (by simp) zfZ T
  ·exact zqq .still (by simp) zeU T
  ·exact zp7 .base (by simp) zfJ T
 have zeQ:=zug (P:=P) (w:=w) (base:=base) zl5 T
 have zaE:=zqu (P:=P) (w:=w) (base:=base) zgN T
 have zdD:=zl3 (P:=P) (w:=w) (base:=base) zdx T
 have zcl:=zqX (P:=P) (w:=w) (base:=base) ziq T
 have zaL:=zrc (P:=P) (w:=w) (base:=base) zhO T
 have zbV:=zpU (P:=P) (w:=w) (base:=base) zhc T
 have zaM:=zpL (P:=P) (w:=w) (base:=base) zgL T
 have zbI:=zq3 (P:=P) (w:=w) (base:=base) zh1 T
 have zah:=zqR (P:=P) (w:=w) (base:=base) zhJ T
 have zaQ:=zoO (P:=P) (w:=w) (base:=base) zg7 T
 have zaq:=zob (P:=P) (w:=w) (base:=base) zfA T
 have zbr:=zpo (P:=P) (w:=w) (base:=base) zgI T
 have zgz:=zqp (P:=P) (w:=w) (base:=base) zhl T
 have zff:=zqJ (P:=P) (w:=w) (base:=base) zir T
 have zid:=zrd (P:=P) (w:=w) (base:=base) zio T
 have zgB:=zqj (P:=P) (w:=w) (base:=base) zg4 T
 have zfT:=zn3 (P:=P) (w:=w) (base:=base) zfM T
 have zfB:=zn5 (P:=P) (w:=w) (base:=base) zfC T
 have zgc:=zsL (P:=P) (w:=w) (base:=base) zi3 T
 have zaG:=zsD zjk T zcR
 have ziZ:=zub zlR T zcb zah
 have zbK:=zrg zim T zal zcl zbV
 have zgn:=zv4 znt T zcR
 have zdZ:=zpr zgX T zdH
 have zdL:=ztq zkc T zbg
 have zaz:=zlX zdy T zaC
 have zhR:=zrb zh8 T zaC
 have zew:=zmU zey T zaQ zaM zah zcl zbV zaq
 have zg8:=zpN zgT T zbI zaL zbr zah zdD
 have zeR:∀ kd:Kd,zt P w K mg base 2 (cA K kd.cls) "unit" qaa (zhu kd K):=fun kd=>by
  cases kd
  ·exact zd4 .plain (by simp) zgy T zb1
  ·exact zd4 .bank (by simp) zis T zb1
  ·exact zd4 .thirty (by simp) zfU T zb1
  ·exact zd4 .exact (by simp) zhm T zb1
 have ziQ:=zbE "Due" ziY T zab
 have zjo:=zbE "Fee" zjy T zab
 have zi9:=zbE "Out" zjD T zab
 have ziW:=zbE "Pay" zja T zab
 have zh3:=zgO "Late" zie T zab
 have zig:=zgO "Rate" zh5 T zab
 have zgY:=zpG "Still" zgR T zab
 have zih:=zrr zic T zjj
 have zct:=zus zlM T zeQ zbd
 have zko:=zs0 zkb T zbd
 have zd2:=zpA zgS T zjx zbd
 have zfH:=zn6 zfX T zbd zlD
 have zai:=zrp zh4 T zff
 have zgv:=zpa zgM T zfT
 have zeO:=zuR zlW T zgn
 have zkq:=zt5 zkB T zdL zbg zdZ
 have zay:=zlJ zdt T zaG
 have ziX:=zuD zlN T ziZ zcb zaL
 have zhL:=zrm zhN T zcj
 have ziR:=zsH zi0 T zaz
 have zhV:=zq8 zib T zaz
 have zhW:=zrf zhK T zaz
 have zfG:=zoe zfN T zih
 have zfW:=zoy zfE T zeQ zct zgn
 have zgw:=zpt zhj T zai zid
 have zcT:=zsJ zjn T zlG zeO zaG
 have zcz:=zj5 zcs T zay zal zah zaL zbK
 have zj0:=ztw zj2 T zaq zaQ zaM zbK zal zah zew zeO zaG
 have zjI:=zsE zji T zhV ziR zhR zhW
 have zdC:∀ kd:Kd,zt P w K mg base 4 (cA K kd.cls) "upto" qab (zfs kd K):=fun kd=>by
  cases kd
  ·exact zku .plain (by simp) zgJ T
  ·exact zku .bank (by simp) zhZ T
  ·exact zol .thirty (by simp) zfL T zkq
  ·exact zqn .exact (by simp) zhf T zdL zdH zb1 zbg
 have zit:=zrn zh7 T zfG zct zko zd2 zfH zfW
 have zgQ:=zpc zgA T zi9 ziW ziQ zjo zig zh3 zgY zhP
 have zb9:=zi7 zcc T zay zcT zaq zaQ zaM
 have zjw:∀ kd:Kd,zt P w K mg base 5 (cA K kd.cls) "weight" qam (zh2 kd K):=fun kd=>by
  cases kd
  ·exact zcI .plain (by simp) zex T zdC
  ·exact zcI .bank (by simp) zfP T zdC
  ·exact zcI .thirty (by simp) zen T zdC
  ·exact zcI .exact (by simp) zeC T zdC
 have zij:=zq0 zh0 T zbI zjl zaE zbr zb9 zcz
 have zg0:=zp2 zgG T zcR zjw
 have zfi:=zqU zhM T zit zgQ zgB
 have zeA:=znr zeJ T zj0 zcj zeR zaE zhT zg0 zaT zjI zhL
 have zfR:=zoc zfQ T zg8 zeA
 have zcF:=ztc zkx T zfR
 have zmm:=zwD zpX T zaC zcF
 have zgH:=zpS zgC T ziX zgz zcF zaT zd9 zeR zaE zaC
 have zxk:=zxF zoG T zai zgw zgv zfB zfi zij zgH zgc zmm
 exact zxk
end My
local macro_rules | `(tactic| walk_at "m")=>do
 let [i,f,k,l,c,b]:=[`i,`f,`k,`l,`c,`b].map Lean.mkIdent | unreachable!
 `(tactic| ((case $i:ident=>k_is);(case $f:ident=>k_is);(case $k:ident=>k_is);(case $l:ident=>k_is);(case $c:ident=>k_is);(case $b:ident=>walk_at "s1")))
local macro_rules | `(tactic| walk_at "n")=>do
 let [a,l,c,k,b]:=[`a,`l,`c,`k,`b].map Lean.mkIdent | unreachable!
 `(tactic| ((case $a:ident=>k_is);(case $l:ident=>k_is);(case $c:ident=>k_is);(case $k:ident=>k_is);(case $b:ident=>walk_at "s1")))
local macro_rules | `(tactic| exists $x:term,$y:term,$z:term,$t:term,$u:term)=>do
 let [i,f,k,l,c,b]:=[`i,`f,`k,`l,`c,`b].map Lean.mkIdent | unreachable!
 `(tactic| (refine' L2.zA (m:=$x) (qual:=$y) (st:=$z) (ps:=$t) $u ?$i ?$f ?$k ?$l ?$c ?$b;walk_at "m"))
local macro_rules | `(tactic| exists $x:term,$y:term,$t:term)=>do
 let [X,G,a,l,c,k,b]:=[`KX,`G,`a,`l,`c,`k,`b].map Lean.mkIdent | unreachable!
 `(tactic| (refine' L2.zG (x:=$x) (st:=$y) (ps:=$t) $X $G ?$a ?$l ?$c ?$k ?$b;walk_at "n"))
open PySem PySem.W PyProof.Rows L2 My
set_option maxRecDepth 100000 in
set_option maxHeartbeats 0 in
theorem PySem.Challenge.cw_loanroll_k72_whole_the_kinder_owes_less_holds : PySem.Challenge.rw_loanroll_k72_whole_the_kinder_owes_less.Holds := by
 refine _root_.hd ?_
 k_fill
 refine zu4 (l:=PySem.Challenge.rw_loanroll_k72_whole_the_kinder_owes_less) (lv:=11) (sp:=zqc) (x:="_law_script") (st:=zmy) rfl rfl rfl ⟨rfl,by decide,by decide⟩ (fun w h Y=>PySem.W.kIn_of Y) ?F (fun K H a ns hl hS=>⟨a,ns,rfl,hS,hl,fun _=>rfl⟩)
 case F =>
  intro w mg h KX G
  have zsI:mg "all" = none:=mg_none_of KX G (by k_is)
  have zky:mg "bool" = none:=mg_none_of KX G (by k_is)
  have zfw:mg "dict" = none:=mg_none_of KX G (by k_is)
  have zoM:mg "int" = none:=mg_none_of KX G (by k_is)
  have zbc:mg "isinstance" = none:=mg_none_of KX G (by k_is)
  have zbD:mg "len" = none:=mg_none_of KX G (by k_is)
  have zcg:mg "list" = none:=mg_none_of KX G (by k_is)
  have zd8:mg "max" = none:=mg_none_of KX G (by k_is)
  have zjF:mg "min" = none:=mg_none_of KX G (by k_is)
  have zdF:mg "range" = none:=mg_none_of KX G (by k_is)
  have zge:mg "set" = none:=mg_none_of KX G (by k_is)
  have zbJ:mg "sorted" = none:=mg_none_of KX G (by k_is)
  have zsv:mg "sum" = none:=mg_none_of KX G (by k_is)
  have a_Bank:=by refine' zbq (x:="Bank") KX ?a;case a=>k_is
  have a_Book:=by refine' zbq (x:="Book") KX ?a;case a=>k_is
  have a_Count:=by refine' zbq (x:="Count") KX ?a;case a=>k_is
  have a_Debt:=by refine' zbq (x:="Debt") KX ?a;case a=>k_is
  have a_Due:=by refine' zbq (x:="Due") KX ?a;case a=>k_is
  have a_Entry:=by refine' zbq (x:="Entry") KX ?a;case a=>k_is
  have a_Exact:=by refine' zbq (x:="Exact") KX ?a;case a=>k_is
  have a_Fee:=by refine' zbq (x:="Fee") KX ?a;case a=>k_is
  have a_Late:=by refine' zbq (x:="Late") KX ?a;case a=>k_is
  have a_Out:=by refine' zbq (x:="Out") KX ?a;case a=>k_is
  have a_Pay:=by refine' zbq (x:="Pay") KX ?a;case a=>k_is
  have a_Rate:=by refine' zbq (x:="Rate") KX ?a;case a=>k_is
  have a_Still:=by refine' zbq (x:="Still") KX ?a;case a=>k_is
  have a_Thirty:=by refine' zbq (x:="Thirty") KX ?a;case a=>k_is
  have a_Turn:=by refine' zbq (x:="Turn") KX ?a;case a=>k_is
  have cls_Count:=by refine' zbt a_Count ?_ ?_ ?_ ?_;all_goals k_is
  have zt8:=by refine' zmw a_Count ?_ ?_ ?_;all_goals k_is
  have cls_Bank:=by refine' zbt a_Bank ?_ ?_ ?_ ?_;all_goals k_is
  have zuT:=by refine' zmw a_Bank ?_ ?_ ?_;all_goals k_is
  have cls_Thirty:=by refine' zbt a_Thirty ?_ ?_ ?_ ?_;all_goals k_is
  have zsa:=by refine' zmw a_Thirty ?_ ?_ ?_;all_goals k_is
  have cls_Exact:=by refine' zbt a_Exact ?_ ?_ ?_ ?_;all_goals k_is
  have zt3:=by refine' zmw a_Exact ?_ ?_ ?_;all_goals k_is
  have zgZ:=by exists "name","Count.name",zd0,qaa,a_Count
  have zgu:=by exists "year","Count.year",zep,qaa,a_Count
  have zgy:=by exists "unit","Count.unit",zaN,qaa,a_Count
  have zgJ:=by exists "upto","Count.upto",zbS,qab,a_Count
  have zex:=by exists "weight","Count.weight",zaA,qam,a_Count
  have zhX:=by exists "name","Bank.name",ze0,qaa,a_Bank
  have zhU:=by exists "year","Bank.year",zeZ,qaa,a_Bank
  have zis:=by exists "unit","Count.unit",zaN,qaa,a_Bank
  have zhZ:=by exists "upto","Count.upto",zbS,qab,a_Bank
  have zfP:=by exists "weight","Count.weight",zaA,qam,a_Bank
  have zfF:=by exists "name","Thirty.name",zdj,qaa,a_Thirty
  have zfO:=by exists "year","Thirty.year",zdh,qaa,a_Thirty
  have zfU:=by exists "unit","Count.unit",zaN,qaa,a_Thirty
  have zfL:=by exists "upto","Thirty.upto",zde,qab,a_Thirty
  have zen:=by exists "weight","Count.weight",zaA,qam,a_Thirty
  have zgK:=by exists "name","Exact.name",zdN,qaa,a_Exact
  have zhh:=by exists "year","Exact.year",zef,qaa,a_Exact
  have zhm:=by exists "unit","Count.unit",zaN,qaa,a_Exact
  have zhf:=by exists "upto","Exact.upto",zd5,qab,a_Exact
  have zeC:=by exists "weight","Count.weight",zaA,qam,a_Exact
  have ikK_Count:=by refine' zlb a_Count ?_ ?_ ?_ ?_;all_goals k_is
  have kS_Count:=by refine' zkS (v:=false) (n:="str") a_Count ?_;kit_is
  have kK_Count_Count:=by refine' zmG (v:=true) a_Count a_Count ?_;kit_is
  have ikK_Bank:=by refine' zlb a_Bank ?_ ?_ ?_ ?_;all_goals k_is
  have kS_Bank:=by refine' zkS (v:=false) (n:="str") a_Bank ?_;kit_is
  have kK_Bank_Count:=by refine' zmG (v:=true) a_Bank a_Count ?_;kit_is
  have ikK_Thirty:=by refine' zlb a_Thirty ?_ ?_ ?_ ?_;all_goals k_is
  have kS_Thirty:=by refine' zkS (v:=false) (n:="str") a_Thirty ?_;kit_is
  have kK_Thirty_Count:=by refine' zmG (v:=true) a_Thirty a_Count ?_;kit_is
  have ikK_Exact:=by refine' zlb a_Exact ?_ ?_ ?_ ?_;all_goals k_is
  have kS_Exact:=by refine' zkS (v:=false) (n:="str") a_Exact ?_;kit_is
  have kK_Exact_Count:=by refine' zmG (v:=true) a_Exact a_Count ?_;kit_is
  have zpV:=zdw KX G a_Bank
  have zqv:=zdw KX G a_Book
  have zkW:=zdw KX G a_Count
  have zmh:=zdw KX G a_Debt
  have zsb:=zdw KX G a_Due
  have ziJ:=zdw KX G a_Entry
  have zm7:=zdw KX G a_Exact
  have zsB:=zdw KX G a_Fee
  have zqo:=zdw KX G a_Late
  have zsN:=zdw KX G a_Out
  have zsO:=zdw KX G a_Pay
  have zp6:=zdw KX G a_Rate
  have zmI:=zdw KX G a_Still
  have zlS:=zdw KX G a_Thirty
  have zpK:=zdw KX G a_Turn
  have zu:=by refine' zbt a_Book ?_ ?_ ?_ ?_;all_goals k_is
  have zmW:=by refine' zdb a_Book ?_ ?_;all_goals k_is
  have zH:=by refine' zbt a_Debt ?_ ?_ ?_ ?_;all_goals k_is
  have zk8:=by refine' zdb a_Debt ?_ ?_;all_goals k_is
  have clE_Out:=by refine' zbt a_Out ?_ ?_ ?_ ?_;all_goals k_is
  have clE_Fee:=by refine' zbt a_Fee ?_ ?_ ?_ ?_;all_goals k_is
  have clE_Pay:=by refine' zbt a_Pay ?_ ?_ ?_ ?_;all_goals k_is
  have clE_Due:=by refine' zbt a_Due ?_ ?_ ?_ ?_;all_goals k_is
  have clE_Turn:=by refine' zbt a_Turn ?_ ?_ ?_ ?_;all_goals k_is
  have clE_Rate:=by refine' zbt a_Rate ?_ ?_ ?_ ?_;all_goals k_is
  have clE_Late:=by refine' zbt a_Late ?_ ?_ ?_ ?_;all_goals k_is
  have clE_Still:=by refine' zbt a_Still ?_ ?_ ?_ ?_;all_goals k_is
  have clE_Entry:=by refine' zbt a_Entry ?_ ?_ ?_ ?_;all_goals k_is
  have zmR:=by
   refine' zL (name:="amount") a_Out ?_
   k_is
  have zm8:=by
   refine' zL (name:="amount") a_Fee ?_
   k_is
  have zne:=by
   refine' zL (name:="amount") a_Pay ?_
   k_is
  have zmN:=by
   refine' zL (name:="amount") a_Due ?_
   k_is
  have zmD:=by
   refine' zL (name:="amount") a_Turn ?_
   k_is
  have zmH:=by
   refine' zL (name:="amount") a_Rate ?_
   k_is
  have zmz:=by
   refine' zL (name:="amount") a_Late ?_
   k_is
  have zl2:=by
   refine' zL (name:="amount") a_Still ?_
   k_is
  have zlV:=by
   refine' zL (name:="amount") a_Entry ?_
   k_is
  have zqO:=by
   refine' zL (name:="day") a_Out ?_
   k_is
  have zrl:=by
   refine' zL (name:="day") a_Fee ?_
   k_is
  have zqV:=by
   refine' zL (name:="day") a_Pay ?_
   k_is
  have zqD:=by
   refine' zL (name:="day") a_Due ?_
   k_is
  have zoY:=by
   refine' zL (name:="day") a_Turn ?_
   k_is
  have zpg:=by
   refine' zL (name:="day") a_Rate ?_
   k_is
  have zqe:=by
   refine' zL (name:="day") a_Late ?_
   k_is
  have zoz:=by
   refine' zL (name:="day") a_Still ?_
   k_is
  have zoB:=by
   refine' zL (name:="day") a_Entry ?_
   k_is
  have zpz:=by
   refine' zL (name:="rate") a_Out ?_
   k_is
  have zpT:=by
   refine' zL (name:="rate") a_Fee ?_
   k_is
  have zpw:=by
   refine' zL (name:="rate") a_Pay ?_
   k_is
  have zph:=by
   refine' zL (name:="rate") a_Due ?_
   k_is
  have zot:=by
   refine' zL (name:="rate") a_Turn ?_
   k_is
  have zoa:=by
   refine' zL (name:="rate") a_Rate ?_
   k_is
  have zoD:=by
   refine' zL (name:="rate") a_Late ?_
   k_is
  have znh:=by
   refine' zL (name:="rate") a_Still ?_
   k_is
  have zni:=by
   refine' zL (name:="rate") a_Entry ?_
   k_is
  have zog:=by
   refine' zL (name:="until") a_Out ?_
   k_is
  have zou:=by
   refine' zL (name:="until") a_Fee ?_
   k_is
  have zoo:=by
   refine' zL (name:="until") a_Pay ?_
   k_is
  have zn9:=by
   refine' zL (name:="until") a_Due ?_
   k_is
  have znk:=by
   refine' zL (name:="until") a_Turn ?_
   k_is
  have znu:=by
   refine' zL (name:="until") a_Rate ?_
   k_is
  have znv:=by
   refine' zL (name:="until") a_Late ?_
   k_is
  have zmr:=by
   refine' zL (name:="until") a_Still ?_
   k_is
  have zmp:=by
   refine' zL (name:="until") a_Entry ?_
   k_is
  have zpf:=by refine' zdb a_Due ?_ ?_;all_goals k_is
  have zp5:=by refine' zdb a_Fee ?_ ?_;all_goals k_is
  have zm6:=by refine' zdb a_Late ?_ ?_;all_goals k_is
  have zo5:=by refine' zdb a_Out ?_ ?_;all_goals k_is
  have zpn:=by refine' zdb a_Pay ?_ ?_;all_goals k_is
  have zmP:=by refine' zdb a_Rate ?_ ?_;all_goals k_is
  have zlO:=by refine' zdb a_Still ?_ ?_;all_goals k_is
  have znd:=by refine' zdb a_Turn ?_ ?_;all_goals k_is
  have zg9:=by exists "word","Out.word",zgl,qaa,a_Out
  have zgD:=by exists "word","Fee.word",zgi,qaa,a_Fee
  have zgE:=by exists "word","Pay.word",zgk,qaa,a_Pay
  have zg2:=by exists "word","Due.word",zga,qaa,a_Due
  have zfI:=by exists "word","Turn.word",zfc,qaa,a_Turn
  have zfY:=by exists "word","Rate.word",zeW,qaa,a_Rate
  have zfZ:=by exists "word","Late.word",zfk,qaa,a_Late
  have zeU:=by exists "word","Still.word",zel,qaa,a_Still
  have zfJ:=by exists "word","Entry.word",zeg,qaa,a_Entry
  have ziY:=by exists "__init__","AmountEntry.__init__",zaa,qaj,a_Due
  have zjy:=by exists "__init__","AmountEntry.__init__",zaa,qaj,a_Fee
  have zie:=by exists "__init__","RateEntry.__init__",za5,qap,a_Late
  have zjD:=by exists "__init__","AmountEntry.__init__",zaa,qaj,a_Out
  have zja:=by exists "__init__","AmountEntry.__init__",zaa,qaj,a_Pay
  have zh5:=by exists "__init__","RateEntry.__init__",za5,qap,a_Rate
  have zgR:=by exists "__init__","Still.__init__",zek,qay,a_Still
  have zhQ:=by exists "__init__","Entry.__init__",zbv,qab,a_Turn
  have zeM:=by
   refine' zwV (m:="__init__") (qual:="Entry.__init__") (st:=zbv) (ps:=qab) a_Entry ?x1 ?x2 ?x3 ?x4 ?k ?l ?c ?b
   (case x1|x2|x3=>k_is);(case x4=>rfl);(case k|l|c=>k_is)
   case b=>exact L2.us2 fun _ _=>rfl
  have zb8:=by
   refine' zL (name:="due_sums") a_Book ?_
   k_is
  have zbp:=by
   refine' zL (name:="fee_sums") a_Book ?_
   k_is
  have zbP:=by
   refine' zL (name:="late_rows") a_Book ?_
   k_is
  have zbm:=by
   refine' zL (name:="out_sums") a_Book ?_
   k_is
  have zbM:=by
   refine' zL (name:="own_count") a_Book ?_
   k_is
  have zcn:=by
   refine' zL (name:="own_entries") a_Book ?_
   k_is
  have zbO:=by
   refine' zL (name:="own_grace") a_Book ?_
   k_is
  have zbs:=by
   refine' zL (name:="pay_sums") a_Book ?_
   k_is
  have zbQ:=by
   refine' zL (name:="rate_rows") a_Book ?_
   k_is
  have zch:=by
   refine' zL (name:="spans") a_Book ?_
   k_is
  have zbe:=by
   refine' zL (name:="turn_days") a_Book ?_
   k_is
  have zaU:=by
   refine' zL (name:="cent_units") a_Debt ?_
   k_is
  have zT:=by
   refine' zL (name:="owed_units") a_Debt ?_
   k_is
  have zK:=by
   refine' zL (name:="principal_cents") a_Debt ?_
   k_is
  have zh6:=by exists "grow","Debt.grow",ze6,qat,a_Debt
  have zik:=by exists "__init__","Debt.__init__",zfe,qaq,a_Debt
  have zhS:=by exists "owed","Debt.owed",zfj,qaa,a_Debt
  have zdB:=by exists "principal","Debt.principal",zce,qaa,a_Debt
  have zgF:=by exists "units","Debt.units",zdS,qaa,a_Debt
  have zgN:=by exists "count","Book.count",zei,qaa,a_Book
  have zdx:=by exists "deed_days","Book.deed_days",zb3,qaa,a_Book
  have ziq:=by exists "dues","Book.dues",ze1,qaa,a_Book
  have zhO:=by exists "fees","Book.fees",zfa,qaa,a_Book
  have zhc:=by exists "grace","Book.grace",zeo,qaa,a_Book
  have zgL:=by exists "lates","Book.lates",zeh,qaa,a_Book
  have zh1:=by exists "outs","Book.outs",zfm,qaa,a_Book
  have zhJ:=by exists "pays","Book.pays",zfb,qaa,a_Book
  have zg7:=by exists "rates","Book.rates",zd6,qaa,a_Book
  have zfA:=by exists "stills","Book.stills",zdk,qaa,a_Book
  have zgI:=by exists "turns","Book.turns",zee,qaa,a_Book
  have zdy:=by exists "add_cents","Debt.add_cents",zb2,qac,a_Debt
  have zh8:=by exists "turn","Debt.turn",zeX,qaa,a_Debt
  have zhN:=by exists "copy","Debt.copy",ze9,qaa,a_Debt
  have zi0:=by exists "fee","Debt.fee",zf6,qac,a_Debt
  have zib:=by exists "lend","Debt.lend",zfo,qac,a_Debt
  have zhK:=by exists "take","Debt.take",zfh,qac,a_Debt
  have zh7:=by exists "__init__","Book.__init__",zeY,qbd,a_Book
  have zbU:=by refine' zeG (mg:=mg) (x:="FIRST_YEAR") (i:=2000) KX G ?a;case a=>k_is
  have zgf:=by refine' zeG (mg:=mg) (x:="LAST_DAY") (i:=999999) KX G ?a;case a=>k_is
  have zkC:=by
   refine' zvE (mg:=mg) (x:="LENGTHS") (xs:=[.int 31,.int 28,.int 31,.int 30,.int 31,.int 30,.int 31,.int 31,.int 30,.int 31,.int 30,.int 31]) KX G ?a ?l ?r ?z
   case a|l=>k_is
   (case r=>repeat (first | exact .nil | refine .cons ⟨_,rfl⟩ ?_))
   (case z=>decide)
  have zet:=by refine' zeG (mg:=mg) (x:="MOST_ENTRIES") (i:=500) KX G ?a;case a=>k_is
  have zhi:=by refine' zeG (mg:=mg) (x:="MOST_GRACE") (i:=366) KX G ?a;case a=>k_is
  have zhn:=by refine' zeG (mg:=mg) (x:="RATE_PARTS") (i:=10000) KX G ?a;case a=>k_is
  have zgV:=by refine' zeG (mg:=mg) (x:="ROUND_DAYS") (i:=146097) KX G ?a;case a=>k_is
  have zfD:=by refine' zeG (mg:=mg) (x:="ROUND_YEARS") (i:=400) KX G ?a;case a=>k_is
  have zjE:=by exists "table_of",zgg,qal
  have znn:=by exists "begun",zla,qah
  have zi4:=by exists "sum_upto",zf4,qah
  have zez:=by exists "running_sums",zcQ,["rows"]
  have zlT:=by exists "joined",ziT,["spans"]
  have zl0:=by exists "breaks",zjs,qbf
  have zjg:=by exists "is_whole",zgd,["thing"]
  have zke:=by exists "is_leap",zhp,qai
  have zjd:=by exists "new_year",zf8,qai
  have zl5:=by exists "summed",zjH,qal
  have zhl:=by exists "_law_whole",zdQ,qau
  have zir:=by exists "_law_draw",zfp,qbg
  have zio:=by exists "_law_spec",ze7,qbh
  have zg4:=by exists "_law_count",zem,qav
  have zfM:=by exists "_law_places",zdq,qaw
  have zfC:=by exists "_law_parted",zdd,qbi
  have zi3:=by exists "_law_gap",zgj,qbj
  have zjk:=by exists "value_at",zf3,qar
  have zlR:=by exists "handed",zjq,qae
  have zim:=by exists "late_sums",ze3,qag
  have znt:=by exists "moved",zkT,qak
  have zgX:=by exists "month_days",zdR,qax
  have zkc:=by exists "year_of",zhF,qan
  have zey:=by exists "turning_days",zcH,qag
  have zgT:=by exists "deeds_upto",zej,qao
  have zic:=by exists "is_within",zfn,qaz
  have zlM:=by exists "sum_by",zjB,qaf
  have zkb:=by exists "days_of",zhq,qaf
  have zgS:=by exists "rate_table",zd7,qaf
  have zfX:=by exists "still_spans",zdf,qbk
  have zh4:=by exists "_law_cell",ze5,qas
  have zgM:=by exists "_law_eased",zdX,qbl
  have zlW:=by exists "stands",zjr,qak
  have zkB:=by exists "date_of",zhs,qan
  have zdt:=by exists "is_never_above",zb5,qad
  have zlN:=by exists "gap_at",ziV,qbm
  have zfN:=by exists "check_terms",zdl,qba
  have zfE:=by exists "fallen_dues",zdr,qbb
  have zhj:=by exists "_law_specs",zec,qbn
  have zjn:=by exists "charging",zgh,qbo
  have zcs:=by exists "is_asked_no_more",zbG,qad
  have zj2:=by exists "burdens",zhw,qag
  have zji:=by exists "do_deeds",zf5,qbc
  have zgA:=by exists "_law_entry",zdY,qbp
  have zcc:=by exists "is_charged_no_more",zbh,qad
  have zh0:=by exists "is_kinder",ze8,qad
  have zgG:=by exists "charged_by",zd1,qbq
  have zhM:=by exists "_law_book",zfl,qbe
  have zeJ:=by exists "debts_behind",zcJ,qbr
  have zfQ:=by exists "accounts_at",zdi,qao
  have zkx:=by exists "account",zhA,qae
  have zpX:=by exists "owed",zmE,qae
  have zgC:=by exists "_law_holds",zeb,qbs
  have zoG:=by exists "law",zmy,qbt
  exact ⟨zoG,fun base=>zwz (⟨zsI,zky,zfw,zoM,zbc,zbD,zcg,zd8,zjF,zdF,zge,zbJ,zsv,(fun kd=>match kd with | .plain=>cls_Count | .bank=>cls_Bank | .thirty=>cls_Thirty | .exact=>cls_Exact),(fun kd=>match kd with | .plain=>zt8 | .bank=>zuT | .thirty=>zsa | .exact=>zt3),(fun kd=>match kd with | .plain=>ikK_Count | .bank=>ikK_Bank | .thirty=>ikK_Thirty | .exact=>ikK_Exact),(fun k=>match k with | .plain=>kK_Count_Count | .bank=>kK_Bank_Count | .thirty=>kK_Thirty_Count | .exact=>kK_Exact_Count),(fun kd=>match kd with | .plain=>kS_Count | .bank=>kS_Bank | .thirty=>kS_Thirty | .exact=>kS_Exact),zpV,zqv,zkW,zmh,zsb,ziJ,zm7,zsB,zqo,zsN,zsO,zp6,zmI,zlS,zpK,zu,zmW,zH,zk8,(fun k=>match k with | .out=>clE_Out | .fee=>clE_Fee | .pay=>clE_Pay | .due=>clE_Due | .turn=>clE_Turn | .rate=>clE_Rate | .late=>clE_Late | .still=>clE_Still | .base=>clE_Entry),(fun k=>match k with | .out=>zmR | .fee=>zm8 | .pay=>zne | .due=>zmN | .turn=>zmD | .rate=>zmH | .late=>zmz | .still=>zl2 | .base=>zlV),(fun k=>match k with | .out=>zqO | .fee=>zrl | .pay=>zqV | .due=>zqD | .turn=>zoY | .rate=>zpg | .late=>zqe | .still=>zoz | .base=>zoB),(fun k=>match k with | .out=>zpz | .fee=>zpT | .pay=>zpw | .due=>zph | .turn=>zot | .rate=>zoa | .late=>zoD | .still=>znh | .base=>zni),(fun k=>match k with | .out=>zog | .fee=>zou | .pay=>zoo | .due=>zn9 | .turn=>znk | .rate=>znu | .late=>znv | .still=>zmr | .base=>zmp),zpf,zp5,zm6,zo5,zpn,zmP,zlO,znd,zb8,zbp,zbP,zbm,zbM,zcn,zbO,zbs,zbQ,zch,zbe,zaU,zT,zK,zbU,zgf,zkC,zet,zhi,zhn,zgV,zfD⟩:My.Txt _ mg) zjE znn zi4 zez zlT zl0 zjg zke zjd zl5 zhl zir zio zg4 zfM zfC zi3 zjk zlR zim znt zgX zkc zey zgT zic zlM zkb zgS zfX zh4 zgM zlW zkB zdt zlN zfN zfE zhj zjn zcs zj2 zji zgA zcc zh0 zgG zhM zeJ zfQ zkx zpX zgC zoG zg9 zgD zgE zg2 zfI zfY zfZ zeU zfJ ziY zjy zie zjD zja zh5 zgR zhQ zeM zh6 zik zhS zdB zgF zgN zdx ziq zhO zhc zgL zh1 zhJ zg7 zfA zgI zdy zh8 zhN zi0 zib zhK zh7 zgZ zhX zfF zgK zgu zhU zfO zhh zgy zis zfU zhm zgJ zhZ zfL zhf zex zfP zen zeC⟩
